/- The walk of the reference's Step (layer 3). -/
import Derived.Test.YtdpfmpbnahhjmaaTwo
import Derived.Test.YtdpfmpbnahhjmaaStuff1
namespace Go.Proofs.Ytdpfmpbnahhjmaa
open Go.RowKit Go.Lib

set_option maxHeartbeats 400000 in
theorem refstp_any (b c n : Nat) (w : World) (hn : n ≤ 5) :
    Calls Try.prog 57 #[.agg #[.int .u8 b, .int .i64 n], .int .u8 c] w fun e w' => e = .returned (.tuple #[.agg #[.int .u8 (B.kn (b, n) c).1, .int .i64 (B.kn (b, n) c).2], .int .i64 (B.kind (b, n) c)]) ∧ Below w.heap.size w w' := by
  by_cases h : c = b
  · by_cases h5 : n = 5
    · rw [B.kind_err h h5, B.kn_err h h5]
      subst h h5
      go_enter Try.func57, Try.ntmps57
      go_wp2
      (refine bodyPost_ret (v := .tuple #[.agg #[.int .u8 c, .int .i64 5], .int .i64 3]) (by simp [results, Try.results57, go_sem]) rfl ⟨rfl, ?_⟩)
      repeat (first | exact Below.refl _ _ | refine Below.setCell ?_ (by first | (simp; done) | (simp; omega)) _ | refine Below.alloc ?_ (by first | (simp; done) | (simp; omega)) _)
    · rw [B.kind_more h h5, B.kn_more h h5]
      subst h
      go_enter Try.func57, Try.ntmps57
      go_wp2
      (refine bodyPost_ret (v := .tuple #[.agg #[.int .u8 c, .int .i64 ((n : Int) + 1)], .int .i64 1]) (by simp [results, Try.results57, go_sem]) rfl ⟨rfl, ?_⟩)
      repeat (first | exact Below.refl _ _ | refine Below.setCell ?_ (by first | (simp; done) | (simp; omega)) _ | refine Below.alloc ?_ (by first | (simp; done) | (simp; omega)) _)
  · have hne : ((c : Int) == b) = false := by simp; omega
    by_cases h5 : n = 5
    · rw [B.kind_put h h5, B.kn_one h]
      subst h5
      go_enter Try.func57, Try.ntmps57
      go_wp2
      (refine bodyPost_ret (v := .tuple #[.agg #[.int .u8 c, .int .i64 1], .int .i64 2]) (by simp [results, Try.results57, go_sem]) rfl ⟨rfl, ?_⟩)
      repeat (first | exact Below.refl _ _ | refine Below.setCell ?_ (by first | (simp; done) | (simp; omega)) _ | refine Below.alloc ?_ (by first | (simp; done) | (simp; omega)) _)
    · rw [B.kind_data h h5, B.kn_one h]
      go_enter Try.func57, Try.ntmps57
      go_wp2
      (refine bodyPost_ret (v := .tuple #[.agg #[.int .u8 c, .int .i64 1], .int .i64 1]) (by simp [results, Try.results57, go_sem]) rfl ⟨rfl, ?_⟩)
      repeat (first | exact Below.refl _ _ | refine Below.setCell ?_ (by first | (simp; done) | (simp; omega)) _ | refine Below.alloc ?_ (by first | (simp; done) | (simp; omega)) _)
end Go.Proofs.Ytdpfmpbnahhjmaa
