/- The walks of package stuff's Stuff and Unstuff. -/
import Derived.Test.YtdpfmpbnahhjmaaData
namespace Go.Proofs.Ytdpfmpbnahhjmaa
open Go.RowKit Go.Lib

def B.stfS (s : ByteArray) : ByteArray := ⟨(B.stf s.data.toList).2.toArray⟩
theorem B.stfS_list (s : ByteArray) : (B.stfS s).data.toList = (B.stf s.data.toList).2 := rfl
theorem B.stfS_size (s : ByteArray) : (B.stfS s).size = (B.stf s.data.toList).2.length := by simp [B.stfS, ByteArray.size]

set_option maxHeartbeats 400000 in
theorem stuff_no (s : ByteArray) (w : World) (hs : s.size ≤ maxLen) (hr : B.right s = false) :
    Calls Try.prog 30 #[.string s] w fun e w' => e = .returned (.tuple #[.string ⟨#[]⟩, .int .i64 1]) ∧ w = w' := by
  go_enter Try.func30, Try.ntmps30
  go_wp2_with (go_at_call 34; (with_reducible refine (right_any _ _ hs).mono ?_); rintro e w' ⟨rfl, rfl⟩)
  go_ret2
  exact ⟨rfl, rfl⟩

set_option maxHeartbeats 400000 in
theorem stuff_long (s : ByteArray) (w : World) (hr : B.right s = true) (hl : 4000 < (B.stfS s).size) :
    Calls Try.prog 30 #[.string s] w fun e w' => e = .returned (.tuple #[.string ⟨#[]⟩, .int .i64 2]) ∧ Below w.heap.size w w' := by
  have hmf := makeFunc_run
  have h4 := B.right_size hr
  have hT := Lib.hid (filled_any s w.heap.size (w.alloc (.cells #[.int .u8 0, .int .i64 0] 83)) h4 (B.right_all hr) (two_new _ _ _ _))
  have hA := Lib.hid (show Below w.heap.size w (w.alloc (.cells #[.int .u8 0, .int .i64 0] 83)) from (Below.refl _ _).alloc (Nat.le_refl _) _)
  rw [show (⟨(B.stf s.data.toList).2.toArray⟩ : ByteArray) = B.stfS s from rfl] at hT
  go_enter Try.func30, Try.ntmps30
  go_wp2_with (first | (go_at_call 34; (with_reducible refine (right_any _ _ (by unfold maxLen; omega)).mono ?_); rintro e w' ⟨rfl, rfl⟩) | (go_at_call 48; (with_reducible refine hT.out.mono ?_); rintro e w' ⟨rfl, hb⟩))
  go_ret2
  exact ⟨rfl, hA.out.trans hb⟩

set_option maxHeartbeats 400000 in
theorem stuff_yes (s : ByteArray) (w : World) (hr : B.right s = true) (hl : (B.stfS s).size ≤ 4000) :
    Calls Try.prog 30 #[.string s] w fun e w' => e = .returned (.tuple #[.string (B.stfS s), .int .i64 0]) ∧ Below w.heap.size w w' := by
  have hmf := makeFunc_run
  have h4 := B.right_size hr
  have hT := Lib.hid (filled_any s w.heap.size (w.alloc (.cells #[.int .u8 0, .int .i64 0] 83)) h4 (B.right_all hr) (two_new _ _ _ _))
  have hA := Lib.hid (show Below w.heap.size w (w.alloc (.cells #[.int .u8 0, .int .i64 0] 83)) from (Below.refl _ _).alloc (Nat.le_refl _) _)
  rw [show (⟨(B.stf s.data.toList).2.toArray⟩ : ByteArray) = B.stfS s from rfl] at hT
  go_enter Try.func30, Try.ntmps30
  go_wp2_with (first | (go_at_call 34; (with_reducible refine (right_any _ _ (by unfold maxLen; omega)).mono ?_); rintro e w' ⟨rfl, rfl⟩) | (go_at_call 48; (with_reducible refine hT.out.mono ?_); rintro e w' ⟨rfl, hb⟩))
  go_ret2
  exact ⟨rfl, hA.out.trans hb⟩

end Go.Proofs.Ytdpfmpbnahhjmaa
