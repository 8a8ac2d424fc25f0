/- Own texts joined: Of Sum Take Filled Data Stuff. -/
import Derived.Test.YthgbfidghhlldabRows
import Derived.WalkKit
import Derived.WalkSpells
import Derived.WalkLawsBesides
import Derived.Deep.QuietTactic
import Derived.BigQuiet
import Derived.WalkSmall
import Derived.Deep.AppendLies
import Derived.Test.YthgbfidghhlldabUtil
import Derived.Test.YthgbfidghhlldabJ4
import Derived.OneCell
import Derived.Test.YthgbfidghhlldabTwo
import Derived.Test.YthgbfidghhlldabPlain
/- Of -/
namespace Go.Proofs.Ythgbfidghhlldab
open Go.RowKit Go.Lib

theorem Try.info5 : (Try.prog.info? 5).map (fun i => (i.zero, i.size, i.bytes)) = some (some (.int .u8 0), 1, 1) := by kernel_rfl

set_option maxRecDepth 100000 in
set_option maxHeartbeats 400000 in
theorem of_no (n width : Int) (w : World) (h : width < 0 ∨ 64 < width ∨ (0 ≤ width ∧ (n / 2 ^ width.toNat != 0) = true)) :
    Calls Try.prog 49 #[.int .u64 n, .int .i64 width] w fun e w' => e = .returned (.tuple #[.string ⟨#[]⟩, .int .i64 1]) ∧ w = w' := by
  go_enter Try.func49, Try.ntmps49
  by_cases h1 : width < 0
  · clear h
    go_wp2
    go_ret2
    exact ⟨rfl, rfl⟩
  · by_cases h2 : 64 < width
    · clear h
      go_wp2
      go_ret2
      exact ⟨rfl, rfl⟩
    · have h3 : (n / 2 ^ width.toNat != 0) = true := by rcases h with h | h | h; omega; omega; exact h.2
      clear h
      go_wp2
      go_ret2
      exact ⟨rfl, rfl⟩

set_option maxRecDepth 100000 in
set_option maxHeartbeats 400000 in
theorem of_yes (n k : Nat) (w : World) (h1 : k ≤ 64) (hn : n < 2 ^ k) :
    Calls Try.prog 49 #[.int .u64 n, .int .i64 k] w fun e w' => e = .returned (.tuple #[.string (B.ofn n k), .int .i64 0]) ∧ Below w.heap.size w w' := by
  go_enter Try.func49, Try.ntmps49
  obtain ⟨i0, hi, hz0, hz1, hz2⟩ := info_parts Try.info5
  have h3 : ((n : Int) / 2 ^ k != 0) = false := B.shr_zero n k hn
  obtain ⟨B0, hB⟩ : ∃ b, b = w.heap.size := ⟨_, rfl⟩
  rw [← hB]
  have HB := Lib.hid hB
  clear hB
  go_wp2_with (at_make; refine wpList_make_full _ rfl _ _ 58 rfl B0 5 i0 (.int .u8 0) 1 Try.underlying58 hi hz0 hz1 _ _ _ _ k rfl rfl rfl rfl ?b1 ?b2 ?b3 ?_)
  case b1 => rw [hz2]; omega
  case b2 => unfold maxLen; omega
  case b3 => rw [HB.out]; exact Nat.le_refl _
  intro w1 hown hgr
  rw [← HB.out] at hown
  rw [← HB.out]
  have hb1 : Below B0 w w1 := (Below.refl _ _).grown hgr (by rw [HB.out]; exact Nat.le_refl _) (by intro _ h; cases h)
  clear hgr
  go_wp2
  go_loopw [24] (fun i wr => ∃ j : Nat, j ≤ k ∧ i = .int .i64 j ∧ wr.ownsRow B0 5 1 (.slice (some ⟨B0, 0, none⟩) k k) k (B.rowAt n k j) ∧ Below B0 w wr) (fun i _ => k - (intOf i).toNat)
  case atStart => exact ⟨0, Nat.zero_le _, rfl, by rw [B.rowAt_zero, ← toList_madeCells_one]; exact hown, hb1⟩
  case round =>
    obtain ⟨j, hj, rfl, ho, hb⟩ := hrel
    by_cases hlt : j < k
    · have hz := ho.frozenAt j
      obtain ⟨v0, hv0⟩ := B.rowAt_some n k j hlt
      have hc := ho.cellAt j (by omega)
      rw [hv0] at hc
      have hst := Lib.hid (B.byte_step n k j hn h1)
      have hset := Lib.hid (B.rowAt_set n k j hlt)
      have HO := Lib.hid ho
      clear hown ho hv0
      go_wp2
      go_roundw
      case rel =>
        refine ⟨j + 1, by omega, by go_num, ?_, hb.setCell (Nat.le_refl _) _⟩
        rw [hst.out, ← hset.out]
        exact (HO.out.stored j _).1
      case measure => simp [intOf]; omega
    · have hjk : j = k := by omega
      rw [hjk, B.rowAt_full] at ho
      have hback := run_back_own (P := Try.prog) 58 9 (B.ofl n k) (B.ofl_length n k) Try.underlying58 Try.underlying5 Try.underlying9 ho
      clear hown hjk ho
      go_wp2
      go_ret2
      exact ⟨rfl, hb⟩

theorem of_num (t : ByteArray) (w : World) (h : t.size ≤ 64) (hr : B.right t = true) :
    Calls Try.prog 49 #[.int .u64 (B.num t.data.toList), .int .i64 t.size] w fun e w' => e = .returned (.tuple #[.string t, .int .i64 0]) ∧ Below w.heap.size w w' := by
  have := of_yes (B.num t.data.toList) t.size w h (by rw [← B.size_len]; exact B.num_lt _ (B.right_all hr))
  rw [B.ofn_num t (B.right_all hr)] at this
  exact this
end Go.Proofs.Ythgbfidghhlldab

/- Sum -/
namespace Go.Proofs.Ythgbfidghhlldab
open Go.RowKit Go.Lib

/-- a sum in fifteen bits -/
theorem of_15 (n : Nat) (w : World) (h : n < 32768) : Calls Try.prog 49 #[.int .u64 n, .int .i64 15] w fun e w' => e = .returned (.tuple #[.string (B.ofn n 15), .int .i64 0]) ∧ Below w.heap.size w w' :=
  of_yes n 15 w (by omega) (by omega)

end Go.Proofs.Ythgbfidghhlldab

/- Take -/
namespace Go.Proofs.Ythgbfidghhlldab
open Go.RowKit Go.Lib

theorem mayB_of {x n : Nat} (h : B.may (x, n)) : B.mayB x n = true := by
  unfold B.may at h; simp only at h; simp only [B.mayB, decide_eq_true_eq]; omega
theorem bitB_of {c : UInt8} (h : B.okc c = true) : B.bitB c.toNat = true := by
  simp only [B.bitB, decide_eq_true_eq]; exact (B.okc_iff c).1 h

end Go.Proofs.Ythgbfidghhlldab

/- Filled -/
namespace Go.Proofs.Ythgbfidghhlldab
open Go.RowKit Go.Lib

theorem B.other_xor {c : UInt8} (h : B.okc c = true) : bits BinOp.xor IntKind.u8 (bits BinOp.xor IntKind.u8 (c.toNat : Int) 48) 49 = ((B.other c).toNat : Int) := by
  rcases B.okc_cases h with rfl | rfl <;> decide

end Go.Proofs.Ythgbfidghhlldab

/- Data -/
namespace Go.Proofs.Ythgbfidghhlldab
open Go.RowKit Go.Lib

def B.ustS (s : ByteArray) : ByteArray := match B.ust s.data.toList with | none => ⟨#[]⟩ | some p => ⟨p.2.toArray⟩
def B.ustK (s : ByteArray) : Bool := (B.ust s.data.toList).isSome
end Go.Proofs.Ythgbfidghhlldab

/- Stuff -/
namespace Go.Proofs.Ythgbfidghhlldab
open Go.RowKit Go.Lib

def B.stfS (s : ByteArray) : ByteArray := ⟨(B.stf s.data.toList).2.toArray⟩
theorem B.stfS_list (s : ByteArray) : (B.stfS s).data.toList = (B.stf s.data.toList).2 := rfl
theorem B.stfS_size (s : ByteArray) : (B.stfS s).size = (B.stf s.data.toList).2.length := by simp [B.stfS, ByteArray.size]

end Go.Proofs.Ythgbfidghhlldab
