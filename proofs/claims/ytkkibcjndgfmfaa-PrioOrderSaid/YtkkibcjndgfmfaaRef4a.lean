/- The walks of the reference's Right and Head (layer 4). -/
import Derived.Test.YtkkibcjndgfmfaaTwo
import Derived.Test.YtkkibcjndgfmfaaRefOf
import Derived.Test.YtkkibcjndgfmfaaPlain
namespace Go.Proofs.Ytkkibcjndgfmfaa
open Go.RowKit Go.Lib

def B.frI (id : Nat) (ext rem : Bool) (dlc : Int) (n : Nat) : Bool := decide (0 ≤ dlc ∧ dlc ≤ 8) && (if rem then decide (n = 0) else decide ((n : Int) = dlc)) && decide (id < if ext then 536870912 else 2048)
/-- a frame's cells -/
abbrev frV (id : Nat) (ext rem : Bool) (dlc : Int) (data : ByteArray) : Array Value := #[.int .u32 id, .bool ext, .bool rem, .int .i64 dlc, .string data]

theorem toList_nil (d : ByteArray) : d.toList = [] ↔ d.size = 0 := by
  rw [ByteArray.toList_eq, ← List.length_eq_zero_iff, B.size_len]

set_option maxHeartbeats 1000000 in
theorem refright4_any (id : Nat) (ext rem : Bool) (dlc : Int) (data : ByteArray) (w : World) :
    Calls Try.prog 9 #[.agg (frV id ext rem dlc data)] w fun e w' => e = .returned (.bool (B.frI id ext rem dlc data.size)) ∧ w' = w.alloc (.cells (frV id ext rem dlc data) 25) := by
  by_cases h1 : dlc < 0
  · have hR := Lib.hid (show B.frI id ext rem dlc data.size = false from by unfold B.frI; rw [decide_eq_false (by omega)]; rfl)
    go_enter Try.func9, Try.ntmps9
    go_wp2
    go_ret
    exact ⟨ret_bool hR.out.symm, rfl⟩
  · by_cases h2 : 8 < dlc
    · have hR := Lib.hid (show B.frI id ext rem dlc data.size = false from by unfold B.frI; rw [decide_eq_false (by omega)]; rfl)
      have h1' : ¬ dlc < 0 := h1
      go_enter Try.func9, Try.ntmps9
      go_wp2
      go_ret
      exact ⟨ret_bool hR.out.symm, rfl⟩
    · have h2' : dlc ≤ 8 := by omega
      cases rem
      · go_enter Try.func9, Try.ntmps9
        go_wp2
        all_goals
          go_ret
          refine ⟨ret_bool ?_, by simp [*]⟩
          simp only [bne_iff_ne, ne_eq, bne_eq_false_iff_eq] at *
          rw [Bool.eq_iff_iff]
          simp [B.frI, *]
          try omega
      · go_enter Try.func9, Try.ntmps9
        go_wp2
        all_goals
          go_ret
          refine ⟨ret_bool ?_, by simp [*]⟩
          simp only [toList_nil] at *
          rw [Bool.eq_iff_iff]
          simp [B.frI, *]
          try omega
end Go.Proofs.Ytkkibcjndgfmfaa
