/- Own texts joined: RefOf Ref4a. -/
import Derived.Test.YthgbfidghhlldabRows
import Derived.WalkKit
import Derived.WalkSpells
import Derived.WalkLawsBesides
import Derived.Deep.QuietTactic
import Derived.BigQuiet
import Derived.WalkSmall
import Derived.Deep.AppendLies
import Derived.Test.YthgbfidghhlldabUtil
import Derived.Test.YthgbfidghhlldabTwo
import Derived.Test.YthgbfidghhlldabPlain
/- RefOf -/
namespace Go.Proofs.Ythgbfidghhlldab
open Go.RowKit Go.Lib

set_option maxRecDepth 100000 in
set_option maxHeartbeats 400000 in
theorem refof_any (n k : Nat) (w : World) (hk : k ≤ 64) (hn : n < 18446744073709551616) :
    Calls Try.prog 29 #[.int .u64 n, .int .i64 k] w fun e w' => e = .returned (.string (B.ofn n k)) ∧ w = w' := by
  go_enter Try.func29, Try.ntmps29
  go_wp2
  go_loop [0, 5, 6] (fun m o i => ∃ j : Nat, j ≤ k ∧ i = .int .i64 j ∧ m = .int .u64 (n / 2 ^ j : Nat) ∧ o = .string (B.ofn n j)) (fun _ _ i => k - (intOf i).toNat)
  case atStart => exact ⟨0, Nat.zero_le _, rfl, by simp, rfl⟩
  case round =>
    obtain ⟨j, hj, rfl, rfl, rfl⟩ := hrel
    obtain ⟨m, hm⟩ : ∃ m, n / 2 ^ j = m := ⟨_, rfl⟩
    have hml : m ≤ n := by rw [← hm]; exact Nat.div_le_self _ _
    have hm2 : n / 2 ^ (j + 1) = m / 2 := by rw [Nat.pow_succ, ← Nat.div_div_eq_div_mul, hm]
    have hz := B.ofn_size n j
    rw [hm]
    have H1 := Lib.hid hm
    have H2 := Lib.hid hm2
    have hz1 : (B.ofn n j).size ≤ 64 := by omega
    clear hm hm2 hz
    by_cases hlt : j < k
    · rcases Nat.mod_two_eq_zero_or_one m with h1 | h1
      · have hs := Lib.hid (B.ofn_zero (n := n) (k := j) (by rw [H1.out]; exact h1))
        have ht : ((m : Int) % 2 == 1) = false := by simp; omega
        clear h1
        go_wp2
        go_round
        case rel => exact ⟨j + 1, by omega, by go_num, val_u64 (by rw [H2.out]; omega), val_str hs.out⟩
        case measure => simp [intOf]; omega
      · have hs := Lib.hid (B.ofn_one (n := n) (k := j) (by rw [H1.out]; exact h1))
        have ht : ((m : Int) % 2 == 1) = true := by simp; omega
        clear h1
        go_wp2
        go_round
        case rel => exact ⟨j + 1, by omega, by go_num, val_u64 (by rw [H2.out]; omega), val_str hs.out⟩
        case measure => simp [intOf]; omega
    · go_wp2
      go_ret
      exact ⟨ret_str1 (by rw [show k = j from by omega]), rfl⟩
end Go.Proofs.Ythgbfidghhlldab

/- Ref4a -/
namespace Go.Proofs.Ythgbfidghhlldab
open Go.RowKit Go.Lib

def B.frI (id : Nat) (ext rem : Bool) (dlc : Int) (n : Nat) : Bool := decide (0 ≤ dlc ∧ dlc ≤ 8) && (if rem then decide (n = 0) else decide ((n : Int) = dlc)) && decide (id < if ext then 536870912 else 2048)
/-- a frame's cells -/
abbrev frV (id : Nat) (ext rem : Bool) (dlc : Int) (data : ByteArray) : Array Value := #[.int .u32 id, .bool ext, .bool rem, .int .i64 dlc, .string data]

theorem toList_nil (d : ByteArray) : d.toList = [] ↔ d.size = 0 := by
  rw [ByteArray.toList_eq, ← List.length_eq_zero_iff, B.size_len]

set_option maxHeartbeats 1000000 in
theorem refright4_any (id : Nat) (ext rem : Bool) (dlc : Int) (data : ByteArray) (w : World) :
    Calls Try.prog 6 #[.agg (frV id ext rem dlc data)] w fun e w' => e = .returned (.bool (B.frI id ext rem dlc data.size)) ∧ w' = w.alloc (.cells (frV id ext rem dlc data) 25) := by
  by_cases h1 : dlc < 0
  · have hR := Lib.hid (show B.frI id ext rem dlc data.size = false from by unfold B.frI; rw [decide_eq_false (by omega)]; rfl)
    go_enter Try.func6, Try.ntmps6
    go_wp2
    go_ret
    exact ⟨ret_bool hR.out.symm, rfl⟩
  · by_cases h2 : 8 < dlc
    · have hR := Lib.hid (show B.frI id ext rem dlc data.size = false from by unfold B.frI; rw [decide_eq_false (by omega)]; rfl)
      have h1' : ¬ dlc < 0 := h1
      go_enter Try.func6, Try.ntmps6
      go_wp2
      go_ret
      exact ⟨ret_bool hR.out.symm, rfl⟩
    · have h2' : dlc ≤ 8 := by omega
      cases rem
      · go_enter Try.func6, Try.ntmps6
        go_wp2
        all_goals
          go_ret
          refine ⟨ret_bool ?_, by simp [*]⟩
          simp only [bne_iff_ne, ne_eq, bne_eq_false_iff_eq] at *
          rw [Bool.eq_iff_iff]
          simp [B.frI, *]
          try omega
      · go_enter Try.func6, Try.ntmps6
        go_wp2
        all_goals
          go_ret
          refine ⟨ret_bool ?_, by simp [*]⟩
          simp only [toList_nil] at *
          rw [Bool.eq_iff_iff]
          simp [B.frI, *]
          try omega
end Go.Proofs.Ythgbfidghhlldab
