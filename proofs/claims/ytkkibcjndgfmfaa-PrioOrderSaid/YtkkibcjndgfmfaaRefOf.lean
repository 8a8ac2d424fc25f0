/- The walk of the reference's Of (layer 1). -/
import Derived.Test.YtkkibcjndgfmfaaRows
import Derived.WalkKit
import Derived.WalkSpells
import Derived.WalkLawsBesides
import Derived.Deep.QuietTactic
import Derived.BigQuiet
import Derived.WalkSmall
import Derived.Deep.AppendLies
import Derived.Test.YtkkibcjndgfmfaaUtil
namespace Go.Proofs.Ytkkibcjndgfmfaa
open Go.RowKit Go.Lib

set_option maxRecDepth 100000 in
set_option maxHeartbeats 400000 in
theorem refof_any (n k : Nat) (w : World) (hk : k ≤ 64) (hn : n < 18446744073709551616) :
    Calls Try.prog 32 #[.int .u64 n, .int .i64 k] w fun e w' => e = .returned (.string (B.ofn n k)) ∧ w = w' := by
  go_enter Try.func32, Try.ntmps32
  go_wp2
  go_loop [0, 5, 6] (fun m o i => ∃ j : Nat, j ≤ k ∧ i = .int .i64 j ∧ m = .int .u64 (n / 2 ^ j : Nat) ∧ o = .string (B.ofn n j)) (fun _ _ i => k - (intOf i).toNat)
  case atStart => exact ⟨0, Nat.zero_le _, rfl, by simp, rfl⟩
  case round =>
    obtain ⟨j, hj, rfl, rfl, rfl⟩ := hrel
    obtain ⟨m, hm⟩ : ∃ m, n / 2 ^ j = m := ⟨_, rfl⟩
    have hml : m ≤ n := by rw [← hm]; exact Nat.div_le_self _ _
    have hm2 : n / 2 ^ (j + 1) = m / 2 := by rw [Nat.pow_succ, ← Nat.div_div_eq_div_mul, hm]
    have hz := B.ofn_size n j
    rw [hm]
    have H1 := Lib.hid hm
    have H2 := Lib.hid hm2
    have hz1 : (B.ofn n j).size ≤ 64 := by omega
    clear hm hm2 hz
    by_cases hlt : j < k
    · rcases Nat.mod_two_eq_zero_or_one m with h1 | h1
      · have hs := Lib.hid (B.ofn_zero (n := n) (k := j) (by rw [H1.out]; exact h1))
        have ht : ((m : Int) % 2 == 1) = false := by simp; omega
        clear h1
        go_wp2
        go_round
        case rel => exact ⟨j + 1, by omega, by go_num, val_u64 (by rw [H2.out]; omega), val_str hs.out⟩
        case measure => simp [intOf]; omega
      · have hs := Lib.hid (B.ofn_one (n := n) (k := j) (by rw [H1.out]; exact h1))
        have ht : ((m : Int) % 2 == 1) = true := by simp; omega
        clear h1
        go_wp2
        go_round
        case rel => exact ⟨j + 1, by omega, by go_num, val_u64 (by rw [H2.out]; omega), val_str hs.out⟩
        case measure => simp [intOf]; omega
    · go_wp2
      go_ret
      exact ⟨ret_str1 (by rw [show k = j from by omega]), rfl⟩
end Go.Proofs.Ytkkibcjndgfmfaa
