/- The walk of package bits' Right. -/
import Derived.Test.YtkkibcjndgfmfaaRows
import Derived.WalkKit
import Derived.WalkSpells
import Derived.WalkLawsBesides
import Derived.Deep.QuietTactic
import Derived.BigQuiet
import Derived.WalkSmall
import Derived.Deep.AppendLies
import Derived.Test.YtkkibcjndgfmfaaUtil
namespace Go.Proofs.Ytkkibcjndgfmfaa
open Go.RowKit Go.Lib

set_option maxHeartbeats 400000 in
theorem right_any (s : ByteArray) (w : World) (hs : s.size ≤ maxLen) :
    Calls Try.prog 57 #[.string s] w fun e w' => e = .returned (.bool (B.right s)) ∧ w = w' := by
  unfold maxLen at hs
  go_enter Try.func57, Try.ntmps57
  by_cases h : s.size ≤ 4000
  · go_wp2
    go_loop [9] (fun i => ∃ k : Nat, k ≤ s.size ∧ i = .int .i64 k ∧ B.pre s k) (fun i => s.size - (intOf i).toNat)
    case atStart => exact ⟨0, Nat.zero_le _, rfl, B.pre_zero s⟩
    case round =>
      obtain ⟨k, hk, rfl, hp⟩ := hrel
      by_cases hlt : k < s.size
      · by_cases h1 : s[k].toNat = 48
        · have hp' := B.pre_succ hlt hp (.inl h1)
          go_wp2
          go_round
          case rel => exact ⟨k + 1, by omega, by go_num, hp'⟩
          case measure => simp [intOf]; omega
        · by_cases h2 : s[k].toNat = 49
          · have hp' := B.pre_succ hlt hp (.inr h2)
            go_wp2
            go_round
            case rel => exact ⟨k + 1, by omega, by go_num, hp'⟩
            case measure => simp [intOf]; omega
          · have hb := Lib.hid (B.right_bad hlt h1 h2)
            have h3 : ((s[k].toNat : Int) != 48) = true := by simp; omega
            have h4 : ((s[k].toNat : Int) != 49) = true := by simp; omega
            go_wp2
            go_ret
            exact ⟨ret_bool hb.out.symm, rfl⟩
      · have hb := Lib.hid (B.right_of_pre h (by rw [show s.size = k from by omega]; exact hp))
        go_wp2
        go_ret
        exact ⟨ret_bool hb.out.symm, rfl⟩
  · have hb := Lib.hid (B.right_long h)
    have h3 : (4000 : Int) < s.size := by omega
    go_wp2
    go_ret
    exact ⟨ret_bool hb.out.symm, rfl⟩
end Go.Proofs.Ytkkibcjndgfmfaa
