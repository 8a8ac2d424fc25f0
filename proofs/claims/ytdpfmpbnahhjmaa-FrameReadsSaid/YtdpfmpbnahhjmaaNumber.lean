/- The walk of package bits' Number. -/
import Derived.Test.YtdpfmpbnahhjmaaRows
import Derived.WalkKit
import Derived.WalkSpells
import Derived.WalkLawsBesides
import Derived.Deep.QuietTactic
import Derived.BigQuiet
import Derived.WalkSmall
import Derived.Deep.AppendLies
import Derived.Test.YtdpfmpbnahhjmaaRight
namespace Go.Proofs.Ytdpfmpbnahhjmaa
open Go.RowKit Go.Lib

set_option maxHeartbeats 400000 in
theorem number_yes (s : ByteArray) (w : World) (hs : s.size ≤ 64) (hr : B.right s = true) :
    Calls Try.prog 62 #[.string s] w fun e w' => e = .returned (.tuple #[.int .u64 (B.num s.data.toList), .int .i64 0]) ∧ w = w' := by
  go_enter Try.func62, Try.ntmps62
  have hs' : s.size ≤ maxLen := by unfold maxLen; omega
  go_wp2_with (go_at_call 34; refine (right_any _ _ hs').mono ?_; rintro e w' ⟨rfl, rfl⟩)
  go_loop [4, 16] (fun n i => ∃ k : Nat, k ≤ s.size ∧ i = .int .i64 k ∧ n = .int .u64 (B.num (s.data.toList.take k))) (fun _ i => s.size - (intOf i).toNat)
  case atStart => exact ⟨0, Nat.zero_le _, rfl, rfl⟩
  case round =>
    obtain ⟨k, hk, rfl, rfl⟩ := hrel
    by_cases hlt : k < s.size
    · have hb : 48 ≤ s[k].toNat ∧ s[k].toNat ≤ 49 := B.right_bound hr k hlt
      have hn : B.num (s.data.toList.take k) < 2 ^ 63 := B.num_take_lt hr k (by omega)
      obtain ⟨m, hm⟩ : ∃ m, m = B.num (s.data.toList.take k) := ⟨_, rfl⟩
      obtain ⟨b, hbb⟩ : ∃ b, b = s[k].toNat - 48 := ⟨_, rfl⟩
      have hm2 : (m : Int) < 9223372036854775808 := by omega
      have hst := Lib.hid (B.or_step m b (by omega) (by omega))
      have hsn := Lib.hid (B.num_take_succ s k hlt)
      rw [← hm]
      have hm' := Lib.hid hm
      clear hm
      have hbb' := Lib.hid hbb
      clear hbb hn
      go_wp2
      go_round
      case rel => exact ⟨k + 1, by omega, by go_num, val_u64 (by rw [show ((s[k].toNat : Int) - 48) = ((b : Nat) : Int) from by have := hbb'.out; omega, hst.out, hsn.out, ← hm'.out, hbb'.out])⟩
      case measure => simp [intOf]; omega
    · have hb := Lib.hid (show s.data.toList.take k = s.data.toList from List.take_of_length_le (by rw [B.size_len]; omega))
      go_wp2
      go_ret2
      exact ⟨ret_u64 (by rw [hb.out]), rfl⟩

set_option maxHeartbeats 400000 in
theorem number_no (s : ByteArray) (w : World) (hs : s.size ≤ maxLen) (hr : B.right s = false ∨ 64 < s.size) :
    Calls Try.prog 62 #[.string s] w fun e w' => e = .returned (.tuple #[.int .u64 0, .int .i64 1]) ∧ w = w' := by
  go_enter Try.func62, Try.ntmps62
  by_cases h : 64 < s.size
  · have h' : (64 : Int) < s.size := by omega
    go_wp2_with (go_at_call 34; refine (right_any _ _ hs).mono ?_; rintro e w' ⟨rfl, rfl⟩)
    go_ret2
    exact ⟨rfl, rfl⟩
  · have hr' : B.right s = false := by rcases hr with h1 | h1; exact h1; omega
    have h' : ¬ (64 : Int) < s.size := by omega
    clear hr
    go_wp2_with (go_at_call 34; refine (right_any _ _ hs).mono ?_; rintro e w' ⟨rfl, rfl⟩)
    go_ret2
    exact ⟨rfl, rfl⟩
end Go.Proofs.Ytdpfmpbnahhjmaa
