/- The walk of the reference's Number (layer 1). -/
import Derived.Test.YtdpfmpbnahhjmaaTwo
namespace Go.Proofs.Ytdpfmpbnahhjmaa
open Go.RowKit Go.Lib

theorem B.num_dbl (m : Nat) (hm : m < 2 ^ 63) : IntKind.u64.wrap (2 * (m : Int)) = ((2 * m : Nat) : Int) := by
  have e : (2 * (m : Int)) = ((2 * m : Nat) : Int) := by omega
  rw [e]; exact IntWalk.u64_in _ (by omega)

set_option maxHeartbeats 400000 in
theorem refnum_any (s : ByteArray) (w : World) (hs : s.size ≤ 63) (hr : B.right s = true) :
    Calls Try.prog 26 #[.string s] w fun e w' => e = .returned (.int .u64 (B.num s.data.toList)) ∧ w = w' := by
  go_enter Try.func26, Try.ntmps26
  go_wp2
  go_loop [3, 4] (fun n i => ∃ k : Nat, k ≤ s.size ∧ i = .int .i64 k ∧ n = .int .u64 (B.num (s.data.toList.take k))) (fun _ i => s.size - (intOf i).toNat)
  case atStart => exact ⟨0, Nat.zero_le _, rfl, rfl⟩
  case round =>
    obtain ⟨k, hk, rfl, rfl⟩ := hrel
    by_cases hlt : k < s.size
    · have hb := B.right_bound hr k hlt
      have hl := B.num_take_lt hr k (by omega)
      have hn := Lib.hid (B.num_take_succ s k hlt)
      obtain ⟨m, hm⟩ : ∃ m, m = B.num (s.data.toList.take k) := ⟨_, rfl⟩
      rw [← hm] at hl hn ⊢
      clear hm
      by_cases h9 : s[k].toNat = 49
      · have h9' : ((s[k].toNat : Int) == 49) = true := by simp; omega
        go_wp2
        go_round
        case rel => exact ⟨k + 1, by omega, by go_num, val_u64 (by rw [hn.out]; omega)⟩
        case measure => simp [intOf]; omega
      · have h9' : ((s[k].toNat : Int) == 49) = false := by simp; omega
        go_wp2
        go_round
        case rel => exact ⟨k + 1, by omega, by go_num, val_u64 (by rw [hn.out]; omega)⟩
        case measure => simp [intOf]; omega
    · have hE := Lib.hid (show s.data.toList.take k = s.data.toList from List.take_of_length_le (by rw [B.size_len]; omega))
      rw [hE.out]
      go_wp2
      go_ret
      exact ⟨rfl, rfl⟩
end Go.Proofs.Ytdpfmpbnahhjmaa
