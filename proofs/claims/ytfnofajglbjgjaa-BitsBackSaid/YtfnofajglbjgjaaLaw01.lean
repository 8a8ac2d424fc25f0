/- The walks of what layer 1's laws call beside the program: alive, the reference's Right. -/
import Derived.Test.YtfnofajglbjgjaaBitsA
namespace Go.Proofs.Ytfnofajglbjgjaa
open Go.RowKit Go.Lib

theorem of_54 (w : World) : Calls Try.prog 9 #[.int .u64 5, .int .i64 4] w fun e w' => e = .returned (.tuple #[.string ⟨#[48, 49, 48, 49]⟩, .int .i64 0]) ∧ Below w.heap.size w w' :=
  of_yes 5 4 w (by omega) (by omega)
theorem right_54 : B.right ⟨#[48, 49, 48, 49]⟩ = true := by decide

set_option maxHeartbeats 400000 in
theorem alive_any (w : World) : Calls Try.prog 13 #[] w fun e w' => e = .returned (.bool true) ∧ Below w.heap.size w w' := by
  have hr := right_54
  go_enter Try.func13, Try.ntmps13
  go_wp2_with (first | (go_at_call 9; refine (of_54 _).mono ?_; rintro e w' ⟨rfl, hb⟩) | (go_at_call 11; refine (right_any _ _ (by decide)).mono ?_; rintro e w' ⟨rfl, rfl⟩))
  go_ret
  exact ⟨rfl, hb⟩


set_option maxHeartbeats 400000 in
theorem refright_any (s : ByteArray) (w : World) (hs : s.size ≤ maxLen) :
    Calls Try.prog 12 #[.string s] w fun e w' => e = .returned (.bool (B.right s)) ∧ w = w' := by
  unfold maxLen at hs
  go_enter Try.func12, Try.ntmps12
  go_wp2
  go_loop [3] (fun i => ∃ k : Nat, k ≤ s.size ∧ i = .int .i64 k ∧ B.pre s k) (fun i => s.size - (intOf i).toNat)
  case atStart => exact ⟨0, Nat.zero_le _, rfl, B.pre_zero s⟩
  case round =>
    obtain ⟨k, hk, rfl, hp⟩ := hrel
    by_cases hlt : k < s.size
    · by_cases h1 : s[k].toNat = 48
      · have hp' := B.pre_succ hlt hp (.inl h1)
        go_wp2
        go_round
        case rel => exact ⟨k + 1, by omega, by go_num, hp'⟩
        case measure => simp [intOf]; omega
      · by_cases h2 : s[k].toNat = 49
        · have hp' := B.pre_succ hlt hp (.inr h2)
          go_wp2
          go_round
          case rel => exact ⟨k + 1, by omega, by go_num, hp'⟩
          case measure => simp [intOf]; omega
        · have hb := Lib.hid (B.right_bad hlt h1 h2)
          have h3 : ((s[k].toNat : Int) != 48) = true := by simp; omega
          have h4 : ((s[k].toNat : Int) != 49) = true := by simp; omega
          go_wp2
          go_ret
          exact ⟨ret_bool hb.out.symm, rfl⟩
    · have hb := Lib.hid (B.right_of_pre' (by rw [show s.size = k from by omega]; exact hp))
      go_wp2
      go_ret
      exact ⟨ret_bool (by rw [hb.out]; by_cases h : s.size ≤ 4000 <;> simp [h] <;> omega), rfl⟩

theorem of_num (t : ByteArray) (w : World) (h : t.size ≤ 64) (hr : B.right t = true) :
    Calls Try.prog 9 #[.int .u64 (B.num t.data.toList), .int .i64 t.size] w fun e w' => e = .returned (.tuple #[.string t, .int .i64 0]) ∧ Below w.heap.size w w' := by
  have := of_yes (B.num t.data.toList) t.size w h (by rw [← B.size_len]; exact B.num_lt _ (B.right_all hr))
  rw [B.ofn_num t (B.right_all hr)] at this
  exact this
end Go.Proofs.Ytfnofajglbjgjaa
