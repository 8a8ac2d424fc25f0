/- The walks of what layer 1's laws call beside the program: alive, the reference's Right. -/
import Derived.Test.YtfnofajglbjgjaaBitsA
namespace Go.Proofs.Ytfnofajglbjgjaa
open Go.RowKit Go.Lib

theorem of_54 (w : World) : Calls Try.prog 9 #[.int .u64 5, .int .i64 4] w fun e w' => e = .returned (.tuple #[.string ⟨#[48, 49, 48, 49]⟩, .int .i64 0]) ∧ Below w.heap.size w w' :=
  of_yes 5 4 w (by omega) (by omega)
theorem right_54 : B.right ⟨#[48, 49, 48, 49]⟩ = true := by decide

set_option maxHeartbeats 400000 in
theorem alive_any (w : World) : Calls Try.prog 13 #[] w fun e w' => e = .returned (.bool true) ∧ Below w.heap.size w w' := by
  have hr := right_54
  go_enter Try.func13, Try.ntmps13
  go_wp2_with (first | (go_at_call 9; refine (of_54 _).mono ?_; rintro e w' ⟨rfl, hb⟩) | (go_at_call 11; refine (right_any _ _ (by decide)).mono ?_; rintro e w' ⟨rfl, rfl⟩))
  go_ret
  exact ⟨rfl, hb⟩


set_option maxHeartbeats 400000 in
theorem refright_any (s : ByteArray) (w : World) (hs : s.size ≤ maxLen) :
    Calls Try.prog 12 #[.string s] w fun e w' => e = .returned (.bool (B.right s)) ∧ w = w' := by
  unfold maxLen at hs
  go_enter Try.func12, Try.ntmps12
  go_wp2
  go_loop [3] (fun i => ∃ k : Nat, k ≤ s.size ∧ i = .int .i64 k ∧ B.pre s k) (fun i => s.size - (intOf i).toNat)
  case atStart => exact ⟨0, Nat.zero_le _, rfl, B.pre_zero s⟩
  case round =>
    obtain ⟨k, hk, rfl, hp⟩ := hrel
    by_cases hlt : k < s.size
    · by_cases h1 : s[k].toNat = 48
      · have hp' := B.pre_succ hlt hp (.inl h1)
        go_wp2
        go_round
        case rel => exact ⟨k + 1, by omega, by go_num, hp'⟩
        case measure => simp [intOf]; omega
      · by_cases h2 : s[k].toNat = 49
        · have hp' := B.pre_succ hlt hp (.inr h2)
          go_wp2
          go_round
          case rel => exact ⟨k + 1, by omega, by go_num, hp'⟩
          case measure => simp [intOf]; omega
        · have hb := Lib.hid (B.right_bad hlt h1 h2)
          have h3 : ((s[k].toNat : Int) != 48) = true := by simp; omega
          have h4 : ((s[k].toNat : Int) != 49) = true := by simp; omega
          go_wp2
          go_ret
          exact ⟨ret_bool hb.out.symm, rfl⟩
    · have hb := Lib.hid (B.right_of_pre' (by rw [show s.size = k from by omega]; exact hp))
      go_wp2
      go_ret
      exact ⟨ret_bool (by rw [hb.out]; by_cases h : s.size ≤ 4000 <;> simp [h] <;> omega), rfl⟩

theorem of_num (t : ByteArray) (w : World) (h : t.size ≤ 64) (hr : B.right t = true) :
    Calls Try.prog 9 #[.int .u64 (B.num t.data.toList), .int .i64 t.size] w fun e w' => e = .returned (.tuple #[.string t, .int .i64 0]) ∧ Below w.heap.size w w' := by
  have := of_yes (B.num t.data.toList) t.size w h (by rw [← B.size_len]; exact B.num_lt _ (B.right_all hr))
  rw [B.ofn_num t (B.right_all hr)] at this
  exact this

theorem val_str {a b : ByteArray} (h : a = b) : Value.string a = .string b := by rw [h]
theorem ret_str1 {a b : ByteArray} (h : a = b) : Ending.returned (.string a) = .returned (.string b) := by rw [h]
theorem ret_u64_1 {a b : Int} (h : a = b) : Ending.returned (.int .u64 a) = .returned (.int .u64 b) := by rw [h]

set_option maxHeartbeats 400000 in
theorem refof_any (n k : Nat) (w : World) (hk : k ≤ 64) (hn : n < 18446744073709551616) :
    Calls Try.prog 14 #[.int .u64 n, .int .i64 k] w fun e w' => e = .returned (.string (B.ofn n k)) ∧ w = w' := by
  go_enter Try.func14, Try.ntmps14
  go_wp2
  go_loop [0, 5, 6] (fun m o i => ∃ j : Nat, j ≤ k ∧ i = .int .i64 j ∧ m = .int .u64 (n / 2 ^ j : Nat) ∧ o = .string (B.ofn n j)) (fun _ _ i => k - (intOf i).toNat)
  case atStart => exact ⟨0, Nat.zero_le _, rfl, by simp, rfl⟩
  case round =>
    obtain ⟨j, hj, rfl, rfl, rfl⟩ := hrel
    obtain ⟨m, hm⟩ : ∃ m, n / 2 ^ j = m := ⟨_, rfl⟩
    have hml : m ≤ n := by rw [← hm]; exact Nat.div_le_self _ _
    have hm2 : n / 2 ^ (j + 1) = m / 2 := by rw [Nat.pow_succ, ← Nat.div_div_eq_div_mul, hm]
    have hz := B.ofn_size n j
    rw [hm]
    have H1 := Lib.hid hm
    have H2 := Lib.hid hm2
    have hz1 : (B.ofn n j).size ≤ 64 := by omega
    clear hm hm2 hz
    by_cases hlt : j < k
    · rcases Nat.mod_two_eq_zero_or_one m with h1 | h1
      · have hs := Lib.hid (B.ofn_zero (n := n) (k := j) (by rw [H1.out]; exact h1))
        have ht : ((m : Int) % 2 == 1) = false := by simp; omega
        clear h1
        go_wp2
        go_round
        case rel => exact ⟨j + 1, by omega, by go_num, val_u64 (by rw [H2.out]; omega), val_str hs.out⟩
        case measure => simp [intOf]; omega
      · have hs := Lib.hid (B.ofn_one (n := n) (k := j) (by rw [H1.out]; exact h1))
        have ht : ((m : Int) % 2 == 1) = true := by simp; omega
        clear h1
        go_wp2
        go_round
        case rel => exact ⟨j + 1, by omega, by go_num, val_u64 (by rw [H2.out]; omega), val_str hs.out⟩
        case measure => simp [intOf]; omega
    · go_wp2
      go_ret
      exact ⟨ret_str1 (by rw [show k = j from by omega]), rfl⟩

set_option maxHeartbeats 400000 in
theorem refnum_any (s : ByteArray) (w : World) (hs : s.size ≤ 64) (hr : B.right s = true) :
    Calls Try.prog 15 #[.string s] w fun e w' => e = .returned (.int .u64 (B.num s.data.toList)) ∧ w = w' := by
  go_enter Try.func15, Try.ntmps15
  go_wp2
  go_loop [3, 4] (fun n i => ∃ k : Nat, k ≤ s.size ∧ i = .int .i64 k ∧ n = .int .u64 (B.num (s.data.toList.take k))) (fun _ i => s.size - (intOf i).toNat)
  case atStart => exact ⟨0, Nat.zero_le _, rfl, rfl⟩
  case round =>
    obtain ⟨k, hk, rfl, rfl⟩ := hrel
    by_cases hlt : k < s.size
    · have hb : 48 ≤ s[k].toNat ∧ s[k].toNat ≤ 49 := B.right_bound hr k hlt
      have hn : B.num (s.data.toList.take k) < 2 ^ 63 := B.num_take_lt hr k (by omega)
      have hsn := Lib.hid (B.num_take_succ s k hlt)
      obtain ⟨m, hm⟩ : ∃ m, m = B.num (s.data.toList.take k) := ⟨_, rfl⟩
      rw [← hm]
      have hm2 : m < 9223372036854775808 := by omega
      have hm' := Lib.hid hm
      clear hm hn
      by_cases h1 : s[k].toNat = 49
      · go_wp2
        go_round
        case rel => exact ⟨k + 1, by omega, by go_num, val_u64 (by rw [hsn.out, ← hm'.out]; omega)⟩
        case measure => simp [intOf]; omega
      · go_wp2
        go_round
        case rel => exact ⟨k + 1, by omega, by go_num, val_u64 (by rw [hsn.out, ← hm'.out]; omega)⟩
        case measure => simp [intOf]; omega
    · have hb := Lib.hid (show s.data.toList.take k = s.data.toList from List.take_of_length_le (by rw [B.size_len]; omega))
      go_wp2
      go_ret
      exact ⟨ret_u64_1 (by rw [hb.out]), rfl⟩

/-- A text cut to its first m bytes. -/
theorem cut_at (s : ByteArray) (m : Nat) : ∃ t : ByteArray, t.size ≤ m ∧ ((m < s.size ∧ s.extract 0 m = t) ∨ (s.size ≤ m ∧ s = t)) := by
  by_cases h64 : m < s.size
  · exact ⟨_, by simp [ByteArray.size_extract]; omega, .inl ⟨h64, rfl⟩⟩
  · exact ⟨s, by omega, .inr ⟨by omega, rfl⟩⟩

theorem wrap_pow (k : Nat) (hk : k < 64) : IntKind.u64.wrap (2 ^ k) = ((2 ^ k : Nat) : Int) := by
  have h : 2 ^ k < 2 ^ 64 := Nat.pow_lt_pow_right (by omega) hk
  have e : ((2 : Int) ^ k) = ((2 ^ k : Nat) : Int) := by simp
  rw [e]
  generalize 2 ^ k = m at *
  exact IntWalk.u64_in _ (by omega)

end Go.Proofs.Ytfnofajglbjgjaa
