/- The walk of the law BitsJoin. -/
import Derived.Test.YtfnofajglbjgjaaLaw01
import Derived.RegionTactic
import Derived.ChangeAlike
import Derived.WalkSmall
namespace Go.Proofs.Ytfnofajglbjgjaa
open Go.RowKit Go.Lib

/-- The two texts as the law cuts them. -/
def Cut2 (a b s t : ByteArray) : Prop :=
  ((32 < a.size ∧ a.extract 0 32 = s) ∨ (a.size ≤ 32 ∧ a = s)) ∧ ((32 < b.size ∧ b.extract 0 32 = t) ∨ (b.size ≤ 32 ∧ b = t))

set_option maxHeartbeats 2000000 in
theorem join_tt_good (a b s t : ByteArray) (n k : Nat) (w : World) (hsz : s.size ≤ 32) (htz : t.size ≤ 32) (hc : Cut2 a b s t) (hk : k ≤ 64) (hn : n < 2 ^ k) (hrs : B.right s = true) (hrt : B.right t = true) :
    Calls Try.prog 8 #[.string a, .string b, .int .u64 n, .int .i64 k] w fun e w' => e = .returned (.bool true) ∧ Below w.heap.size w w' := by
  have CO := Lib.hid (fun w => of_yes n k w hk hn)
  have hz := B.ofn_size n k
  have hrr := B.ofn_right n k (by omega)
  have hrm : (B.ofn n k).size ≤ maxLen := by unfold maxLen; omega
  have C1 := Lib.hid (fun w => number_yes s w (by omega) hrs)
  have C2 := Lib.hid (fun w => number_yes t w (by omega) hrt)
  have C3 := Lib.hid (fun w => number_yes (s ++ t) w (by rw [ByteArray.size_append]; omega) (by rw [B.right_cat (by omega) (by omega), hrs, hrt]; rfl))
  have hor := B.or_cat (B.num s.data.toList) (B.num t.data.toList) t.size (by have := B.num_lt _ (B.right_all hrs); rw [B.size_len] at this; exact Nat.lt_of_lt_of_le this (Nat.pow_le_pow_right (by omega) hsz)) htz (by have := B.num_lt _ (B.right_all hrt); rw [B.size_len] at this; exact this)
  rw [← B.num_cat] at hor
  clear hrs hrt
  have hB : Below w.heap.size w w := Below.refl _ _
  obtain ⟨hs, ht⟩ := hc
  rcases hs with ⟨h1, hs⟩ | ⟨h1, rfl⟩
  all_goals
    rcases ht with ⟨h2, ht⟩ | ⟨h2, rfl⟩
    all_goals
      go_enter Try.func8, Try.ntmps8
      go_wp2_with fail
      go_quiet (fail)
      rename_i nq
      replace hB := below_drewN hB nq
      go_wp2_with (first | (go_at_call 9; (with_reducible refine (CO.out _).mono ?_); rintro e w' ⟨rfl, hb⟩; replace hB := hB.trans (hb.mono hB.size)) | (go_at_call 10; (with_reducible refine (C1.out _).mono ?_); rintro e w' ⟨rfl, rfl⟩) | (go_at_call 10; (with_reducible refine (C2.out _).mono ?_); rintro e w' ⟨rfl, rfl⟩) | (go_at_call 10; (with_reducible refine (C3.out _).mono ?_); rintro e w' ⟨rfl, rfl⟩) | (go_at_call 11; (with_reducible refine (right_any _ _ hrm).mono ?_); rintro e w' ⟨rfl, rfl⟩) | (go_at_call 13; (with_reducible refine (alive_any _).mono ?_); rintro e w' ⟨rfl, hb⟩; replace hB := hB.trans (hb.mono hB.size)))
      go_ret
      exact ⟨rfl, hB⟩

set_option maxHeartbeats 2000000 in
theorem join_tf_good (a b s t : ByteArray) (n k : Nat) (w : World) (hsz : s.size ≤ 32) (htz : t.size ≤ 32) (hc : Cut2 a b s t) (hk : k ≤ 64) (hn : n < 2 ^ k) (hrs : B.right s = true) (hrt : B.right t = false) :
    Calls Try.prog 8 #[.string a, .string b, .int .u64 n, .int .i64 k] w fun e w' => e = .returned (.bool true) ∧ Below w.heap.size w w' := by
  have CO := Lib.hid (fun w => of_yes n k w hk hn)
  have hz := B.ofn_size n k
  have hrr := B.ofn_right n k (by omega)
  have hrm : (B.ofn n k).size ≤ maxLen := by unfold maxLen; omega
  have hms : s.size ≤ maxLen := by unfold maxLen; omega
  have hmt : t.size ≤ maxLen := by unfold maxLen; omega
  have hmst : (s ++ t).size ≤ maxLen := by rw [ByteArray.size_append]; unfold maxLen; omega
  have C1 := Lib.hid (fun w => number_yes s w (by omega) hrs)
  have C2 := Lib.hid (fun w => number_no t w hmt (.inl hrt))
  have C3 := Lib.hid (fun w => number_no (s ++ t) w hmst (.inl (by rw [B.right_cat (by omega) (by omega), hrs, hrt]; rfl)))
  clear hrs hrt hmt hms hmst
  have hB : Below w.heap.size w w := Below.refl _ _
  obtain ⟨hs, ht⟩ := hc
  rcases hs with ⟨h1, hs⟩ | ⟨h1, rfl⟩
  all_goals
    rcases ht with ⟨h2, ht⟩ | ⟨h2, rfl⟩
    all_goals
      go_enter Try.func8, Try.ntmps8
      go_wp2_with fail
      go_quiet (fail)
      rename_i nq
      replace hB := below_drewN hB nq
      go_wp2_with (first | (go_at_call 9; (with_reducible refine (CO.out _).mono ?_); rintro e w' ⟨rfl, hb⟩; replace hB := hB.trans (hb.mono hB.size)) | (go_at_call 10; (with_reducible refine (C1.out _).mono ?_); rintro e w' ⟨rfl, rfl⟩) | (go_at_call 10; (with_reducible refine (C2.out _).mono ?_); rintro e w' ⟨rfl, rfl⟩) | (go_at_call 10; (with_reducible refine (C3.out _).mono ?_); rintro e w' ⟨rfl, rfl⟩) | (go_at_call 11; (with_reducible refine (right_any _ _ hrm).mono ?_); rintro e w' ⟨rfl, rfl⟩) | (go_at_call 13; (with_reducible refine (alive_any _).mono ?_); rintro e w' ⟨rfl, hb⟩; replace hB := hB.trans (hb.mono hB.size)))
      go_ret
      exact ⟨rfl, hB⟩

set_option maxHeartbeats 2000000 in
theorem join_ft_good (a b s t : ByteArray) (n k : Nat) (w : World) (hsz : s.size ≤ 32) (htz : t.size ≤ 32) (hc : Cut2 a b s t) (hk : k ≤ 64) (hn : n < 2 ^ k) (hrs : B.right s = false) (hrt : B.right t = true) :
    Calls Try.prog 8 #[.string a, .string b, .int .u64 n, .int .i64 k] w fun e w' => e = .returned (.bool true) ∧ Below w.heap.size w w' := by
  have CO := Lib.hid (fun w => of_yes n k w hk hn)
  have hz := B.ofn_size n k
  have hrr := B.ofn_right n k (by omega)
  have hrm : (B.ofn n k).size ≤ maxLen := by unfold maxLen; omega
  have hms : s.size ≤ maxLen := by unfold maxLen; omega
  have hmt : t.size ≤ maxLen := by unfold maxLen; omega
  have hmst : (s ++ t).size ≤ maxLen := by rw [ByteArray.size_append]; unfold maxLen; omega
  have C1 := Lib.hid (fun w => number_no s w hms (.inl hrs))
  have C3 := Lib.hid (fun w => number_no (s ++ t) w hmst (.inl (by rw [B.right_cat (by omega) (by omega), hrs]; rfl)))
  have C2 := Lib.hid (fun w => number_yes t w (by omega) hrt)
  clear hrs hrt hmt hms hmst
  have hB : Below w.heap.size w w := Below.refl _ _
  obtain ⟨hs, ht⟩ := hc
  rcases hs with ⟨h1, hs⟩ | ⟨h1, rfl⟩
  all_goals
    rcases ht with ⟨h2, ht⟩ | ⟨h2, rfl⟩
    all_goals
      go_enter Try.func8, Try.ntmps8
      go_wp2_with fail
      go_quiet (fail)
      rename_i nq
      replace hB := below_drewN hB nq
      go_wp2_with (first | (go_at_call 9; (with_reducible refine (CO.out _).mono ?_); rintro e w' ⟨rfl, hb⟩; replace hB := hB.trans (hb.mono hB.size)) | (go_at_call 10; (with_reducible refine (C1.out _).mono ?_); rintro e w' ⟨rfl, rfl⟩) | (go_at_call 10; (with_reducible refine (C2.out _).mono ?_); rintro e w' ⟨rfl, rfl⟩) | (go_at_call 10; (with_reducible refine (C3.out _).mono ?_); rintro e w' ⟨rfl, rfl⟩) | (go_at_call 11; (with_reducible refine (right_any _ _ hrm).mono ?_); rintro e w' ⟨rfl, rfl⟩) | (go_at_call 13; (with_reducible refine (alive_any _).mono ?_); rintro e w' ⟨rfl, hb⟩; replace hB := hB.trans (hb.mono hB.size)))
      go_ret
      exact ⟨rfl, hB⟩

set_option maxHeartbeats 2000000 in
theorem join_ff_good (a b s t : ByteArray) (n k : Nat) (w : World) (hsz : s.size ≤ 32) (htz : t.size ≤ 32) (hc : Cut2 a b s t) (hk : k ≤ 64) (hn : n < 2 ^ k) (hrs : B.right s = false) (hrt : B.right t = false) :
    Calls Try.prog 8 #[.string a, .string b, .int .u64 n, .int .i64 k] w fun e w' => e = .returned (.bool true) ∧ Below w.heap.size w w' := by
  have CO := Lib.hid (fun w => of_yes n k w hk hn)
  have hz := B.ofn_size n k
  have hrr := B.ofn_right n k (by omega)
  have hrm : (B.ofn n k).size ≤ maxLen := by unfold maxLen; omega
  have hms : s.size ≤ maxLen := by unfold maxLen; omega
  have hmt : t.size ≤ maxLen := by unfold maxLen; omega
  have hmst : (s ++ t).size ≤ maxLen := by rw [ByteArray.size_append]; unfold maxLen; omega
  have C1 := Lib.hid (fun w => number_no s w hms (.inl hrs))
  have C3 := Lib.hid (fun w => number_no (s ++ t) w hmst (.inl (by rw [B.right_cat (by omega) (by omega), hrs]; rfl)))
  have C2 := Lib.hid (fun w => number_no t w hmt (.inl hrt))
  clear hrs hrt hmt hms hmst
  have hB : Below w.heap.size w w := Below.refl _ _
  obtain ⟨hs, ht⟩ := hc
  rcases hs with ⟨h1, hs⟩ | ⟨h1, rfl⟩
  all_goals
    rcases ht with ⟨h2, ht⟩ | ⟨h2, rfl⟩
    all_goals
      go_enter Try.func8, Try.ntmps8
      go_wp2_with fail
      go_quiet (fail)
      rename_i nq
      replace hB := below_drewN hB nq
      go_wp2_with (first | (go_at_call 9; (with_reducible refine (CO.out _).mono ?_); rintro e w' ⟨rfl, hb⟩; replace hB := hB.trans (hb.mono hB.size)) | (go_at_call 10; (with_reducible refine (C1.out _).mono ?_); rintro e w' ⟨rfl, rfl⟩) | (go_at_call 10; (with_reducible refine (C2.out _).mono ?_); rintro e w' ⟨rfl, rfl⟩) | (go_at_call 10; (with_reducible refine (C3.out _).mono ?_); rintro e w' ⟨rfl, rfl⟩) | (go_at_call 11; (with_reducible refine (right_any _ _ hrm).mono ?_); rintro e w' ⟨rfl, rfl⟩) | (go_at_call 13; (with_reducible refine (alive_any _).mono ?_); rintro e w' ⟨rfl, hb⟩; replace hB := hB.trans (hb.mono hB.size)))
      go_ret
      exact ⟨rfl, hB⟩

set_option maxHeartbeats 2000000 in
theorem join_tt_bad (a b s t : ByteArray) (n width : Int) (w : World) (hsz : s.size ≤ 32) (htz : t.size ≤ 32) (hc : Cut2 a b s t) (hw : width < 0 ∨ 64 < width ∨ (0 ≤ width ∧ (n / 2 ^ width.toNat != 0) = true)) (hrs : B.right s = true) (hrt : B.right t = true) :
    Calls Try.prog 8 #[.string a, .string b, .int .u64 n, .int .i64 width] w fun e w' => e = .returned (.bool true) ∧ Below w.heap.size w w' := by
  have CO : Hid (∀ w, Calls Try.prog 9 #[.int .u64 n, .int .i64 width] w fun e w' => e = .returned (.tuple #[.string ⟨#[]⟩, .int .i64 1]) ∧ Below w.heap.size w w') := Lib.hid (fun w => (of_no n width w hw).mono fun e w' ⟨h1, h2⟩ => ⟨h1, h2 ▸ Below.refl _ _⟩)
  clear hw
  have C1 := Lib.hid (fun w => number_yes s w (by omega) hrs)
  have C2 := Lib.hid (fun w => number_yes t w (by omega) hrt)
  have C3 := Lib.hid (fun w => number_yes (s ++ t) w (by rw [ByteArray.size_append]; omega) (by rw [B.right_cat (by omega) (by omega), hrs, hrt]; rfl))
  have hor := B.or_cat (B.num s.data.toList) (B.num t.data.toList) t.size (by have := B.num_lt _ (B.right_all hrs); rw [B.size_len] at this; exact Nat.lt_of_lt_of_le this (Nat.pow_le_pow_right (by omega) hsz)) htz (by have := B.num_lt _ (B.right_all hrt); rw [B.size_len] at this; exact this)
  rw [← B.num_cat] at hor
  clear hrs hrt
  have hB : Below w.heap.size w w := Below.refl _ _
  obtain ⟨hs, ht⟩ := hc
  rcases hs with ⟨h1, hs⟩ | ⟨h1, rfl⟩
  all_goals
    rcases ht with ⟨h2, ht⟩ | ⟨h2, rfl⟩
    all_goals
      go_enter Try.func8, Try.ntmps8
      go_wp2_with fail
      go_quiet (fail)
      rename_i nq
      replace hB := below_drewN hB nq
      go_wp2_with (first | (go_at_call 9; (with_reducible refine (CO.out _).mono ?_); rintro e w' ⟨rfl, hb⟩; replace hB := hB.trans (hb.mono hB.size)) | (go_at_call 10; (with_reducible refine (C1.out _).mono ?_); rintro e w' ⟨rfl, rfl⟩) | (go_at_call 10; (with_reducible refine (C2.out _).mono ?_); rintro e w' ⟨rfl, rfl⟩) | (go_at_call 10; (with_reducible refine (C3.out _).mono ?_); rintro e w' ⟨rfl, rfl⟩) | (go_at_call 13; (with_reducible refine (alive_any _).mono ?_); rintro e w' ⟨rfl, hb⟩; replace hB := hB.trans (hb.mono hB.size)))
      go_ret
      exact ⟨rfl, hB⟩

set_option maxHeartbeats 2000000 in
theorem join_tf_bad (a b s t : ByteArray) (n width : Int) (w : World) (hsz : s.size ≤ 32) (htz : t.size ≤ 32) (hc : Cut2 a b s t) (hw : width < 0 ∨ 64 < width ∨ (0 ≤ width ∧ (n / 2 ^ width.toNat != 0) = true)) (hrs : B.right s = true) (hrt : B.right t = false) :
    Calls Try.prog 8 #[.string a, .string b, .int .u64 n, .int .i64 width] w fun e w' => e = .returned (.bool true) ∧ Below w.heap.size w w' := by
  have CO : Hid (∀ w, Calls Try.prog 9 #[.int .u64 n, .int .i64 width] w fun e w' => e = .returned (.tuple #[.string ⟨#[]⟩, .int .i64 1]) ∧ Below w.heap.size w w') := Lib.hid (fun w => (of_no n width w hw).mono fun e w' ⟨h1, h2⟩ => ⟨h1, h2 ▸ Below.refl _ _⟩)
  clear hw
  have hms : s.size ≤ maxLen := by unfold maxLen; omega
  have hmt : t.size ≤ maxLen := by unfold maxLen; omega
  have hmst : (s ++ t).size ≤ maxLen := by rw [ByteArray.size_append]; unfold maxLen; omega
  have C1 := Lib.hid (fun w => number_yes s w (by omega) hrs)
  have C2 := Lib.hid (fun w => number_no t w hmt (.inl hrt))
  have C3 := Lib.hid (fun w => number_no (s ++ t) w hmst (.inl (by rw [B.right_cat (by omega) (by omega), hrs, hrt]; rfl)))
  clear hrs hrt hmt hms hmst
  have hB : Below w.heap.size w w := Below.refl _ _
  obtain ⟨hs, ht⟩ := hc
  rcases hs with ⟨h1, hs⟩ | ⟨h1, rfl⟩
  all_goals
    rcases ht with ⟨h2, ht⟩ | ⟨h2, rfl⟩
    all_goals
      go_enter Try.func8, Try.ntmps8
      go_wp2_with fail
      go_quiet (fail)
      rename_i nq
      replace hB := below_drewN hB nq
      go_wp2_with (first | (go_at_call 9; (with_reducible refine (CO.out _).mono ?_); rintro e w' ⟨rfl, hb⟩; replace hB := hB.trans (hb.mono hB.size)) | (go_at_call 10; (with_reducible refine (C1.out _).mono ?_); rintro e w' ⟨rfl, rfl⟩) | (go_at_call 10; (with_reducible refine (C2.out _).mono ?_); rintro e w' ⟨rfl, rfl⟩) | (go_at_call 10; (with_reducible refine (C3.out _).mono ?_); rintro e w' ⟨rfl, rfl⟩) | (go_at_call 13; (with_reducible refine (alive_any _).mono ?_); rintro e w' ⟨rfl, hb⟩; replace hB := hB.trans (hb.mono hB.size)))
      go_ret
      exact ⟨rfl, hB⟩

set_option maxHeartbeats 2000000 in
theorem join_ft_bad (a b s t : ByteArray) (n width : Int) (w : World) (hsz : s.size ≤ 32) (htz : t.size ≤ 32) (hc : Cut2 a b s t) (hw : width < 0 ∨ 64 < width ∨ (0 ≤ width ∧ (n / 2 ^ width.toNat != 0) = true)) (hrs : B.right s = false) (hrt : B.right t = true) :
    Calls Try.prog 8 #[.string a, .string b, .int .u64 n, .int .i64 width] w fun e w' => e = .returned (.bool true) ∧ Below w.heap.size w w' := by
  have CO : Hid (∀ w, Calls Try.prog 9 #[.int .u64 n, .int .i64 width] w fun e w' => e = .returned (.tuple #[.string ⟨#[]⟩, .int .i64 1]) ∧ Below w.heap.size w w') := Lib.hid (fun w => (of_no n width w hw).mono fun e w' ⟨h1, h2⟩ => ⟨h1, h2 ▸ Below.refl _ _⟩)
  clear hw
  have hms : s.size ≤ maxLen := by unfold maxLen; omega
  have hmt : t.size ≤ maxLen := by unfold maxLen; omega
  have hmst : (s ++ t).size ≤ maxLen := by rw [ByteArray.size_append]; unfold maxLen; omega
  have C1 := Lib.hid (fun w => number_no s w hms (.inl hrs))
  have C3 := Lib.hid (fun w => number_no (s ++ t) w hmst (.inl (by rw [B.right_cat (by omega) (by omega), hrs]; rfl)))
  have C2 := Lib.hid (fun w => number_yes t w (by omega) hrt)
  clear hrs hrt hmt hms hmst
  have hB : Below w.heap.size w w := Below.refl _ _
  obtain ⟨hs, ht⟩ := hc
  rcases hs with ⟨h1, hs⟩ | ⟨h1, rfl⟩
  all_goals
    rcases ht with ⟨h2, ht⟩ | ⟨h2, rfl⟩
    all_goals
      go_enter Try.func8, Try.ntmps8
      go_wp2_with fail
      go_quiet (fail)
      rename_i nq
      replace hB := below_drewN hB nq
      go_wp2_with (first | (go_at_call 9; (with_reducible refine (CO.out _).mono ?_); rintro e w' ⟨rfl, hb⟩; replace hB := hB.trans (hb.mono hB.size)) | (go_at_call 10; (with_reducible refine (C1.out _).mono ?_); rintro e w' ⟨rfl, rfl⟩) | (go_at_call 10; (with_reducible refine (C2.out _).mono ?_); rintro e w' ⟨rfl, rfl⟩) | (go_at_call 10; (with_reducible refine (C3.out _).mono ?_); rintro e w' ⟨rfl, rfl⟩) | (go_at_call 13; (with_reducible refine (alive_any _).mono ?_); rintro e w' ⟨rfl, hb⟩; replace hB := hB.trans (hb.mono hB.size)))
      go_ret
      exact ⟨rfl, hB⟩

set_option maxHeartbeats 2000000 in
theorem join_ff_bad (a b s t : ByteArray) (n width : Int) (w : World) (hsz : s.size ≤ 32) (htz : t.size ≤ 32) (hc : Cut2 a b s t) (hw : width < 0 ∨ 64 < width ∨ (0 ≤ width ∧ (n / 2 ^ width.toNat != 0) = true)) (hrs : B.right s = false) (hrt : B.right t = false) :
    Calls Try.prog 8 #[.string a, .string b, .int .u64 n, .int .i64 width] w fun e w' => e = .returned (.bool true) ∧ Below w.heap.size w w' := by
  have CO : Hid (∀ w, Calls Try.prog 9 #[.int .u64 n, .int .i64 width] w fun e w' => e = .returned (.tuple #[.string ⟨#[]⟩, .int .i64 1]) ∧ Below w.heap.size w w') := Lib.hid (fun w => (of_no n width w hw).mono fun e w' ⟨h1, h2⟩ => ⟨h1, h2 ▸ Below.refl _ _⟩)
  clear hw
  have hms : s.size ≤ maxLen := by unfold maxLen; omega
  have hmt : t.size ≤ maxLen := by unfold maxLen; omega
  have hmst : (s ++ t).size ≤ maxLen := by rw [ByteArray.size_append]; unfold maxLen; omega
  have C1 := Lib.hid (fun w => number_no s w hms (.inl hrs))
  have C3 := Lib.hid (fun w => number_no (s ++ t) w hmst (.inl (by rw [B.right_cat (by omega) (by omega), hrs]; rfl)))
  have C2 := Lib.hid (fun w => number_no t w hmt (.inl hrt))
  clear hrs hrt hmt hms hmst
  have hB : Below w.heap.size w w := Below.refl _ _
  obtain ⟨hs, ht⟩ := hc
  rcases hs with ⟨h1, hs⟩ | ⟨h1, rfl⟩
  all_goals
    rcases ht with ⟨h2, ht⟩ | ⟨h2, rfl⟩
    all_goals
      go_enter Try.func8, Try.ntmps8
      go_wp2_with fail
      go_quiet (fail)
      rename_i nq
      replace hB := below_drewN hB nq
      go_wp2_with (first | (go_at_call 9; (with_reducible refine (CO.out _).mono ?_); rintro e w' ⟨rfl, hb⟩; replace hB := hB.trans (hb.mono hB.size)) | (go_at_call 10; (with_reducible refine (C1.out _).mono ?_); rintro e w' ⟨rfl, rfl⟩) | (go_at_call 10; (with_reducible refine (C2.out _).mono ?_); rintro e w' ⟨rfl, rfl⟩) | (go_at_call 10; (with_reducible refine (C3.out _).mono ?_); rintro e w' ⟨rfl, rfl⟩) | (go_at_call 13; (with_reducible refine (alive_any _).mono ?_); rintro e w' ⟨rfl, hb⟩; replace hB := hB.trans (hb.mono hB.size)))
      go_ret
      exact ⟨rfl, hB⟩

theorem join_any (a b : ByteArray) (n : Nat) (width : Int) (w : World) :
    Calls Try.prog 8 #[.string a, .string b, .int .u64 n, .int .i64 width] w fun e w' => e = .returned (.bool true) ∧ Below w.heap.size w w' := by
  obtain ⟨s, hsz, hs⟩ := cut_at a 32
  obtain ⟨t, htz, ht⟩ := cut_at b 32
  have hc : Cut2 a b s t := ⟨hs, ht⟩
  have hw : (∃ k : Nat, width = k ∧ k ≤ 64 ∧ n < 2 ^ k) ∨ (width < 0 ∨ 64 < width ∨ (0 ≤ width ∧ ((n : Int) / 2 ^ width.toNat != 0) = true)) := by
    by_cases h1 : width < 0
    · exact .inr (.inl h1)
    · by_cases h2 : 64 < width
      · exact .inr (.inr (.inl h2))
      · obtain ⟨k, rfl⟩ := Int.eq_ofNat_of_zero_le (show 0 ≤ width by omega)
        by_cases h4 : n < 2 ^ k
        · exact .inl ⟨k, rfl, by omega, h4⟩
        · exact .inr (.inr (.inr ⟨by omega, B.shr_some n k (by omega)⟩))
  rcases hw with ⟨k, rfl, hk, hn⟩ | hw
  · cases hrs : B.right s <;> cases hrt : B.right t
    · exact join_ff_good a b s t n k w hsz htz hc hk hn hrs hrt
    · exact join_ft_good a b s t n k w hsz htz hc hk hn hrs hrt
    · exact join_tf_good a b s t n k w hsz htz hc hk hn hrs hrt
    · exact join_tt_good a b s t n k w hsz htz hc hk hn hrs hrt
  · cases hrs : B.right s <;> cases hrt : B.right t
    · exact join_ff_bad a b s t n width w hsz htz hc hw hrs hrt
    · exact join_ft_bad a b s t n width w hsz htz hc hw hrs hrt
    · exact join_tf_bad a b s t n width w hsz htz hc hw hrs hrt
    · exact join_tt_bad a b s t n width w hsz htz hc hw hrs hrt
end Go.Proofs.Ytfnofajglbjgjaa
