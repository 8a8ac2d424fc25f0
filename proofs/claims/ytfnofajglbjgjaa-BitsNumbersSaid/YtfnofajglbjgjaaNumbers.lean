/- The walk of the law BitsNumbers, case by case. -/
import Derived.Test.YtfnofajglbjgjaaLaw01
namespace Go.Proofs.Ytfnofajglbjgjaa
open Go.RowKit Go.Lib

set_option maxHeartbeats 4000000 in
theorem numbers_lt (n k : Nat) (s : ByteArray) (w : World) (hn : n < 18446744073709551616) (hk : k < 64) (hnk : n < 2 ^ k) :
    Calls Try.prog 3 #[.int .u64 n, .int .i64 k, .string s] w fun e w' => e = .returned (.bool true) ∧ Below w.heap.size w w' := by
  obtain ⟨t, htz, ht⟩ := cut_at s 4100
  have hm : t.size ≤ maxLen := by unfold maxLen; omega
  have CO := Lib.hid (fun w => of_yes n k w (by omega) hnk)
  have CR := Lib.hid (fun w => refof_any n k w (by omega) hn)
  have hB : Below w.heap.size w w := Below.refl _ _
  have hw : (n : Int) < IntKind.u64.wrap (2 ^ k) := by rw [wrap_pow k hk]; omega
  clear hnk
  by_cases hr : B.right t = true
  · by_cases h64 : t.size ≤ 64
    · have CN := Lib.hid (fun w => number_yes t w h64 hr)
      have CM := Lib.hid (fun w => refnum_any t w h64 hr)
      rcases ht with ⟨h1, ht⟩ | ⟨h1, rfl⟩
      all_goals
        go_enter Try.func3, Try.ntmps3
        go_wp2_with (first | (go_at_call 9; (with_reducible refine (CO.out _).mono ?_); rintro e w' ⟨rfl, hb⟩; replace hB := hB.trans (hb.mono hB.size)) | (go_at_call 10; (with_reducible refine (CN.out _).mono ?_); rintro e w' ⟨rfl, rfl⟩) | (go_at_call 11; (with_reducible refine (right_any _ _ hm).mono ?_); rintro e w' ⟨rfl, rfl⟩) | (go_at_call 12; (with_reducible refine (refright_any _ _ hm).mono ?_); rintro e w' ⟨rfl, rfl⟩) | (go_at_call 13; (with_reducible refine (alive_any _).mono ?_); rintro e w' ⟨rfl, hb⟩; replace hB := hB.trans (hb.mono hB.size)) | (go_at_call 14; (with_reducible refine (CR.out _).mono ?_); rintro e w' ⟨rfl, rfl⟩) | (go_at_call 15; (with_reducible refine (CM.out _).mono ?_); rintro e w' ⟨rfl, rfl⟩))
        go_ret
        exact ⟨rfl, hB⟩
    · have CN := Lib.hid (fun w => number_no t w hm (.inr (by omega)))
      have h64' : (64 : Int) < t.size := by omega
      rcases ht with ⟨h1, ht⟩ | ⟨h1, rfl⟩
      all_goals
        go_enter Try.func3, Try.ntmps3
        go_wp2_with (first | (go_at_call 9; (with_reducible refine (CO.out _).mono ?_); rintro e w' ⟨rfl, hb⟩; replace hB := hB.trans (hb.mono hB.size)) | (go_at_call 10; (with_reducible refine (CN.out _).mono ?_); rintro e w' ⟨rfl, rfl⟩) | (go_at_call 11; (with_reducible refine (right_any _ _ hm).mono ?_); rintro e w' ⟨rfl, rfl⟩) | (go_at_call 12; (with_reducible refine (refright_any _ _ hm).mono ?_); rintro e w' ⟨rfl, rfl⟩) | (go_at_call 13; (with_reducible refine (alive_any _).mono ?_); rintro e w' ⟨rfl, hb⟩; replace hB := hB.trans (hb.mono hB.size)) | (go_at_call 14; (with_reducible refine (CR.out _).mono ?_); rintro e w' ⟨rfl, rfl⟩))
        go_ret
        exact ⟨rfl, hB⟩
  · have hr' : B.right t = false := by simpa using hr
    have CN := Lib.hid (fun w => number_no t w hm (.inl hr'))
    clear hr
    rcases ht with ⟨h1, ht⟩ | ⟨h1, rfl⟩
    all_goals
      go_enter Try.func3, Try.ntmps3
      go_wp2_with (first | (go_at_call 9; (with_reducible refine (CO.out _).mono ?_); rintro e w' ⟨rfl, hb⟩; replace hB := hB.trans (hb.mono hB.size)) | (go_at_call 10; (with_reducible refine (CN.out _).mono ?_); rintro e w' ⟨rfl, rfl⟩) | (go_at_call 11; (with_reducible refine (right_any _ _ hm).mono ?_); rintro e w' ⟨rfl, rfl⟩) | (go_at_call 12; (with_reducible refine (refright_any _ _ hm).mono ?_); rintro e w' ⟨rfl, rfl⟩) | (go_at_call 13; (with_reducible refine (alive_any _).mono ?_); rintro e w' ⟨rfl, hb⟩; replace hB := hB.trans (hb.mono hB.size)) | (go_at_call 14; (with_reducible refine (CR.out _).mono ?_); rintro e w' ⟨rfl, rfl⟩))
      go_ret
      exact ⟨rfl, hB⟩

set_option maxHeartbeats 4000000 in
theorem numbers_64 (n : Nat) (s : ByteArray) (w : World) (hn : n < 18446744073709551616) :
    Calls Try.prog 3 #[.int .u64 n, .int .i64 64, .string s] w fun e w' => e = .returned (.bool true) ∧ Below w.heap.size w w' := by
  obtain ⟨t, htz, ht⟩ := cut_at s 4100
  have hm : t.size ≤ maxLen := by unfold maxLen; omega
  have CO : Hid (∀ w, Calls Try.prog 9 #[.int .u64 n, .int .i64 64] w fun e w' => e = .returned (.tuple #[.string (B.ofn n 64), .int .i64 0]) ∧ Below w.heap.size w w') := Lib.hid (fun w => of_yes n 64 w (by omega) (by omega))
  have CR : Hid (∀ w, Calls Try.prog 14 #[.int .u64 n, .int .i64 64] w fun e w' => e = .returned (.string (B.ofn n 64)) ∧ w = w') := Lib.hid (fun w => refof_any n 64 w (by omega) hn)
  have hB : Below w.heap.size w w := Below.refl _ _
  by_cases hr : B.right t = true
  · by_cases h64 : t.size ≤ 64
    · have CN := Lib.hid (fun w => number_yes t w h64 hr)
      have CM := Lib.hid (fun w => refnum_any t w h64 hr)
      rcases ht with ⟨h1, ht⟩ | ⟨h1, rfl⟩
      all_goals
        go_enter Try.func3, Try.ntmps3
        go_wp2_with (first | (go_at_call 9; (with_reducible refine (CO.out _).mono ?_); rintro e w' ⟨rfl, hb⟩; replace hB := hB.trans (hb.mono hB.size)) | (go_at_call 10; (with_reducible refine (CN.out _).mono ?_); rintro e w' ⟨rfl, rfl⟩) | (go_at_call 11; (with_reducible refine (right_any _ _ hm).mono ?_); rintro e w' ⟨rfl, rfl⟩) | (go_at_call 12; (with_reducible refine (refright_any _ _ hm).mono ?_); rintro e w' ⟨rfl, rfl⟩) | (go_at_call 13; (with_reducible refine (alive_any _).mono ?_); rintro e w' ⟨rfl, hb⟩; replace hB := hB.trans (hb.mono hB.size)) | (go_at_call 14; (with_reducible refine (CR.out _).mono ?_); rintro e w' ⟨rfl, rfl⟩) | (go_at_call 15; (with_reducible refine (CM.out _).mono ?_); rintro e w' ⟨rfl, rfl⟩))
        go_ret
        exact ⟨rfl, hB⟩
    · have CN := Lib.hid (fun w => number_no t w hm (.inr (by omega)))
      have h64' : (64 : Int) < t.size := by omega
      rcases ht with ⟨h1, ht⟩ | ⟨h1, rfl⟩
      all_goals
        go_enter Try.func3, Try.ntmps3
        go_wp2_with (first | (go_at_call 9; (with_reducible refine (CO.out _).mono ?_); rintro e w' ⟨rfl, hb⟩; replace hB := hB.trans (hb.mono hB.size)) | (go_at_call 10; (with_reducible refine (CN.out _).mono ?_); rintro e w' ⟨rfl, rfl⟩) | (go_at_call 11; (with_reducible refine (right_any _ _ hm).mono ?_); rintro e w' ⟨rfl, rfl⟩) | (go_at_call 12; (with_reducible refine (refright_any _ _ hm).mono ?_); rintro e w' ⟨rfl, rfl⟩) | (go_at_call 13; (with_reducible refine (alive_any _).mono ?_); rintro e w' ⟨rfl, hb⟩; replace hB := hB.trans (hb.mono hB.size)) | (go_at_call 14; (with_reducible refine (CR.out _).mono ?_); rintro e w' ⟨rfl, rfl⟩))
        go_ret
        exact ⟨rfl, hB⟩
  · have hr' : B.right t = false := by simpa using hr
    have CN := Lib.hid (fun w => number_no t w hm (.inl hr'))
    clear hr
    rcases ht with ⟨h1, ht⟩ | ⟨h1, rfl⟩
    all_goals
      go_enter Try.func3, Try.ntmps3
      go_wp2_with (first | (go_at_call 9; (with_reducible refine (CO.out _).mono ?_); rintro e w' ⟨rfl, hb⟩; replace hB := hB.trans (hb.mono hB.size)) | (go_at_call 10; (with_reducible refine (CN.out _).mono ?_); rintro e w' ⟨rfl, rfl⟩) | (go_at_call 11; (with_reducible refine (right_any _ _ hm).mono ?_); rintro e w' ⟨rfl, rfl⟩) | (go_at_call 12; (with_reducible refine (refright_any _ _ hm).mono ?_); rintro e w' ⟨rfl, rfl⟩) | (go_at_call 13; (with_reducible refine (alive_any _).mono ?_); rintro e w' ⟨rfl, hb⟩; replace hB := hB.trans (hb.mono hB.size)) | (go_at_call 14; (with_reducible refine (CR.out _).mono ?_); rintro e w' ⟨rfl, rfl⟩))
      go_ret
      exact ⟨rfl, hB⟩

set_option maxHeartbeats 4000000 in
theorem numbers_neg (n width : Int) (s : ByteArray) (w : World) (h0 : width < 0) :
    Calls Try.prog 3 #[.int .u64 n, .int .i64 width, .string s] w fun e w' => e = .returned (.bool true) ∧ Below w.heap.size w w' := by
  obtain ⟨t, htz, ht⟩ := cut_at s 4100
  have hm : t.size ≤ maxLen := by unfold maxLen; omega
  have CO : Hid (∀ w, Calls Try.prog 9 #[.int .u64 n, .int .i64 width] w fun e w' => e = .returned (.tuple #[.string ⟨#[]⟩, .int .i64 1]) ∧ Below w.heap.size w w') := Lib.hid (fun w => (of_no n width w (.inl h0)).mono fun e w' ⟨h1, h2⟩ => ⟨h1, h2 ▸ Below.refl _ _⟩)
  have hB : Below w.heap.size w w := Below.refl _ _
  by_cases hr : B.right t = true
  · by_cases h64 : t.size ≤ 64
    · have CN := Lib.hid (fun w => number_yes t w h64 hr)
      have CM := Lib.hid (fun w => refnum_any t w h64 hr)
      rcases ht with ⟨h1, ht⟩ | ⟨h1, rfl⟩
      all_goals
        go_enter Try.func3, Try.ntmps3
        go_wp2_with (first | (go_at_call 9; (with_reducible refine (CO.out _).mono ?_); rintro e w' ⟨rfl, hb⟩; replace hB := hB.trans (hb.mono hB.size)) | (go_at_call 10; (with_reducible refine (CN.out _).mono ?_); rintro e w' ⟨rfl, rfl⟩) | (go_at_call 11; (with_reducible refine (right_any _ _ hm).mono ?_); rintro e w' ⟨rfl, rfl⟩) | (go_at_call 12; (with_reducible refine (refright_any _ _ hm).mono ?_); rintro e w' ⟨rfl, rfl⟩) | (go_at_call 13; (with_reducible refine (alive_any _).mono ?_); rintro e w' ⟨rfl, hb⟩; replace hB := hB.trans (hb.mono hB.size)) | (go_at_call 15; (with_reducible refine (CM.out _).mono ?_); rintro e w' ⟨rfl, rfl⟩))
        go_ret
        exact ⟨rfl, hB⟩
    · have CN := Lib.hid (fun w => number_no t w hm (.inr (by omega)))
      have h64' : (64 : Int) < t.size := by omega
      rcases ht with ⟨h1, ht⟩ | ⟨h1, rfl⟩
      all_goals
        go_enter Try.func3, Try.ntmps3
        go_wp2_with (first | (go_at_call 9; (with_reducible refine (CO.out _).mono ?_); rintro e w' ⟨rfl, hb⟩; replace hB := hB.trans (hb.mono hB.size)) | (go_at_call 10; (with_reducible refine (CN.out _).mono ?_); rintro e w' ⟨rfl, rfl⟩) | (go_at_call 11; (with_reducible refine (right_any _ _ hm).mono ?_); rintro e w' ⟨rfl, rfl⟩) | (go_at_call 12; (with_reducible refine (refright_any _ _ hm).mono ?_); rintro e w' ⟨rfl, rfl⟩) | (go_at_call 13; (with_reducible refine (alive_any _).mono ?_); rintro e w' ⟨rfl, hb⟩; replace hB := hB.trans (hb.mono hB.size)))
        go_ret
        exact ⟨rfl, hB⟩
  · have hr' : B.right t = false := by simpa using hr
    have CN := Lib.hid (fun w => number_no t w hm (.inl hr'))
    clear hr
    rcases ht with ⟨h1, ht⟩ | ⟨h1, rfl⟩
    all_goals
      go_enter Try.func3, Try.ntmps3
      go_wp2_with (first | (go_at_call 9; (with_reducible refine (CO.out _).mono ?_); rintro e w' ⟨rfl, hb⟩; replace hB := hB.trans (hb.mono hB.size)) | (go_at_call 10; (with_reducible refine (CN.out _).mono ?_); rintro e w' ⟨rfl, rfl⟩) | (go_at_call 11; (with_reducible refine (right_any _ _ hm).mono ?_); rintro e w' ⟨rfl, rfl⟩) | (go_at_call 12; (with_reducible refine (refright_any _ _ hm).mono ?_); rintro e w' ⟨rfl, rfl⟩) | (go_at_call 13; (with_reducible refine (alive_any _).mono ?_); rintro e w' ⟨rfl, hb⟩; replace hB := hB.trans (hb.mono hB.size)))
      go_ret
      exact ⟨rfl, hB⟩

set_option maxHeartbeats 4000000 in
theorem numbers_big (n width : Int) (s : ByteArray) (w : World) (h0 : 64 < width) :
    Calls Try.prog 3 #[.int .u64 n, .int .i64 width, .string s] w fun e w' => e = .returned (.bool true) ∧ Below w.heap.size w w' := by
  obtain ⟨t, htz, ht⟩ := cut_at s 4100
  have hm : t.size ≤ maxLen := by unfold maxLen; omega
  have CO : Hid (∀ w, Calls Try.prog 9 #[.int .u64 n, .int .i64 width] w fun e w' => e = .returned (.tuple #[.string ⟨#[]⟩, .int .i64 1]) ∧ Below w.heap.size w w') := Lib.hid (fun w => (of_no n width w (.inr (.inl h0))).mono fun e w' ⟨h1, h2⟩ => ⟨h1, h2 ▸ Below.refl _ _⟩)
  have hB : Below w.heap.size w w := Below.refl _ _
  by_cases hr : B.right t = true
  · by_cases h64 : t.size ≤ 64
    · have CN := Lib.hid (fun w => number_yes t w h64 hr)
      have CM := Lib.hid (fun w => refnum_any t w h64 hr)
      rcases ht with ⟨h1, ht⟩ | ⟨h1, rfl⟩
      all_goals
        go_enter Try.func3, Try.ntmps3
        go_wp2_with (first | (go_at_call 9; (with_reducible refine (CO.out _).mono ?_); rintro e w' ⟨rfl, hb⟩; replace hB := hB.trans (hb.mono hB.size)) | (go_at_call 10; (with_reducible refine (CN.out _).mono ?_); rintro e w' ⟨rfl, rfl⟩) | (go_at_call 11; (with_reducible refine (right_any _ _ hm).mono ?_); rintro e w' ⟨rfl, rfl⟩) | (go_at_call 12; (with_reducible refine (refright_any _ _ hm).mono ?_); rintro e w' ⟨rfl, rfl⟩) | (go_at_call 13; (with_reducible refine (alive_any _).mono ?_); rintro e w' ⟨rfl, hb⟩; replace hB := hB.trans (hb.mono hB.size)) | (go_at_call 15; (with_reducible refine (CM.out _).mono ?_); rintro e w' ⟨rfl, rfl⟩))
        go_ret
        exact ⟨rfl, hB⟩
    · have CN := Lib.hid (fun w => number_no t w hm (.inr (by omega)))
      have h64' : (64 : Int) < t.size := by omega
      rcases ht with ⟨h1, ht⟩ | ⟨h1, rfl⟩
      all_goals
        go_enter Try.func3, Try.ntmps3
        go_wp2_with (first | (go_at_call 9; (with_reducible refine (CO.out _).mono ?_); rintro e w' ⟨rfl, hb⟩; replace hB := hB.trans (hb.mono hB.size)) | (go_at_call 10; (with_reducible refine (CN.out _).mono ?_); rintro e w' ⟨rfl, rfl⟩) | (go_at_call 11; (with_reducible refine (right_any _ _ hm).mono ?_); rintro e w' ⟨rfl, rfl⟩) | (go_at_call 12; (with_reducible refine (refright_any _ _ hm).mono ?_); rintro e w' ⟨rfl, rfl⟩) | (go_at_call 13; (with_reducible refine (alive_any _).mono ?_); rintro e w' ⟨rfl, hb⟩; replace hB := hB.trans (hb.mono hB.size)))
        go_ret
        exact ⟨rfl, hB⟩
  · have hr' : B.right t = false := by simpa using hr
    have CN := Lib.hid (fun w => number_no t w hm (.inl hr'))
    clear hr
    rcases ht with ⟨h1, ht⟩ | ⟨h1, rfl⟩
    all_goals
      go_enter Try.func3, Try.ntmps3
      go_wp2_with (first | (go_at_call 9; (with_reducible refine (CO.out _).mono ?_); rintro e w' ⟨rfl, hb⟩; replace hB := hB.trans (hb.mono hB.size)) | (go_at_call 10; (with_reducible refine (CN.out _).mono ?_); rintro e w' ⟨rfl, rfl⟩) | (go_at_call 11; (with_reducible refine (right_any _ _ hm).mono ?_); rintro e w' ⟨rfl, rfl⟩) | (go_at_call 12; (with_reducible refine (refright_any _ _ hm).mono ?_); rintro e w' ⟨rfl, rfl⟩) | (go_at_call 13; (with_reducible refine (alive_any _).mono ?_); rintro e w' ⟨rfl, hb⟩; replace hB := hB.trans (hb.mono hB.size)))
      go_ret
      exact ⟨rfl, hB⟩

set_option maxHeartbeats 4000000 in
theorem numbers_over (n k : Nat) (s : ByteArray) (w : World) (hk : k < 64) (hnk : 2 ^ k ≤ n) :
    Calls Try.prog 3 #[.int .u64 n, .int .i64 k, .string s] w fun e w' => e = .returned (.bool true) ∧ Below w.heap.size w w' := by
  obtain ⟨t, htz, ht⟩ := cut_at s 4100
  have hm : t.size ≤ maxLen := by unfold maxLen; omega
  have CO : Hid (∀ w, Calls Try.prog 9 #[.int .u64 n, .int .i64 k] w fun e w' => e = .returned (.tuple #[.string ⟨#[]⟩, .int .i64 1]) ∧ Below w.heap.size w w') := Lib.hid (fun w => (of_no n k w (.inr (.inr ⟨by omega, B.shr_some n k hnk⟩))).mono fun e w' ⟨h1, h2⟩ => ⟨h1, h2 ▸ Below.refl _ _⟩)
  have hB : Below w.heap.size w w := Below.refl _ _
  have hw : IntKind.u64.wrap (2 ^ k) ≤ (n : Int) := by rw [wrap_pow k hk]; omega
  clear hnk
  by_cases hr : B.right t = true
  · by_cases h64 : t.size ≤ 64
    · have CN := Lib.hid (fun w => number_yes t w h64 hr)
      have CM := Lib.hid (fun w => refnum_any t w h64 hr)
      rcases ht with ⟨h1, ht⟩ | ⟨h1, rfl⟩
      all_goals
        go_enter Try.func3, Try.ntmps3
        go_wp2_with (first | (go_at_call 9; (with_reducible refine (CO.out _).mono ?_); rintro e w' ⟨rfl, hb⟩; replace hB := hB.trans (hb.mono hB.size)) | (go_at_call 10; (with_reducible refine (CN.out _).mono ?_); rintro e w' ⟨rfl, rfl⟩) | (go_at_call 11; (with_reducible refine (right_any _ _ hm).mono ?_); rintro e w' ⟨rfl, rfl⟩) | (go_at_call 12; (with_reducible refine (refright_any _ _ hm).mono ?_); rintro e w' ⟨rfl, rfl⟩) | (go_at_call 13; (with_reducible refine (alive_any _).mono ?_); rintro e w' ⟨rfl, hb⟩; replace hB := hB.trans (hb.mono hB.size)) | (go_at_call 15; (with_reducible refine (CM.out _).mono ?_); rintro e w' ⟨rfl, rfl⟩))
        go_ret
        exact ⟨rfl, hB⟩
    · have CN := Lib.hid (fun w => number_no t w hm (.inr (by omega)))
      have h64' : (64 : Int) < t.size := by omega
      rcases ht with ⟨h1, ht⟩ | ⟨h1, rfl⟩
      all_goals
        go_enter Try.func3, Try.ntmps3
        go_wp2_with (first | (go_at_call 9; (with_reducible refine (CO.out _).mono ?_); rintro e w' ⟨rfl, hb⟩; replace hB := hB.trans (hb.mono hB.size)) | (go_at_call 10; (with_reducible refine (CN.out _).mono ?_); rintro e w' ⟨rfl, rfl⟩) | (go_at_call 11; (with_reducible refine (right_any _ _ hm).mono ?_); rintro e w' ⟨rfl, rfl⟩) | (go_at_call 12; (with_reducible refine (refright_any _ _ hm).mono ?_); rintro e w' ⟨rfl, rfl⟩) | (go_at_call 13; (with_reducible refine (alive_any _).mono ?_); rintro e w' ⟨rfl, hb⟩; replace hB := hB.trans (hb.mono hB.size)))
        go_ret
        exact ⟨rfl, hB⟩
  · have hr' : B.right t = false := by simpa using hr
    have CN := Lib.hid (fun w => number_no t w hm (.inl hr'))
    clear hr
    rcases ht with ⟨h1, ht⟩ | ⟨h1, rfl⟩
    all_goals
      go_enter Try.func3, Try.ntmps3
      go_wp2_with (first | (go_at_call 9; (with_reducible refine (CO.out _).mono ?_); rintro e w' ⟨rfl, hb⟩; replace hB := hB.trans (hb.mono hB.size)) | (go_at_call 10; (with_reducible refine (CN.out _).mono ?_); rintro e w' ⟨rfl, rfl⟩) | (go_at_call 11; (with_reducible refine (right_any _ _ hm).mono ?_); rintro e w' ⟨rfl, rfl⟩) | (go_at_call 12; (with_reducible refine (refright_any _ _ hm).mono ?_); rintro e w' ⟨rfl, rfl⟩) | (go_at_call 13; (with_reducible refine (alive_any _).mono ?_); rintro e w' ⟨rfl, hb⟩; replace hB := hB.trans (hb.mono hB.size)))
      go_ret
      exact ⟨rfl, hB⟩

theorem numbers_any (n : Nat) (width : Int) (s : ByteArray) (w : World) (hn : n < 18446744073709551616) :
    Calls Try.prog 3 #[.int .u64 n, .int .i64 width, .string s] w fun e w' => e = .returned (.bool true) ∧ Below w.heap.size w w' := by
  by_cases h1 : width < 0
  · exact numbers_neg n width s w h1
  · by_cases h2 : 64 < width
    · exact numbers_big n width s w h2
    · obtain ⟨k, rfl⟩ := Int.eq_ofNat_of_zero_le (show 0 ≤ width by omega)
      by_cases h3 : k = 64
      · subst h3; exact numbers_64 n s w hn
      · by_cases h4 : n < 2 ^ k
        · exact numbers_lt n k s w hn (by omega) h4
        · exact numbers_over n k s w (by omega) (by omega)
end Go.Proofs.Ytfnofajglbjgjaa
