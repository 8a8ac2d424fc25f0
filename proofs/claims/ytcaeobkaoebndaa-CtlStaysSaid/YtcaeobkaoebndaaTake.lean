/- The walks of package stuff's methods full and take, of isBit and Right; and of the reference's Right and Step. -/
import Derived.Test.YtcaeobkaoebndaaTwo
import Derived.Test.YtcaeobkaoebndaaPlain
namespace Go.Proofs.Ytcaeobkaoebndaa
open Go.RowKit Go.Lib

theorem mayB_of {x n : Nat} (h : B.may (x, n)) : B.mayB x n = true := by
  unfold B.may at h; simp only at h; simp only [B.mayB, decide_eq_true_eq]; omega
theorem bitB_of {c : UInt8} (h : B.okc c = true) : B.bitB c.toNat = true := by
  simp only [B.bitB, decide_eq_true_eq]; exact (B.okc_iff c).1 h

set_option maxHeartbeats 400000 in
theorem full_any (b n g : Nat) (w : World) (hB : Two w g (.int .u8 b) (.int .i64 n) 107) :
    Calls Try.prog 83 #[.pointer (some ⟨g, 0, none⟩)] w fun e w' => e = .returned (.bool (decide (n = 5))) ∧ w = w' := by
  have hc0 := hB.cell0
  have hc1 := hB.cell1
  clear hB
  go_enter Try.func83, Try.ntmps83
  go_wp2
  go_ret
  exact ⟨ret_bool (by rw [Bool.eq_iff_iff]; simp; omega), rfl⟩

set_option maxHeartbeats 400000 in
theorem isBit_any (c : Nat) (w : World) :
    Calls Try.prog 58 #[.int .u8 c] w fun e w' => e = .returned (.bool (B.bitB c)) ∧ w = w' := by
  go_enter Try.func58, Try.ntmps58
  go_wp2
  all_goals
    go_ret
    exact ⟨ret_bool (by rw [Bool.eq_iff_iff]; simp [B.bitB]; omega), rfl⟩

set_option maxHeartbeats 400000 in
theorem right3_exact (b : Nat) (n : Int) (w : World) :
    Calls Try.prog 42 #[.agg #[.int .u8 b, .int .i64 n]] w fun e w' => e = .returned (.bool (B.mayB b n)) ∧ w' = w.alloc (.cells #[.int .u8 b, .int .i64 n] 32) := by
  go_enter Try.func42, Try.ntmps42
  go_wp2_with (go_at_call 58; (with_reducible refine (isBit_any _ _).mono ?_); rintro e w' ⟨rfl, rfl⟩)
  all_goals
    go_ret
    refine ⟨ret_bool ?_, rfl⟩
    simp only [beq_iff_eq, beq_eq_false_iff_ne, ne_eq, B.bitB, decide_eq_true_eq] at *
    rw [Bool.eq_iff_iff]
    simp [B.mayB]
    try omega

theorem right3_any (b : Nat) (n : Int) (w : World) :
    Calls Try.prog 42 #[.agg #[.int .u8 b, .int .i64 n]] w fun e w' => e = .returned (.bool (B.mayB b n)) ∧ Below w.heap.size w w' :=
  (right3_exact b n w).mono fun _ _ ⟨he, hw⟩ => ⟨he, hw ▸ (Below.refl _ _).alloc (Nat.le_refl _) _⟩
set_option maxHeartbeats 400000 in
theorem take_err (b n c g : Nat) (w : World) (hB : Two w g (.int .u8 b) (.int .i64 n) 107) (h : c = b) (h5 : n = 5) :
    Calls Try.prog 82 #[.pointer (some ⟨g, 0, none⟩), .int .u8 c] w fun e w' => e = .returned (.int .i64 3) ∧ w' = w := by
  subst h h5
  have hc0 := hB.cell0
  have hc1 := hB.cell1
  have CF := Lib.hid (full_any c 5 g w hB)
  clear hB
  go_enter Try.func82, Try.ntmps82
  go_wp2_with (go_at_call 83; (with_reducible refine CF.out.mono ?_); rintro e w' ⟨rfl, rfl⟩)
  go_ret
  exact ⟨rfl, rfl⟩

set_option maxHeartbeats 400000 in
theorem take_more (b n c g : Nat) (w : World) (hB : Two w g (.int .u8 b) (.int .i64 n) 107) (h : c = b) (hn : n < 5) :
    Calls Try.prog 82 #[.pointer (some ⟨g, 0, none⟩), .int .u8 c] w fun e w' => e = .returned (.int .i64 1) ∧ w' = w.setCell ⟨g, 1, none⟩ (.int .i64 ((n : Int) + 1)) := by
  subst h
  have hc0 := hB.cell0
  have hc1 := hB.cell1
  have hf0 := hB.free0
  have hf1 := hB.free1
  have h5 : decide (n = 5) = false := by simp; omega
  have CF := Lib.hid (full_any c n g w hB)
  clear hB
  go_enter Try.func82, Try.ntmps82
  go_wp2_with (go_at_call 83; (with_reducible refine CF.out.mono ?_); rintro e w' ⟨rfl, rfl⟩)
  go_ret
  exact ⟨rfl, rfl⟩

set_option maxHeartbeats 400000 in
theorem take_one (b n c g : Nat) (w : World) (hB : Two w g (.int .u8 b) (.int .i64 n) 107) (h : c ≠ b) :
    Calls Try.prog 82 #[.pointer (some ⟨g, 0, none⟩), .int .u8 c] w fun e w' => e = .returned (.int .i64 (if n = 5 then 2 else 1)) ∧ w' = (w.setCell ⟨g, 0, none⟩ (.int .u8 c)).setCell ⟨g, 1, none⟩ (.int .i64 1) := by
  have hc0 := hB.cell0
  have hc1 := hB.cell1
  have hf0 := hB.free0
  have hf1 := hB.free1
  have CF := Lib.hid (full_any b n g w hB)
  have hne : ((c : Int) == b) = false := by simp; omega
  clear hB
  by_cases h5 : n = 5
  · subst h5
    go_enter Try.func82, Try.ntmps82
    go_wp2_with (go_at_call 83; (with_reducible refine CF.out.mono ?_); rintro e w' ⟨rfl, rfl⟩)
    go_ret
    exact ⟨rfl, rfl⟩
  · have h5' : decide (n = 5) = false := by simp [h5]
    go_enter Try.func82, Try.ntmps82
    go_wp2_with (go_at_call 83; (with_reducible refine CF.out.mono ?_); rintro e w' ⟨rfl, rfl⟩)
    go_ret
    exact ⟨rfl, rfl⟩

/-- what take does, in one -/
theorem take_any (b n c g : Nat) (w : World) (hn : n ≤ 5) (hB : Two w g (.int .u8 b) (.int .i64 n) 107) :
    Calls Try.prog 82 #[.pointer (some ⟨g, 0, none⟩), .int .u8 c] w fun e w' => e = .returned (.int .i64 (B.kind (b, n) c)) ∧ Two w' g (.int .u8 (B.kn (b, n) c).1) (.int .i64 (B.kn (b, n) c).2) 107 ∧ At g w w' := by
  by_cases h : c = b
  · by_cases h5 : n = 5
    · rw [B.kind_err h h5, B.kn_err h h5]
      exact (take_err b n c g w hB h h5).mono fun e w' ⟨he, hw⟩ => ⟨he, hw ▸ hB, hw ▸ At.refl _ _⟩
    · rw [B.kind_more h h5, B.kn_more h h5]
      refine (take_more b n c g w hB h (by omega)).mono fun e w' ⟨he, hw⟩ => ⟨he, ?_, ?_⟩
      · subst hw h; exact hB.set1 _
      · subst hw; exact (At.refl g _).setCell _ _
  · have h2 : B.kind (b, n) c = if n = 5 then 2 else 1 := by unfold B.kind; rw [if_neg h]
    rw [B.kn_one h, h2]
    refine (take_one b n c g w hB h).mono fun e w' ⟨he, hw⟩ => ⟨?_, ?_, ?_⟩
    · rw [he]; by_cases h5 : n = 5
      · rw [if_pos h5, if_pos h5]; rfl
      · rw [if_neg h5, if_neg h5]; rfl
    · subst hw; exact (hB.set0 _).set1 _
    · subst hw; exact ((At.refl g _).setCell _ _).setCell _ _
end Go.Proofs.Ytcaeobkaoebndaa
