/- The walk of layer 3's law StuffSteps. -/
import Derived.Test.YtagboeejegbcgaaLaw03
import Derived.Test.YtagboeejegbcgaaStep3
import Derived.Deep.RegionHeld3
import Derived.Deep.DrawnRows
namespace Go.Proofs.Ytagboeejegbcgaa
open Go.RowKit Go.Lib
attribute [local go_sem ↓] Go.wp_at_zero Go.wp_at_succ

theorem below_keep {B : Nat} {a w w' : World} (h : Below B a w) (k : Below w.heap.size w w') (hz : B ≤ w.heap.size) : Below B a w' := h.trans (k.mono hz)
theorem cell_keep {w w' : World} (k : Below w.heap.size w w') {p : Addr} {v : Value} (h : w.cell? p = some v) : w'.cell? p = some v := by
  rw [k.cell (cell_lt h)]; exact h
theorem cell_new {w : World} {p : Addr} {v : Value} (h : w.cell? p = some v) : ∀ o, (w.alloc o).cell? p = some v := fun o => by
  rw [World.cell?_alloc_lt _ _ _ (cell_lt h)]; exact h

set_option maxHeartbeats 2000000 in
theorem steps_no1 (b c : Nat) (n : Int) (w : World) (hp : B.mayB b n = false) :
    Calls Try.prog 3 #[.agg #[.int .u8 b, .int .i64 n], .int .u8 c] w fun e w' => e = .returned (.bool true) ∧ Below w.heap.size w w' := by
  have CS := Lib.hid (fun w => step_no b c n w (by rw [hp]; rfl))
  have CR : Hid (∀ w, Calls Try.prog 10 #[.agg #[.int .u8 b, .int .i64 n]] w fun e w' => e = .returned (.bool false) ∧ Below w.heap.size w w') := Lib.hid (fun w => hp ▸ right3_any b n w)
  have CF : Hid (∀ w, Calls Try.prog 11 #[.agg #[.int .u8 b, .int .i64 n]] w fun e w' => e = .returned (.bool false) ∧ Below w.heap.size w w') := Lib.hid (fun w => hp ▸ refright3_any b n w)
  have CA := Lib.hid alive_any
  obtain ⟨B0, hB0⟩ : ∃ k, k = w.heap.size := ⟨_, rfl⟩
  rw [← hB0]
  have HB := Lib.hid hB0
  clear hp hB0
  go_enter Try.func3, Try.ntmps3
  go_wp2_with (go_at_call 9; (with_reducible refine (CS.out _).mono ?_); rintro e w1 ⟨rfl, hb⟩)
  have hT0 := (two_new w (.int .u8 b) (.int .i64 n) 23).below hb (by simp)
  have hT1 := two_new w1 (.int .u8 0) (.int .i64 0) 23
  have hz1 : w.heap.size < w1.heap.size := by have := hb.size; simp at this; omega
  have hB1 : Below B0 w w1 := by rw [HB.out]; exact ((Below.refl _ _).alloc (Nat.le_refl _) _).trans (hb.mono (by simp))
  have hB2 := hB1.alloc (by rw [HB.out]; omega) (.cells #[.int .u8 0, .int .i64 0] 23)
  have ha := hT0.alloc (.cells #[.int .u8 0, .int .i64 0] 23)
  have hz2 : B0 ≤ (w1.alloc (.cells #[.int .u8 0, .int .i64 0] 23)).heap.size := by rw [HB.out]; simp; omega
  rw [← HB.out] at ha ⊢
  clear hb hT0 hz1 hB1
  generalize w1.heap.size = g1 at *
  generalize w1.alloc (.cells #[.int .u8 0, .int .i64 0] 23) = w2 at *
  have ha0 := ha.cell0
  have ha1 := ha.cell1
  have hy0 := hT1.cell0
  have hy1 := hT1.cell1
  clear ha hT1
  have KS := Lib.hid (show ∀ wa wb, Below wa.heap.size wa wb → (Below B0 w wa ∧ B0 ≤ wa.heap.size ∧ wa.cell? ⟨B0, 0, none⟩ = some (.int .u8 b) ∧ wa.cell? ⟨B0, 1, none⟩ = some (.int .i64 n) ∧ wa.cell? ⟨g1, 0, none⟩ = some (.int .u8 0) ∧ wa.cell? ⟨g1, 1, none⟩ = some (.int .i64 0)) → (Below B0 w wb ∧ B0 ≤ wb.heap.size ∧ wb.cell? ⟨B0, 0, none⟩ = some (.int .u8 b) ∧ wb.cell? ⟨B0, 1, none⟩ = some (.int .i64 n) ∧ wb.cell? ⟨g1, 0, none⟩ = some (.int .u8 0) ∧ wb.cell? ⟨g1, 1, none⟩ = some (.int .i64 0)) from
    fun wa wb k ⟨h1, h2, h3, h4, h5, h6⟩ => ⟨below_keep h1 k h2, by have := k.size; omega, cell_keep k h3, cell_keep k h4, cell_keep k h5, cell_keep k h6⟩)
  go_region_held3 (fun w' => Below B0 w w' ∧ B0 ≤ w'.heap.size ∧ w'.cell? ⟨B0, 0, none⟩ = some (.int .u8 b) ∧ w'.cell? ⟨B0, 1, none⟩ = some (.int .i64 n) ∧ w'.cell? ⟨g1, 0, none⟩ = some (.int .u8 0) ∧ w'.cell? ⟨g1, 1, none⟩ = some (.int .i64 0))
    (first | assumption | exact ⟨hB2.drew, hz2, ha0, ha1, hy0, hy1⟩)
    (first
      | (go_at_call 10; (with_reducible refine (CR.out _).mono ?_); rintro e w' ⟨rfl, hb⟩; have hS := KS.out _ _ hb (by assumption))
      | (go_at_call 11; (with_reducible refine (CF.out _).mono ?_); rintro e w' ⟨rfl, hb⟩; have hS := KS.out _ _ hb (by assumption))
      | (go_at_call 12; (with_reducible refine (CA.out _).mono ?_); rintro e w' ⟨rfl, hb⟩; have hS := KS.out _ _ hb (by assumption)))
  rename_i hdup
  clear hdup
  have HS := Lib.hid hS
  obtain ⟨hB3, hz3, ha0', ha1', hy0', hy1'⟩ := hS
  clear hB2 hz2 ha0 ha1 hy0 hy1 hB3 hz3
  go_wp2_with (go_at_call 11; (with_reducible refine (CF.out _).mono ?_); rintro e w4 ⟨rfl, hb⟩; have hS := KS.out _ _ hb HS.out; obtain ⟨hB4, _, _, _, hz0, hz1⟩ := hS)
  go_ret
  exact ⟨rfl, hB4⟩

set_option maxHeartbeats 2000000 in
theorem steps_no2 (b c : Nat) (n : Int) (w : World) (hp : B.mayB b n = true) (hq : B.bitB c = false) :
    Calls Try.prog 3 #[.agg #[.int .u8 b, .int .i64 n], .int .u8 c] w fun e w' => e = .returned (.bool true) ∧ Below w.heap.size w w' := by
  have CS := Lib.hid (fun w => step_no b c n w (by rw [hp, hq]; rfl))
  have h48 : ((c : Int) != 48) = true := by simp [B.bitB] at hq ⊢; omega
  have h49 : ((c : Int) != 49) = true := by simp [B.bitB] at hq ⊢; omega
  clear hq
  have CR : Hid (∀ w, Calls Try.prog 10 #[.agg #[.int .u8 b, .int .i64 n]] w fun e w' => e = .returned (.bool true) ∧ Below w.heap.size w w') := Lib.hid (fun w => hp ▸ right3_any b n w)
  have CF : Hid (∀ w, Calls Try.prog 11 #[.agg #[.int .u8 b, .int .i64 n]] w fun e w' => e = .returned (.bool true) ∧ Below w.heap.size w w') := Lib.hid (fun w => hp ▸ refright3_any b n w)
  have CA := Lib.hid alive_any
  obtain ⟨B0, hB0⟩ : ∃ k, k = w.heap.size := ⟨_, rfl⟩
  rw [← hB0]
  have HB := Lib.hid hB0
  clear hp hB0
  go_enter Try.func3, Try.ntmps3
  go_wp2_with (go_at_call 9; (with_reducible refine (CS.out _).mono ?_); rintro e w1 ⟨rfl, hb⟩)
  have hT0 := (two_new w (.int .u8 b) (.int .i64 n) 23).below hb (by simp)
  have hT1 := two_new w1 (.int .u8 0) (.int .i64 0) 23
  have hz1 : w.heap.size < w1.heap.size := by have := hb.size; simp at this; omega
  have hB1 : Below B0 w w1 := by rw [HB.out]; exact ((Below.refl _ _).alloc (Nat.le_refl _) _).trans (hb.mono (by simp))
  have hB2 := hB1.alloc (by rw [HB.out]; omega) (.cells #[.int .u8 0, .int .i64 0] 23)
  have ha := hT0.alloc (.cells #[.int .u8 0, .int .i64 0] 23)
  have hz2 : B0 ≤ (w1.alloc (.cells #[.int .u8 0, .int .i64 0] 23)).heap.size := by rw [HB.out]; simp; omega
  rw [← HB.out] at ha ⊢
  clear hb hT0 hz1 hB1
  generalize w1.heap.size = g1 at *
  generalize w1.alloc (.cells #[.int .u8 0, .int .i64 0] 23) = w2 at *
  have ha0 := ha.cell0
  have ha1 := ha.cell1
  have hy0 := hT1.cell0
  have hy1 := hT1.cell1
  clear ha hT1
  have KS := Lib.hid (show ∀ wa wb, Below wa.heap.size wa wb → (Below B0 w wa ∧ B0 ≤ wa.heap.size ∧ wa.cell? ⟨B0, 0, none⟩ = some (.int .u8 b) ∧ wa.cell? ⟨B0, 1, none⟩ = some (.int .i64 n) ∧ wa.cell? ⟨g1, 0, none⟩ = some (.int .u8 0) ∧ wa.cell? ⟨g1, 1, none⟩ = some (.int .i64 0)) → (Below B0 w wb ∧ B0 ≤ wb.heap.size ∧ wb.cell? ⟨B0, 0, none⟩ = some (.int .u8 b) ∧ wb.cell? ⟨B0, 1, none⟩ = some (.int .i64 n) ∧ wb.cell? ⟨g1, 0, none⟩ = some (.int .u8 0) ∧ wb.cell? ⟨g1, 1, none⟩ = some (.int .i64 0)) from
    fun wa wb k ⟨h1, h2, h3, h4, h5, h6⟩ => ⟨below_keep h1 k h2, by have := k.size; omega, cell_keep k h3, cell_keep k h4, cell_keep k h5, cell_keep k h6⟩)
  go_region_held3 (fun w' => Below B0 w w' ∧ B0 ≤ w'.heap.size ∧ w'.cell? ⟨B0, 0, none⟩ = some (.int .u8 b) ∧ w'.cell? ⟨B0, 1, none⟩ = some (.int .i64 n) ∧ w'.cell? ⟨g1, 0, none⟩ = some (.int .u8 0) ∧ w'.cell? ⟨g1, 1, none⟩ = some (.int .i64 0))
    (first | assumption | exact ⟨hB2.drew, hz2, ha0, ha1, hy0, hy1⟩)
    (first
      | (go_at_call 10; (with_reducible refine (CR.out _).mono ?_); rintro e w' ⟨rfl, hb⟩; have hS := KS.out _ _ hb (by assumption))
      | (go_at_call 11; (with_reducible refine (CF.out _).mono ?_); rintro e w' ⟨rfl, hb⟩; have hS := KS.out _ _ hb (by assumption))
      | (go_at_call 12; (with_reducible refine (CA.out _).mono ?_); rintro e w' ⟨rfl, hb⟩; have hS := KS.out _ _ hb (by assumption)))
  rename_i hdup
  clear hdup
  have HS := Lib.hid hS
  obtain ⟨hB3, hz3, ha0', ha1', hy0', hy1'⟩ := hS
  clear hB2 hz2 ha0 ha1 hy0 hy1 hB3 hz3
  go_wp2_with (go_at_call 11; (with_reducible refine (CF.out _).mono ?_); rintro e w4 ⟨rfl, hb⟩; have hS := KS.out _ _ hb HS.out; obtain ⟨hB4, _, _, _, hz0, hz1⟩ := hS)
  go_ret
  exact ⟨rfl, hB4⟩

set_option maxHeartbeats 4000000 in
theorem steps_yes0 (b c n y m k : Nat) (w : World) (hp : B.mayB b n = true) (h48 : ((c : Int) != 48) = false)
    (CS : Hid (∀ w, Calls Try.prog 9 #[.agg #[.int .u8 b, .int .i64 n], .int .u8 c] w fun e w' => e = .returned (.tuple #[.agg #[.int .u8 y, .int .i64 m], .int .i64 k, .int .i64 0]) ∧ Below w.heap.size w w'))
    (CT : Hid (∀ w, Calls Try.prog 13 #[.agg #[.int .u8 b, .int .i64 n], .int .u8 c] w fun e w' => e = .returned (.tuple #[.agg #[.int .u8 y, .int .i64 m], .int .i64 k]) ∧ Below w.heap.size w w'))
    (CY : Hid (∀ w, Calls Try.prog 11 #[.agg #[.int .u8 y, .int .i64 m]] w fun e w' => e = .returned (.bool true) ∧ Below w.heap.size w w')) :
    Calls Try.prog 3 #[.agg #[.int .u8 b, .int .i64 n], .int .u8 c] w fun e w' => e = .returned (.bool true) ∧ Below w.heap.size w w' := by
  have CR : Hid (∀ w, Calls Try.prog 10 #[.agg #[.int .u8 b, .int .i64 n]] w fun e w' => e = .returned (.bool true) ∧ Below w.heap.size w w') := Lib.hid (fun w => hp ▸ right3_any b n w)
  have CF : Hid (∀ w, Calls Try.prog 11 #[.agg #[.int .u8 b, .int .i64 n]] w fun e w' => e = .returned (.bool true) ∧ Below w.heap.size w w') := Lib.hid (fun w => hp ▸ refright3_any b n w)
  have CA := Lib.hid alive_any
  obtain ⟨B0, hB0⟩ : ∃ k, k = w.heap.size := ⟨_, rfl⟩
  rw [← hB0]
  have HB := Lib.hid hB0
  clear hp hB0
  go_enter Try.func3, Try.ntmps3
  go_wp2_with (go_at_call 9; (with_reducible refine (CS.out _).mono ?_); rintro e w1 ⟨rfl, hb⟩)
  have hT0 := (two_new w (.int .u8 b) (.int .i64 n) 23).below hb (by simp)
  have hT1 := two_new w1 (.int .u8 y) (.int .i64 m) 23
  have hz1 : w.heap.size < w1.heap.size := by have := hb.size; simp at this; omega
  have hB1 : Below B0 w w1 := by rw [HB.out]; exact ((Below.refl _ _).alloc (Nat.le_refl _) _).trans (hb.mono (by simp))
  have hB2 := hB1.alloc (by rw [HB.out]; omega) (.cells #[.int .u8 y, .int .i64 m] 23)
  have ha := hT0.alloc (.cells #[.int .u8 y, .int .i64 m] 23)
  have hz2 : B0 ≤ (w1.alloc (.cells #[.int .u8 y, .int .i64 m] 23)).heap.size := by rw [HB.out]; simp; omega
  rw [← HB.out] at ha ⊢
  clear hb hT0 hz1 hB1
  generalize w1.heap.size = g1 at *
  generalize w1.alloc (.cells #[.int .u8 y, .int .i64 m] 23) = w2 at *
  have ha0 := ha.cell0
  have ha1 := ha.cell1
  have hy0 := hT1.cell0
  have hy1 := hT1.cell1
  clear ha hT1
  have KS := Lib.hid (show ∀ wa wb, Below wa.heap.size wa wb → (Below B0 w wa ∧ B0 ≤ wa.heap.size ∧ wa.cell? ⟨B0, 0, none⟩ = some (.int .u8 b) ∧ wa.cell? ⟨B0, 1, none⟩ = some (.int .i64 n) ∧ wa.cell? ⟨g1, 0, none⟩ = some (.int .u8 y) ∧ wa.cell? ⟨g1, 1, none⟩ = some (.int .i64 m)) → (Below B0 w wb ∧ B0 ≤ wb.heap.size ∧ wb.cell? ⟨B0, 0, none⟩ = some (.int .u8 b) ∧ wb.cell? ⟨B0, 1, none⟩ = some (.int .i64 n) ∧ wb.cell? ⟨g1, 0, none⟩ = some (.int .u8 y) ∧ wb.cell? ⟨g1, 1, none⟩ = some (.int .i64 m)) from
    fun wa wb k ⟨h1, h2, h3, h4, h5, h6⟩ => ⟨below_keep h1 k h2, by have := k.size; omega, cell_keep k h3, cell_keep k h4, cell_keep k h5, cell_keep k h6⟩)
  go_region_held3 (fun w' => Below B0 w w' ∧ B0 ≤ w'.heap.size ∧ w'.cell? ⟨B0, 0, none⟩ = some (.int .u8 b) ∧ w'.cell? ⟨B0, 1, none⟩ = some (.int .i64 n) ∧ w'.cell? ⟨g1, 0, none⟩ = some (.int .u8 y) ∧ w'.cell? ⟨g1, 1, none⟩ = some (.int .i64 m))
    (first | assumption | exact ⟨hB2.drew, hz2, ha0, ha1, hy0, hy1⟩)
    (first
      | (go_at_call 10; (with_reducible refine (CR.out _).mono ?_); rintro e w' ⟨rfl, hb⟩; have hS := KS.out _ _ hb (by assumption))
      | (go_at_call 11; (with_reducible refine (CF.out _).mono ?_); rintro e w' ⟨rfl, hb⟩; have hS := KS.out _ _ hb (by assumption))
      | (go_at_call 12; (with_reducible refine (CA.out _).mono ?_); rintro e w' ⟨rfl, hb⟩; have hS := KS.out _ _ hb (by assumption)))
  rename_i hdup
  clear hdup
  have HS := Lib.hid hS
  obtain ⟨hB3, hz3, ha0', ha1', hy0', hy1'⟩ := hS
  clear hB2 hz2 ha0 ha1 hy0 hy1 hB3 hz3
  go_wp2_with (first
    | (go_at_call 11; (with_reducible refine (CF.out _).mono ?_); rintro e w4 ⟨rfl, hb⟩; have hS := KS.out _ _ hb HS.out; have HS4 := Lib.hid hS; obtain ⟨hB4, hz4, hz0, hz1, hz2, hz3⟩ := hS)
    | (go_at_call 13; (with_reducible refine (CT.out _).mono ?_); rintro e w5 ⟨rfl, hb⟩; have hS := KS.out _ _ hb HS4.out; obtain ⟨hB5, hz5, hz50, hz51, hz52, hz53⟩ := hS; have e1 := cell_new hz52; have e2 := cell_new hz53)
    | (go_at_call 11; (with_reducible refine (CY.out _).mono ?_); rintro e w6 ⟨rfl, hb⟩))
  go_ret
  exact ⟨rfl, below_keep (hB5.alloc hz5 _) hb (by simp; omega)⟩

set_option maxHeartbeats 4000000 in
theorem steps_yes1 (b c n y m k : Nat) (w : World) (hp : B.mayB b n = true) (h48 : ((c : Int) != 48) = true) (h49 : ((c : Int) != 49) = false)
    (CS : Hid (∀ w, Calls Try.prog 9 #[.agg #[.int .u8 b, .int .i64 n], .int .u8 c] w fun e w' => e = .returned (.tuple #[.agg #[.int .u8 y, .int .i64 m], .int .i64 k, .int .i64 0]) ∧ Below w.heap.size w w'))
    (CT : Hid (∀ w, Calls Try.prog 13 #[.agg #[.int .u8 b, .int .i64 n], .int .u8 c] w fun e w' => e = .returned (.tuple #[.agg #[.int .u8 y, .int .i64 m], .int .i64 k]) ∧ Below w.heap.size w w'))
    (CY : Hid (∀ w, Calls Try.prog 11 #[.agg #[.int .u8 y, .int .i64 m]] w fun e w' => e = .returned (.bool true) ∧ Below w.heap.size w w')) :
    Calls Try.prog 3 #[.agg #[.int .u8 b, .int .i64 n], .int .u8 c] w fun e w' => e = .returned (.bool true) ∧ Below w.heap.size w w' := by
  have CR : Hid (∀ w, Calls Try.prog 10 #[.agg #[.int .u8 b, .int .i64 n]] w fun e w' => e = .returned (.bool true) ∧ Below w.heap.size w w') := Lib.hid (fun w => hp ▸ right3_any b n w)
  have CF : Hid (∀ w, Calls Try.prog 11 #[.agg #[.int .u8 b, .int .i64 n]] w fun e w' => e = .returned (.bool true) ∧ Below w.heap.size w w') := Lib.hid (fun w => hp ▸ refright3_any b n w)
  have CA := Lib.hid alive_any
  obtain ⟨B0, hB0⟩ : ∃ k, k = w.heap.size := ⟨_, rfl⟩
  rw [← hB0]
  have HB := Lib.hid hB0
  clear hp hB0
  go_enter Try.func3, Try.ntmps3
  go_wp2_with (go_at_call 9; (with_reducible refine (CS.out _).mono ?_); rintro e w1 ⟨rfl, hb⟩)
  have hT0 := (two_new w (.int .u8 b) (.int .i64 n) 23).below hb (by simp)
  have hT1 := two_new w1 (.int .u8 y) (.int .i64 m) 23
  have hz1 : w.heap.size < w1.heap.size := by have := hb.size; simp at this; omega
  have hB1 : Below B0 w w1 := by rw [HB.out]; exact ((Below.refl _ _).alloc (Nat.le_refl _) _).trans (hb.mono (by simp))
  have hB2 := hB1.alloc (by rw [HB.out]; omega) (.cells #[.int .u8 y, .int .i64 m] 23)
  have ha := hT0.alloc (.cells #[.int .u8 y, .int .i64 m] 23)
  have hz2 : B0 ≤ (w1.alloc (.cells #[.int .u8 y, .int .i64 m] 23)).heap.size := by rw [HB.out]; simp; omega
  rw [← HB.out] at ha ⊢
  clear hb hT0 hz1 hB1
  generalize w1.heap.size = g1 at *
  generalize w1.alloc (.cells #[.int .u8 y, .int .i64 m] 23) = w2 at *
  have ha0 := ha.cell0
  have ha1 := ha.cell1
  have hy0 := hT1.cell0
  have hy1 := hT1.cell1
  clear ha hT1
  have KS := Lib.hid (show ∀ wa wb, Below wa.heap.size wa wb → (Below B0 w wa ∧ B0 ≤ wa.heap.size ∧ wa.cell? ⟨B0, 0, none⟩ = some (.int .u8 b) ∧ wa.cell? ⟨B0, 1, none⟩ = some (.int .i64 n) ∧ wa.cell? ⟨g1, 0, none⟩ = some (.int .u8 y) ∧ wa.cell? ⟨g1, 1, none⟩ = some (.int .i64 m)) → (Below B0 w wb ∧ B0 ≤ wb.heap.size ∧ wb.cell? ⟨B0, 0, none⟩ = some (.int .u8 b) ∧ wb.cell? ⟨B0, 1, none⟩ = some (.int .i64 n) ∧ wb.cell? ⟨g1, 0, none⟩ = some (.int .u8 y) ∧ wb.cell? ⟨g1, 1, none⟩ = some (.int .i64 m)) from
    fun wa wb k ⟨h1, h2, h3, h4, h5, h6⟩ => ⟨below_keep h1 k h2, by have := k.size; omega, cell_keep k h3, cell_keep k h4, cell_keep k h5, cell_keep k h6⟩)
  go_region_held3 (fun w' => Below B0 w w' ∧ B0 ≤ w'.heap.size ∧ w'.cell? ⟨B0, 0, none⟩ = some (.int .u8 b) ∧ w'.cell? ⟨B0, 1, none⟩ = some (.int .i64 n) ∧ w'.cell? ⟨g1, 0, none⟩ = some (.int .u8 y) ∧ w'.cell? ⟨g1, 1, none⟩ = some (.int .i64 m))
    (first | assumption | exact ⟨hB2.drew, hz2, ha0, ha1, hy0, hy1⟩)
    (first
      | (go_at_call 10; (with_reducible refine (CR.out _).mono ?_); rintro e w' ⟨rfl, hb⟩; have hS := KS.out _ _ hb (by assumption))
      | (go_at_call 11; (with_reducible refine (CF.out _).mono ?_); rintro e w' ⟨rfl, hb⟩; have hS := KS.out _ _ hb (by assumption))
      | (go_at_call 12; (with_reducible refine (CA.out _).mono ?_); rintro e w' ⟨rfl, hb⟩; have hS := KS.out _ _ hb (by assumption)))
  rename_i hdup
  clear hdup
  have HS := Lib.hid hS
  obtain ⟨hB3, hz3, ha0', ha1', hy0', hy1'⟩ := hS
  clear hB2 hz2 ha0 ha1 hy0 hy1 hB3 hz3
  go_wp2_with (first
    | (go_at_call 11; (with_reducible refine (CF.out _).mono ?_); rintro e w4 ⟨rfl, hb⟩; have hS := KS.out _ _ hb HS.out; have HS4 := Lib.hid hS; obtain ⟨hB4, hz4, hz0, hz1, hz2, hz3⟩ := hS)
    | (go_at_call 13; (with_reducible refine (CT.out _).mono ?_); rintro e w5 ⟨rfl, hb⟩; have hS := KS.out _ _ hb HS4.out; obtain ⟨hB5, hz5, hz50, hz51, hz52, hz53⟩ := hS; have e1 := cell_new hz52; have e2 := cell_new hz53)
    | (go_at_call 11; (with_reducible refine (CY.out _).mono ?_); rintro e w6 ⟨rfl, hb⟩))
  go_ret
  exact ⟨rfl, below_keep (hB5.alloc hz5 _) hb (by simp; omega)⟩

theorem mayB_kn {b n c : Nat} (hp : B.mayB b n = true) (hq : B.bitB c = true) : B.mayB (B.kn (b, n) c).1 (B.kn (b, n) c).2 = true := by
  have hm : B.may (b, n) := by simp [B.mayB] at hp; unfold B.may; simp only; omega
  have hk := B.may_kn hm (c := c) (by simpa [B.bitB] using hq)
  unfold B.may at hk
  simp only [B.mayB, decide_eq_true_eq]
  omega

theorem stepsLaw_any (b c : Nat) (n : Int) (w : World) :
    Calls Try.prog 3 #[.agg #[.int .u8 b, .int .i64 n], .int .u8 c] w fun e w' => e = .returned (.bool true) ∧ Below w.heap.size w w' := by
  cases hp : B.mayB b n
  · exact steps_no1 b c n w hp
  · cases hq : B.bitB c
    · exact steps_no2 b c n w hp hq
    · obtain ⟨n, rfl⟩ : ∃ m : Nat, n = m := ⟨n.toNat, by simp [B.mayB] at hp; omega⟩
      have hn : n ≤ 5 := by simp [B.mayB] at hp; omega
      have hm := mayB_kn hp hq
      have CS := Lib.hid (fun w => step_any b c n w hp hq)
      have CT := Lib.hid (fun w => refstep_any b c n w hn)
      have CY : Hid (∀ w, Calls Try.prog 11 #[.agg #[.int .u8 (B.kn (b, n) c).1, .int .i64 (B.kn (b, n) c).2]] w fun e w' => e = .returned (.bool true) ∧ Below w.heap.size w w') := Lib.hid (fun w => by
        have := refright3_any (B.kn (b, n) c).1 (B.kn (b, n) c).2 w
        rwa [hm] at this)
      by_cases h : c = 48
      · exact steps_yes0 b c n _ _ _ w hp (by subst h; rfl) CS CT CY
      · have h9 : c = 49 := by simp [B.bitB] at hq; omega
        exact steps_yes1 b c n _ _ _ w hp (by subst h9; rfl) (by subst h9; rfl) CS CT CY
end Go.Proofs.Ytagboeejegbcgaa
