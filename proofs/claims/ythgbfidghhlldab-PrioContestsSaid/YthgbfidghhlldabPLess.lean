/- Package prio's Less. -/
import Derived.Test.YthgbfidghhlldabPFields
import Derived.Test.YthgbfidghhlldabPCmp
import Derived.Test.YthgbfidghhlldabPrioC
import Derived.Deep.RegionHeld3
import Derived.BigQuiet
namespace Go.Proofs.Ythgbfidghhlldab
open Go.RowKit Go.Lib
attribute [local go_sem ↓] Go.wp_at_zero Go.wp_at_succ

theorem FX.field_all (f : FX) : f.field.data.toList.all B.okc = true := by rw [FX.field_list]; exact B.fieldL_all _
theorem FX.field_le (f g : FX) (h : B.firstD f.field.data.toList g.field.data.toList = none) : f.field.size ≤ g.field.size := by
  rw [FX.field_list, FX.field_list] at h
  have := congrArg List.length (B.field_none h)
  rw [← FX.field_list, ← FX.field_list, B.size_len, B.size_len] at this
  omega
/-- what comparing two frames' fields gives -/
def FX.cmp (f g : FX) : Int := B.cmpL (B.fieldL f.fr) (B.fieldL g.fr)
theorem FX.cmp_less (f g : FX) : decide (f.cmp g < 0) = f.less g := B.cmpL_neg _ _
theorem compare_fields (f g : FX) (w : World) :
    Calls Try.prog 20 #[.string f.field, .string g.field] w fun e w' => e = .returned (.int .i64 (f.cmp g)) ∧ Below w.heap.size w w' := by
  have := compare_any f.field g.field w f.field_all g.field_all f.field_size (FX.field_le f g)
  rw [FX.field_list, FX.field_list] at this
  exact this
theorem rowF_two (w : World) (f g : FX) : RowF (w.alloc (.cells #[.int .u32 f.id, .bool f.ext, .bool f.rem, .int .i64 f.dlc, .string f.data, .int .u32 g.id, .bool g.ext, .bool g.rem, .int .i64 g.dlc, .string g.data] 25)) w.heap.size 0 [f, g] := by
  intro i hi
  have hi2 : i = 0 ∨ i = 1 := by simp at hi; omega
  rcases hi2 with rfl | rfl
  · refine ⟨?_, ?_, ?_, ?_, ?_⟩ <;> (rw [World.cell?_alloc_at _ _ _ _ rfl]; simp)
  · refine ⟨?_, ?_, ?_, ?_, ?_⟩ <;> (rw [World.cell?_alloc_at _ _ _ _ rfl]; simp)

set_option maxRecDepth 100000 in
set_option maxHeartbeats 4000000 in
theorem less_yes (f g : FX) (w : World) (hf : f.may = true) (hg : g.may = true) :
    Calls Try.prog 8 #[.agg f.v, .agg g.v] w fun e w' => e = .returned (.bool (f.less g)) ∧ Below w.heap.size w w' := by
  obtain ⟨r, hr⟩ : ∃ r, r = f.cmp g := ⟨_, rfl⟩
  have HR := Lib.hid (show decide (r < 0) = f.less g by rw [hr]; exact FX.cmp_less f g)
  have CC := Lib.hid (fun w => compare_fields f g w)
  rw [← hr] at CC
  have hB := ((Below.refl w.heap.size w).alloc (Nat.le_refl _) (.cells f.v 25)).alloc (by simp) (.cells g.v 25)
  obtain ⟨W, hW⟩ : ∃ W, W = (w.alloc (.cells f.v 25)).alloc (.cells g.v 25) := ⟨_, rfl⟩
  have hz : W.heap.size = w.heap.size + 1 + 1 := by rw [hW]; simp
  have hR := rowF_two W f g
  rw [hz] at hR
  have CF : Hid (Calls Try.prog 19 #[.slice (some ⟨w.heap.size + 1 + 1, 0, none⟩) 2 2] (W.alloc (.cells #[.int .u32 f.id, .bool f.ext, .bool f.rem, .int .i64 f.dlc, .string f.data, .int .u32 g.id, .bool g.ext, .bool g.rem, .int .i64 g.dlc, .string g.data] 25)) fun e w' => ∃ cap', e = .returned (.tuple #[.slice (some ⟨w.heap.size + 1 + 1 + 1, 0, none⟩) 2 cap', .int .i64 0]) ∧ w'.cell? ⟨w.heap.size + 1 + 1 + 1, 0, none⟩ = some (.string f.field) ∧ w'.cell? ⟨w.heap.size + 1 + 1 + 1, 1, none⟩ = some (.string g.field) ∧ Below w.heap.size w w') := Lib.hid (by
    have hz2 : (W.alloc (.cells #[.int .u32 f.id, .bool f.ext, .bool f.rem, .int .i64 f.dlc, .string f.data, .int .u32 g.id, .bool g.ext, .bool g.rem, .int .i64 g.dlc, .string g.data] 25)).heap.size = w.heap.size + 1 + 1 + 1 := by rw [World.size_alloc, hz]
    refine (fieldsOf_yes (w.heap.size + 1 + 1) 0 2 [f, g] _ (by simp) hR (by rw [hz2]; omega) (by simp [hf, hg])).mono ?_
    rintro e w1 ⟨c, rfl, ho, hb⟩
    rw [hz2] at ho hb
    refine ⟨c, by rw [hz2]; rfl, ho.cellAt 0 (by simp), ho.cellAt 1 (by simp), ?_⟩
    rw [hW] at hb
    exact (hB.alloc (by simp; omega) _).trans (hb.mono (by omega)))
  rw [hW] at CF
  clear hf hg hr hz hR hW
  go_enter Try.func8, Try.ntmps8
  go_wp2_with (go_at_call 19; (with_reducible refine CF.out.mono ?_); rintro e w1 ⟨cap', rfl, d0, d1, hb1⟩)
  have KS := Lib.hid (show ∀ wa wb, Below wa.heap.size wa wb → (Below w.heap.size w wa ∧ wa.cell? ⟨w.heap.size + 1 + 1 + 1, 0, none⟩ = some (.string f.field) ∧ wa.cell? ⟨w.heap.size + 1 + 1 + 1, 1, none⟩ = some (.string g.field)) → (Below w.heap.size w wb ∧ wb.cell? ⟨w.heap.size + 1 + 1 + 1, 0, none⟩ = some (.string f.field) ∧ wb.cell? ⟨w.heap.size + 1 + 1 + 1, 1, none⟩ = some (.string g.field)) from
    fun wa wb k ⟨h1, h2, h3⟩ => ⟨h1.trans (k.mono h1.size), cell_keep k h2, cell_keep k h3⟩)
  go_region_held3 (fun w' => Below w.heap.size w w' ∧ w'.cell? ⟨w.heap.size + 1 + 1 + 1, 0, none⟩ = some (.string f.field) ∧ w'.cell? ⟨w.heap.size + 1 + 1 + 1, 1, none⟩ = some (.string g.field))
    (first | assumption | exact ⟨hb1.drew, d0, d1⟩ | exact ⟨hb1, d0, d1⟩)
    ((go_at_call 20; (with_reducible refine (CC.out _).mono ?_); rintro e w2 ⟨rfl, hb2⟩; have hS := KS.out _ _ hb2 (by assumption)))
  all_goals go_wp2
  go_ret
  exact ⟨ret_bool HR.out, hS.1⟩

set_option maxRecDepth 100000 in
set_option maxHeartbeats 4000000 in
theorem less_no (f g : FX) (w : World) (h : (f.may && g.may) = false) :
    Calls Try.prog 8 #[.agg f.v, .agg g.v] w fun e w' => e = .returned (.bool false) ∧ Below w.heap.size w w' := by
  have hB := ((Below.refl w.heap.size w).alloc (Nat.le_refl _) (.cells f.v 25)).alloc (by simp) (.cells g.v 25)
  obtain ⟨W, hW⟩ : ∃ W, W = (w.alloc (.cells f.v 25)).alloc (.cells g.v 25) := ⟨_, rfl⟩
  have hz : W.heap.size = w.heap.size + 1 + 1 := by rw [hW]; simp
  have hR := rowF_two W f g
  rw [hz] at hR
  have CF : Hid (Calls Try.prog 19 #[.slice (some ⟨w.heap.size + 1 + 1, 0, none⟩) 2 2] (W.alloc (.cells #[.int .u32 f.id, .bool f.ext, .bool f.rem, .int .i64 f.dlc, .string f.data, .int .u32 g.id, .bool g.ext, .bool g.rem, .int .i64 g.dlc, .string g.data] 25)) fun e w' => e = .returned (.tuple #[.slice none 0 0, .int .i64 1]) ∧ Below w.heap.size w w') := Lib.hid (by
    have hz2 : (W.alloc (.cells #[.int .u32 f.id, .bool f.ext, .bool f.rem, .int .i64 f.dlc, .string f.data, .int .u32 g.id, .bool g.ext, .bool g.rem, .int .i64 g.dlc, .string g.data] 25)).heap.size = w.heap.size + 1 + 1 + 1 := by rw [World.size_alloc, hz]
    refine (fieldsOf_no (w.heap.size + 1 + 1) 0 2 [f, g] _ (by simp) hR (by rw [hz2]; omega) (by simpa using h)).mono ?_
    rintro e w1 ⟨rfl, hb⟩
    rw [hz2] at hb
    refine ⟨rfl, ?_⟩
    rw [hW] at hb
    exact (hB.alloc (by simp; omega) _).trans (hb.mono (by omega)))
  rw [hW] at CF
  clear h hz hR hW
  go_enter Try.func8, Try.ntmps8
  go_wp2_with (go_at_call 19; (with_reducible refine CF.out.mono ?_); rintro e w1 ⟨rfl, hb1⟩)
  go_quiet (fail)
  rename_i nq
  replace hb1 := below_drewN hb1 nq
  generalize w1.drewN nq = w2 at *
  go_wp2
  go_ret
  exact ⟨rfl, hb1⟩

/-- Less, whatever the frames are -/
theorem less_any (f g : FX) (w : World) :
    Calls Try.prog 8 #[.agg f.v, .agg g.v] w fun e w' => e = .returned (.bool (f.may && g.may && f.less g)) ∧ Below w.heap.size w w' := by
  cases h : f.may && g.may
  · exact less_no f g w h
  · rw [Bool.and_eq_true] at h
    exact less_yes f g w h.1 h.2
end Go.Proofs.Ythgbfidghhlldab
