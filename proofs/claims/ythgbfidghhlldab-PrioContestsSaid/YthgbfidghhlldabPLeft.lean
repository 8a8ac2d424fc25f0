/- The law PrioLeft: its facts and what lies in memory. -/
import Derived.Test.YthgbfidghhlldabJ6
import Derived.Test.YthgbfidghhlldabPLess
import Derived.Test.YthgbfidghhlldabPrioH
namespace Go.Proofs.Ythgbfidghhlldab
open Go.RowKit Go.Lib
attribute [local go_sem ↓] Go.wp_at_zero Go.wp_at_succ

section
variable {hs : List FX} {h0 : 0 < hs.length}
theorem mem_leftF {i : Nat} : i ∈ leftF hs h0 ↔ ∃ h : i < hs.length, B.fieldL hs[i].fr = B.fieldL (bestF hs h0).fr := by
  unfold leftF
  rw [List.mem_filter, List.mem_range, decide_eq_true_eq]
  constructor
  · rintro ⟨h, e⟩; exact ⟨h, by rw [← fl_fldS h]; exact e⟩
  · rintro ⟨h, e⟩; exact ⟨h, by rw [fl_fldS h]; exact e⟩
theorem leftF_pos : 0 < (leftF hs h0).length := by
  obtain ⟨m, hm, e⟩ := List.getElem_of_mem (bestF_mem hs h0)
  exact List.length_pos_of_mem (mem_leftF.2 ⟨hm, by rw [e]⟩)
theorem leftF_at (z : Nat) (hz : z ∈ leftF hs h0) : ∃ h : z < hs.length, B.fieldL hs[z].fr = B.fieldL (bestF hs h0).fr := mem_leftF.1 hz
theorem lostF_len : (lostF hs h0).length = hs.length := by unfold lostF; simp
theorem lostF_at {i : Nat} (h : i < hs.length) : (lostF hs h0)[i]'(by rw [lostF_len]; exact h) = B.firstI (B.fieldL hs[i].fr) (B.fieldL (bestF hs h0).fr) := by
  unfold lostF; simp only [List.getElem_map, List.getElem_range]; rw [fl_fldS h]
theorem lostF_in {i : Nat} (h : i < hs.length) (hi : i ∈ leftF hs h0) : (lostF hs h0)[i]'(by rw [lostF_len]; exact h) = -1 := by
  obtain ⟨_, e⟩ := mem_leftF.1 hi
  rw [lostF_at h, e]; unfold B.firstI; rw [B.firstD_self]
theorem lostF_out {i : Nat} (h : i < hs.length) (hi : ¬ i ∈ leftF hs h0) : 0 ≤ (lostF hs h0)[i]'(by rw [lostF_len]; exact h) := by
  rw [lostF_at h]
  unfold B.firstI
  cases hd : B.firstD (B.fieldL hs[i].fr) (B.fieldL (bestF hs h0).fr) with
  | none => exact absurd (mem_leftF.2 ⟨h, B.field_none hd⟩) hi
  | some d => simp only; omega
theorem left_less {i z : Nat} (h : i < hs.length) (hz : z ∈ leftF hs h0) : (hs[z]'(mem_leftF.1 hz).1).less hs[i] = !decide (i ∈ leftF hs h0) := by
  obtain ⟨hzl, ez⟩ := mem_leftF.1 hz
  unfold FX.less
  rw [ez]
  by_cases hi : i ∈ leftF hs h0
  · obtain ⟨_, e⟩ := mem_leftF.1 hi
    rw [e, B.lessL_self, decide_eq_true hi]; rfl
  · rw [decide_eq_false hi]
    cases hd : B.firstD (B.fieldL hs[i].fr) (B.fieldL (bestF hs h0).fr) with
    | none => exact absurd (mem_leftF.2 ⟨h, B.field_none hd⟩) hi
    | some d =>
      have h1 := B.lessL_or (B.fieldL_all hs[i].fr) (B.fieldL_all (bestF hs h0).fr) hd
      have h2 : B.lessL (B.fieldL hs[i].fr) (B.fieldL (bestF hs h0).fr) = false := bestF_min hs h0 _ (List.getElem_mem h)
      rw [h2] at h1
      cases hl : B.lessL (B.fieldL (bestF hs h0).fr) (B.fieldL hs[i].fr)
      · rw [hl] at h1; cases h1
      · rfl
theorem less_left {i z : Nat} (h : i < hs.length) (hz : z ∈ leftF hs h0) : hs[i].less (hs[z]'(mem_leftF.1 hz).1) = false := by
  obtain ⟨hzl, ez⟩ := mem_leftF.1 hz
  unfold FX.less
  rw [ez]
  exact bestF_min hs h0 _ (List.getElem_mem h)
theorem left_field {i z : Nat} (h : i < hs.length) (hz : z ∈ leftF hs h0) : hs[i].field = (hs[z]'(mem_leftF.1 hz).1).field ↔ i ∈ leftF hs h0 := by
  obtain ⟨hzl, ez⟩ := mem_leftF.1 hz
  rw [mem_leftF]
  constructor
  · intro e
    refine ⟨h, ?_⟩
    rw [← ez, ← FX.field_list, ← FX.field_list, e]
  · rintro ⟨_, e⟩
    apply bytes_same
    rw [FX.field_list, FX.field_list, e, ez]
end
/-- what lies in memory while the law looks at those that are left -/
structure LS (w0 : World) (hs : List FX) (ls : List Nat) (os : List Int) (g1 gl go bm : Nat) (ms : List Nat) (W : World) : Prop where
  row : RowF W g1 0 hs
  left : ∀ j (h : j < ls.length), W.cell? ⟨gl, j, none⟩ = some (.int .i64 (ls[j] : Nat))
  lost : ∀ j (h : j < os.length), W.cell? ⟨go, j, none⟩ = some (.int .i64 os[j])
  set : SetM W bm ms
  lt : g1 < bm ∧ gl < bm ∧ go < bm ∧ w0.heap.size ≤ bm
  bel : Below w0.heap.size w0 W
theorem LS.keep {w0 W W' : World} {hs : List FX} {ls ms : List Nat} {os : List Int} {g1 gl go bm : Nat} (h : LS w0 hs ls os g1 gl go bm ms W) (hb : Below W.heap.size W W') : LS w0 hs ls os g1 gl go bm ms W' := by
  have hm := h.set.lt
  obtain ⟨l1, l2, l3, l4⟩ := h.lt
  exact ⟨h.row.below hb (by omega), fun j hj => by rw [hb.cell (p := ⟨gl, j, none⟩) (by show gl < W.heap.size; omega)]; exact h.left j hj,
    fun j hj => by rw [hb.cell (p := ⟨go, j, none⟩) (by show go < W.heap.size; omega)]; exact h.lost j hj, h.set.keep hb, h.lt, h.bel.trans (hb.mono h.bel.size)⟩
theorem LS.put {w0 W W' : World} {hs : List FX} {ls ms : List Nat} {os : List Int} {g1 gl go bm i : Nat} (h : LS w0 hs ls os g1 gl go bm ms W) (hg : W.grownBy W' (some bm)) (hs' : W'.ownsMap Try.prog 3 (plainElem Try.prog 4) bm (ms.length + 1) ((setD ms).put (.int .i64 (i : Int)) (.lit (.bool true)))) : LS w0 hs ls os g1 gl go bm (ms ++ [i]) W' := by
  have hm := h.set.lt
  obtain ⟨l1, l2, l3, l4⟩ := h.lt
  have hb : Below bm W W' := ⟨hg.os, hg.tape, hg.output, hg.size, fun k hk => hg.block k (by omega) (fun e => by cases e; omega)⟩
  refine ⟨h.row.below hb l1, fun j hj => by rw [hb.cell (p := ⟨gl, j, none⟩) l2]; exact h.left j hj, fun j hj => by rw [hb.cell (p := ⟨go, j, none⟩) l3]; exact h.lost j hj, ?_, h.lt, h.bel.trans (hb.mono l4)⟩
  unfold SetM
  rw [setD_snoc, List.length_append]
  exact hs'
theorem RowF.at0 {w : World} {g : Nat} {fs : List FX} (h : RowF w g 0 fs) (i : Nat) (hi : i < fs.length) :
    w.cell? ⟨g, i * 5, none⟩ = some (.int .u32 fs[i].id) ∧ w.cell? ⟨g, i * 5 + 1, none⟩ = some (.bool fs[i].ext) ∧ w.cell? ⟨g, i * 5 + 2, none⟩ = some (.bool fs[i].rem) ∧ w.cell? ⟨g, i * 5 + 3, none⟩ = some (.int .i64 fs[i].dlc) ∧ w.cell? ⟨g, i * 5 + 4, none⟩ = some (.string fs[i].data) := by
  have := h i hi
  simp only [Nat.zero_add] at this
  exact this
end Go.Proofs.Ythgbfidghhlldab
