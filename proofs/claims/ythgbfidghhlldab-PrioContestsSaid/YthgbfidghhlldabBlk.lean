/- Blocks of cells; what a call keeps. -/
import Derived.Test.YthgbfidghhlldabUtil
import Derived.OneCell
namespace Go.Proofs.Ythgbfidghhlldab
open Go.RowKit Go.Lib

theorem below_keep {B : Nat} {a w w' : World} (h : Below B a w) (k : Below w.heap.size w w') (hz : B ≤ w.heap.size) : Below B a w' := h.trans (k.mono hz)
theorem cell_keep {w w' : World} (k : Below w.heap.size w w') {p : Addr} {v : Value} (h : w.cell? p = some v) : w'.cell? p = some v := by
  rw [k.cell (cell_lt h)]; exact h
/-- a block of cells -/
def Blk (w : World) (g : Nat) (cs : Array Value) (t : TypeId) : Prop := w.heap[g]? = some (.cells cs t (0, 0))
theorem Blk.lt {w : World} {g : Nat} {cs : Array Value} {t : TypeId} (h : Blk w g cs t) : g < w.heap.size := lt_of_block h
theorem Blk.cell {w : World} {g : Nat} {cs : Array Value} {t : TypeId} (h : Blk w g cs t) (i : Nat) (v : Value) (hi : cs[i]? = some v) : w.cell? ⟨g, i, none⟩ = some v := by simp [World.cell?, show w.heap[g]? = _ from h, hi]
theorem Blk.free {w : World} {g : Nat} {cs : Array Value} {t : TypeId} (h : Blk w g cs t) (i : Nat) : w.frozen? ⟨g, i, none⟩ = false := by simp [World.frozen?, show w.heap[g]? = _ from h]
theorem Blk.below {w w' : World} {B g : Nat} {cs : Array Value} {t : TypeId} (h : Blk w g cs t) (hb : Below B w w') (hg : g < B) : Blk w' g cs t := by
  show w'.heap[g]? = _
  rw [hb.block g hg]; exact h
theorem Blk.keep {w w' : World} {g : Nat} {cs : Array Value} {t : TypeId} (h : Blk w g cs t) (hb : Below w.heap.size w w') : Blk w' g cs t := h.below hb h.lt
theorem Blk.alloc {w : World} {g : Nat} {cs : Array Value} {t : TypeId} (h : Blk w g cs t) (o : Obj) : Blk (w.alloc o) g cs t := by
  show (w.alloc o).heap[g]? = _
  rw [Below.heap_alloc _ _ _ h.lt]; exact h
theorem blk_new (w : World) (cs : Array Value) (t : TypeId) (k : Nat) (hk : k = w.heap.size) : Blk (w.alloc (.cells cs t)) k cs t := by subst hk; exact heap_alloc_new _ _
theorem Blk.drew {w : World} {g : Nat} {cs : Array Value} {t : TypeId} (h : Blk w g cs t) : Blk w.drew g cs t := h
theorem blk_set4 {w : World} {g : Nat} {a b c d e : Value} {t : TypeId} (h : Blk w g #[a, b, c, d, e] t) (x : Value) : Blk (w.setCell ⟨g, 4, none⟩ x) g #[a, b, c, d, x] t := by
  have hlt := h.lt
  have h' : w.heap[g] = .cells #[a, b, c, d, e] t (0, 0) := by simpa [Array.getElem?_eq_getElem hlt] using (show w.heap[g]? = _ from h)
  show (w.heap.modify g _)[g]? = _
  rw [Array.getElem?_eq_getElem (by simpa using hlt), Array.getElem_modify_self, h']
  rfl
theorem blk_set0 {w : World} {g : Nat} {a b c d e : Value} {t : TypeId} (h : Blk w g #[a, b, c, d, e] t) (x : Value) : Blk (w.setCell ⟨g, 0, none⟩ x) g #[x, b, c, d, e] t := by
  have hlt := h.lt
  have h' : w.heap[g] = .cells #[a, b, c, d, e] t (0, 0) := by simpa [Array.getElem?_eq_getElem hlt] using (show w.heap[g]? = _ from h)
  show (w.heap.modify g _)[g]? = _
  rw [Array.getElem?_eq_getElem (by simpa using hlt), Array.getElem_modify_self, h']
  rfl
theorem blk_set1 {w : World} {g : Nat} {a b c d e : Value} {t : TypeId} (h : Blk w g #[a, b, c, d, e] t) (x : Value) : Blk (w.setCell ⟨g, 1, none⟩ x) g #[a, x, c, d, e] t := by
  have hlt := h.lt
  have h' : w.heap[g] = .cells #[a, b, c, d, e] t (0, 0) := by simpa [Array.getElem?_eq_getElem hlt] using (show w.heap[g]? = _ from h)
  show (w.heap.modify g _)[g]? = _
  rw [Array.getElem?_eq_getElem (by simpa using hlt), Array.getElem_modify_self, h']
  rfl
theorem blk_set2 {w : World} {g : Nat} {a b c d e : Value} {t : TypeId} (h : Blk w g #[a, b, c, d, e] t) (x : Value) : Blk (w.setCell ⟨g, 2, none⟩ x) g #[a, b, x, d, e] t := by
  have hlt := h.lt
  have h' : w.heap[g] = .cells #[a, b, c, d, e] t (0, 0) := by simpa [Array.getElem?_eq_getElem hlt] using (show w.heap[g]? = _ from h)
  show (w.heap.modify g _)[g]? = _
  rw [Array.getElem?_eq_getElem (by simpa using hlt), Array.getElem_modify_self, h']
  rfl
theorem blk_set3 {w : World} {g : Nat} {a b c d e : Value} {t : TypeId} (h : Blk w g #[a, b, c, d, e] t) (x : Value) : Blk (w.setCell ⟨g, 3, none⟩ x) g #[a, b, c, x, e] t := by
  have hlt := h.lt
  have h' : w.heap[g] = .cells #[a, b, c, d, e] t (0, 0) := by simpa [Array.getElem?_eq_getElem hlt] using (show w.heap[g]? = _ from h)
  show (w.heap.modify g _)[g]? = _
  rw [Array.getElem?_eq_getElem (by simpa using hlt), Array.getElem_modify_self, h']
  rfl
theorem five_below {B : Nat} {w wa : World} (h3 : Below B w wa) (a b c d e : Value) : Below B w (((((wa.setCell ⟨B, 0, none⟩ a).setCell ⟨B, 1, none⟩ b).setCell ⟨B, 2, none⟩ c).setCell ⟨B, 3, none⟩ d).setCell ⟨B, 4, none⟩ e) :=
  ((((h3.setCell (show B ≤ B from Nat.le_refl _) _).setCell (show B ≤ B from Nat.le_refl _) _).setCell (show B ≤ B from Nat.le_refl _) _).setCell (show B ≤ B from Nat.le_refl _) _).setCell (show B ≤ B from Nat.le_refl _) _
theorem Blk.other {w : World} {g k i : Nat} {cs : Array Value} {t : TypeId} (h : Blk w g cs t) (hk : g ≠ k) (x : Value) : Blk (w.setCell ⟨k, i, none⟩ x) g cs t := by
  show (w.setCell ⟨k, i, none⟩ x).heap[g]? = _
  rw [Below.heap_setCell _ _ _ _ hk]; exact h
/-- one cell of a block is set -/
theorem Blk.set {w : World} {g : Nat} {cs : Array Value} {t : TypeId} (h : Blk w g cs t) (i : Nat) (x : Value) : Blk (w.setCell ⟨g, i, none⟩ x) g (cs.setIfInBounds i x) t := by
  have hlt := h.lt
  have h' : w.heap[g] = .cells cs t (0, 0) := by simpa [Array.getElem?_eq_getElem hlt] using (show w.heap[g]? = _ from h)
  show (w.heap.modify g _)[g]? = _
  rw [Array.getElem?_eq_getElem (by simpa using hlt), Array.getElem_modify_self, h']
  rfl
end Go.Proofs.Ythgbfidghhlldab
