/- The walk of the reference's Size (layer 4). -/
import Derived.Test.YtkkibcjndgfmfaaRefNum
import Derived.Test.YtkkibcjndgfmfaaPlain
namespace Go.Proofs.Ytkkibcjndgfmfaa
open Go.RowKit Go.Lib

theorem bitAt_of (s : ByteArray) (i : Nat) (h : i < s.size) : B.bitAt s.data.toList i = s[i] := by
  unfold B.bitAt
  rw [List.getD_eq_getElem?_getD, List.getElem?_eq_getElem (by rw [B.size_len]; exact h)]; rfl
theorem cutL_of (s : ByteArray) (a b : Nat) : B.cutL s.data.toList a b = (s.extract a b).data.toList := by
  unfold B.cutL; rw [Lib.extract_data, List.drop_take]
theorem base_of (s : ByteArray) (h : 13 < s.size) : B.baseL s.data.toList = if s[13].toNat = 49 then 39 else 19 := by
  unfold B.baseL
  rw [bitAt_of s 13 h]
  by_cases e : s[13].toNat = 49
  · rw [if_pos e, if_pos (UInt8.toNat_inj.1 e)]
  · rw [if_neg e, if_neg (fun e2 => e (by rw [e2]; rfl))]
theorem right_cut {s : ByteArray} (hr : B.right s = true) (a b : Nat) : B.right (s.extract a b) = true := by
  have h4 := B.right_size hr
  refine right_of_all (by rw [ByteArray.size_extract]; omega) ?_
  rw [Lib.extract_data]
  refine B.all_take ?_ _
  have := B.right_all hr
  rw [List.all_eq_true] at *; intro x hx; exact this x (List.mem_of_mem_drop hx)
theorem right_cat {a b : ByteArray} (ha : B.right a = true) (hb : B.right b = true) (hz : a.size + b.size ≤ 4000) : B.right (a ++ b) = true :=
  right_of_all (by rw [ByteArray.size_append]; exact hz) (by rw [B.cat_list, List.all_append, B.right_all ha, B.right_all hb]; rfl)
theorem size_14 {s : ByteArray} (h : s.size < 14) : B.sizeL s.data.toList = (0, 3) := by
  unfold B.sizeL; rw [if_pos (by rw [B.size_len]; exact h)]
theorem size_base {s : ByteArray} {n : Nat} (h : 13 < s.size) (hb : (if s[13].toNat = 49 then 39 else 19) = n) (hn : s.size < n) : B.sizeL s.data.toList = (0, 3) := by
  unfold B.sizeL; rw [if_neg (by rw [B.size_len]; omega), base_of s h, hb, if_pos (by rw [B.size_len]; exact hn)]
theorem size_dlc {s : ByteArray} {n : Nat} (h : 13 < s.size) (hb : (if s[13].toNat = 49 then 39 else 19) = n) (hn : n ≤ s.size) (hd : 8 < B.num (s.extract (n - 4) n).data.toList) : B.sizeL s.data.toList = (0, 12) := by
  unfold B.sizeL; rw [if_neg (by rw [B.size_len]; omega), base_of s h, hb, if_neg (by rw [B.size_len]; omega), cutL_of, if_pos hd]
theorem size_ok {s : ByteArray} {n : Nat} (h : 13 < s.size) (hb : (if s[13].toNat = 49 then 39 else 19) = n) (hn : n ≤ s.size) (hd : B.num (s.extract (n - 4) n).data.toList ≤ 8) (h7 : n - 7 < s.size) :
    B.sizeL s.data.toList = (n + 8 * (if s[n - 7].toNat = 49 then 0 else B.num (s.extract (n - 4) n).data.toList), 0) := by
  unfold B.sizeL
  rw [if_neg (by rw [B.size_len]; omega), base_of s h, hb, if_neg (by rw [B.size_len]; omega), cutL_of, if_neg (by omega), bitAt_of s _ h7]
  congr 3
  by_cases e : s[n - 7].toNat = 49
  · rw [if_pos e, if_pos (UInt8.toNat_inj.1 e)]
  · rw [if_neg e, if_neg (fun e2 => e (by rw [e2]; rfl))]
theorem ret_two {a b c d : Int} (h : a = c) (k : b = d) : Ending.returned (.tuple #[.int .i64 a, .int .i64 b]) = .returned (.tuple #[.int .i64 c, .int .i64 d]) := by rw [h, k]

/-- a block of cells -/
def Blk (w : World) (g : Nat) (cs : Array Value) (t : TypeId) : Prop := w.heap[g]? = some (.cells cs t (0, 0))
theorem Blk.lt {w : World} {g : Nat} {cs : Array Value} {t : TypeId} (h : Blk w g cs t) : g < w.heap.size := lt_of_block h
theorem Blk.cell {w : World} {g : Nat} {cs : Array Value} {t : TypeId} (h : Blk w g cs t) (i : Nat) (v : Value) (hi : cs[i]? = some v) : w.cell? ⟨g, i, none⟩ = some v := by simp [World.cell?, show w.heap[g]? = _ from h, hi]
theorem Blk.free {w : World} {g : Nat} {cs : Array Value} {t : TypeId} (h : Blk w g cs t) (i : Nat) : w.frozen? ⟨g, i, none⟩ = false := by simp [World.frozen?, show w.heap[g]? = _ from h]
theorem Blk.below {w w' : World} {B g : Nat} {cs : Array Value} {t : TypeId} (h : Blk w g cs t) (hb : Below B w w') (hg : g < B) : Blk w' g cs t := by
  show w'.heap[g]? = _
  rw [hb.block g hg]; exact h
theorem Blk.keep {w w' : World} {g : Nat} {cs : Array Value} {t : TypeId} (h : Blk w g cs t) (hb : Below w.heap.size w w') : Blk w' g cs t := h.below hb h.lt
theorem Blk.alloc {w : World} {g : Nat} {cs : Array Value} {t : TypeId} (h : Blk w g cs t) (o : Obj) : Blk (w.alloc o) g cs t := by
  show (w.alloc o).heap[g]? = _
  rw [Below.heap_alloc _ _ _ h.lt]; exact h
theorem blk_new (w : World) (cs : Array Value) (t : TypeId) (k : Nat) (hk : k = w.heap.size) : Blk (w.alloc (.cells cs t)) k cs t := by subst hk; exact heap_alloc_new _ _
theorem Blk.drew {w : World} {g : Nat} {cs : Array Value} {t : TypeId} (h : Blk w g cs t) : Blk w.drew g cs t := h
theorem blk_set4 {w : World} {g : Nat} {a b c d e : Value} {t : TypeId} (h : Blk w g #[a, b, c, d, e] t) (x : Value) : Blk (w.setCell ⟨g, 4, none⟩ x) g #[a, b, c, d, x] t := by
  have hlt := h.lt
  have h' : w.heap[g] = .cells #[a, b, c, d, e] t (0, 0) := by simpa [Array.getElem?_eq_getElem hlt] using (show w.heap[g]? = _ from h)
  show (w.heap.modify g _)[g]? = _
  rw [Array.getElem?_eq_getElem (by simpa using hlt), Array.getElem_modify_self, h']
  rfl
theorem blk_set0 {w : World} {g : Nat} {a b c d e : Value} {t : TypeId} (h : Blk w g #[a, b, c, d, e] t) (x : Value) : Blk (w.setCell ⟨g, 0, none⟩ x) g #[x, b, c, d, e] t := by
  have hlt := h.lt
  have h' : w.heap[g] = .cells #[a, b, c, d, e] t (0, 0) := by simpa [Array.getElem?_eq_getElem hlt] using (show w.heap[g]? = _ from h)
  show (w.heap.modify g _)[g]? = _
  rw [Array.getElem?_eq_getElem (by simpa using hlt), Array.getElem_modify_self, h']
  rfl
theorem blk_set1 {w : World} {g : Nat} {a b c d e : Value} {t : TypeId} (h : Blk w g #[a, b, c, d, e] t) (x : Value) : Blk (w.setCell ⟨g, 1, none⟩ x) g #[a, x, c, d, e] t := by
  have hlt := h.lt
  have h' : w.heap[g] = .cells #[a, b, c, d, e] t (0, 0) := by simpa [Array.getElem?_eq_getElem hlt] using (show w.heap[g]? = _ from h)
  show (w.heap.modify g _)[g]? = _
  rw [Array.getElem?_eq_getElem (by simpa using hlt), Array.getElem_modify_self, h']
  rfl
theorem blk_set2 {w : World} {g : Nat} {a b c d e : Value} {t : TypeId} (h : Blk w g #[a, b, c, d, e] t) (x : Value) : Blk (w.setCell ⟨g, 2, none⟩ x) g #[a, b, x, d, e] t := by
  have hlt := h.lt
  have h' : w.heap[g] = .cells #[a, b, c, d, e] t (0, 0) := by simpa [Array.getElem?_eq_getElem hlt] using (show w.heap[g]? = _ from h)
  show (w.heap.modify g _)[g]? = _
  rw [Array.getElem?_eq_getElem (by simpa using hlt), Array.getElem_modify_self, h']
  rfl
theorem blk_set3 {w : World} {g : Nat} {a b c d e : Value} {t : TypeId} (h : Blk w g #[a, b, c, d, e] t) (x : Value) : Blk (w.setCell ⟨g, 3, none⟩ x) g #[a, b, c, x, e] t := by
  have hlt := h.lt
  have h' : w.heap[g] = .cells #[a, b, c, d, e] t (0, 0) := by simpa [Array.getElem?_eq_getElem hlt] using (show w.heap[g]? = _ from h)
  show (w.heap.modify g _)[g]? = _
  rw [Array.getElem?_eq_getElem (by simpa using hlt), Array.getElem_modify_self, h']
  rfl
theorem five_below {B : Nat} {w wa : World} (h3 : Below B w wa) (a b c d e : Value) : Below B w (((((wa.setCell ⟨B, 0, none⟩ a).setCell ⟨B, 1, none⟩ b).setCell ⟨B, 2, none⟩ c).setCell ⟨B, 3, none⟩ d).setCell ⟨B, 4, none⟩ e) :=
  ((((h3.setCell (show B ≤ B from Nat.le_refl _) _).setCell (show B ≤ B from Nat.le_refl _) _).setCell (show B ≤ B from Nat.le_refl _) _).setCell (show B ≤ B from Nat.le_refl _) _).setCell (show B ≤ B from Nat.le_refl _) _
theorem Blk.other {w : World} {g k i : Nat} {cs : Array Value} {t : TypeId} (h : Blk w g cs t) (hk : g ≠ k) (x : Value) : Blk (w.setCell ⟨k, i, none⟩ x) g cs t := by
  show (w.setCell ⟨k, i, none⟩ x).heap[g]? = _
  rw [Below.heap_setCell _ _ _ _ hk]; exact h
end Go.Proofs.Ytkkibcjndgfmfaa
