/- Rows of frames as flat cells: what append and ownsRow speak of. -/
import Derived.Test.YthgbfidghhlldabJ2
import Derived.Test.YthgbfidghhlldabTwo
namespace Go.Proofs.Ythgbfidghhlldab
open Go.RowKit Go.Lib

/-- a row's cells -/
def cellsF (fs : List FX) : List Value := fs.flatMap (fun f => f.v.toList)
theorem cellsF_length (fs : List FX) : (cellsF fs).length = fs.length * 5 := by
  induction fs with
  | nil => rfl
  | cons f fs ih =>
    have : cellsF (f :: fs) = f.v.toList ++ cellsF fs := rfl
    rw [this, List.length_append, ih]
    show 5 + fs.length * 5 = (fs.length + 1) * 5
    omega
theorem cellsF_append (a b : List FX) : cellsF (a ++ b) = cellsF a ++ cellsF b := by unfold cellsF; rw [List.flatMap_append]
theorem cellsF_cons (f : FX) (fs : List FX) : cellsF (f :: fs) = f.v.toList ++ cellsF fs := rfl
theorem cellsF_get : ∀ (fs : List FX) (i : Nat) (h : i < fs.length) (t : Nat), t < 5 → (cellsF fs)[i * 5 + t]? = fs[i].v[t]? := by
  intro fs
  induction fs with
  | nil => intro i h; exact absurd h (Nat.not_lt_zero _)
  | cons f fs ih =>
    intro i h t ht
    rw [cellsF_cons]
    cases i with
    | zero =>
      rw [List.getElem?_append_left (by show 0 * 5 + t < 5; omega)]
      rw [show 0 * 5 + t = t from by omega, Array.getElem?_toList]; rfl
    | succ i =>
      rw [List.getElem?_append_right (by show 5 ≤ _; omega), show (i + 1) * 5 + t - f.v.toList.length = i * 5 + t from by show (i + 1) * 5 + t - 5 = _; omega]
      exact ih i (by simpa using h) t ht
theorem cellsF_oneCell (fs : List FX) : ∀ u ∈ cellsF fs, u.oneCell' = true := by
  intro u hu
  obtain ⟨f, _, hf⟩ := List.mem_flatMap.1 hu
  simp only [List.mem_cons, List.not_mem_nil, or_false] at hf
  rcases hf with rfl | rfl | rfl | rfl | rfl <;> rfl
theorem addr_add (g o j : Nat) : Addr.add ⟨g, o, none⟩ j = ⟨g, o + j, none⟩ := by
  unfold Addr.add
  split
  · rename_i h; rw [h]; rfl
  · rfl
/-- a row's cells lie one behind another -/
theorem RowF.cells {w : World} {g o : Nat} {fs : List FX} (h : RowF w g o fs) : ∀ j u, (cellsF fs)[j]? = some u → w.cell? (Addr.add ⟨g, o, none⟩ j) = some u := by
  intro j u hu
  have hj := (List.getElem?_eq_some_iff.1 hu).1
  rw [cellsF_length] at hj
  have hi : j / 5 < fs.length := by omega
  have hr : j % 5 < 5 := Nat.mod_lt _ (by omega)
  have hs : j = j / 5 * 5 + j % 5 := by omega
  obtain ⟨h0, h1, h2, h3, h4⟩ := h (j / 5) hi
  rw [hs, cellsF_get fs (j / 5) hi (j % 5) hr] at hu
  rw [addr_add]
  have hm : j % 5 = 0 ∨ j % 5 = 1 ∨ j % 5 = 2 ∨ j % 5 = 3 ∨ j % 5 = 4 := by omega
  rcases hm with e | e | e | e | e <;> rw [e] at hu <;> simp only [FX.v, frV] at hu <;> (have := Option.some.inj hu; subst this)
  · rw [show o + j = o + j / 5 * 5 by omega]; exact h0
  · rw [show o + j = o + j / 5 * 5 + 1 by omega]; exact h1
  · rw [show o + j = o + j / 5 * 5 + 2 by omega]; exact h2
  · rw [show o + j = o + j / 5 * 5 + 3 by omega]; exact h3
  · rw [show o + j = o + j / 5 * 5 + 4 by omega]; exact h4
/-- an owned row is a row of frames -/
theorem own_row {w : World} {base n g cap : Nat} {fs : List FX} (h : w.ownsRow base 25 5 (.slice (some ⟨g, 0, none⟩) n cap) n (cellsF fs)) : RowF w g 0 fs := by
  obtain ⟨hl, h⟩ := h
  rcases h with ⟨h, _⟩ | ⟨g', cap', cur, hv, hb, hg, hn, hm, hs, ht⟩
  · cases h
  · cases hv
    have key : ∀ j u, (cellsF fs)[j]? = some u → w.cell? ⟨g, 0 + j, none⟩ = some u := by
      intro j u hu
      rw [← ht] at hu
      have hj : j < n * 5 := by
        have := (List.getElem?_eq_some_iff.1 hu).1
        rw [List.length_take] at this; omega
      rw [List.getElem?_take, if_pos hj, Array.getElem?_toList] at hu
      simp [World.cell?, hg, hu]
    intro i hi
    refine ⟨?_, ?_, ?_, ?_, ?_⟩
    · exact key (i * 5) _ (cellsF_get fs i hi 0 (by omega))
    · exact key (i * 5 + 1) _ (cellsF_get fs i hi 1 (by omega))
    · exact key (i * 5 + 2) _ (cellsF_get fs i hi 2 (by omega))
    · exact key (i * 5 + 3) _ (cellsF_get fs i hi 3 (by omega))
    · exact key (i * 5 + 4) _ (cellsF_get fs i hi 4 (by omega))
theorem cellsF_set : ∀ (fs : List FX) (i : Nat) (h : i < fs.length) (t : ByteArray), (cellsF fs).set (i * 5 + 4) (.string t) = cellsF (fs.set i ⟨fs[i].id, fs[i].ext, fs[i].rem, fs[i].dlc, t⟩) := by
  intro fs
  induction fs with
  | nil => intro i h; exact absurd h (Nat.not_lt_zero _)
  | cons f fs ih =>
    intro i h t
    rw [cellsF_cons]
    cases i with
    | zero => rfl
    | succ i =>
      rw [List.set_append_right _ _ (by show 5 ≤ _; omega), show (i + 1) * 5 + 4 - f.v.toList.length = i * 5 + 4 from by show (i + 1) * 5 + 4 - 5 = _; omega, ih i (by simpa using h) t]
      rfl
end Go.Proofs.Ythgbfidghhlldab
