/- Own texts joined: PrioG PrioH PrioE. -/
import Derived.Test.YtcaeobkaoebndaaGreatJ10
import Derived.Test.YtcaeobkaoebndaaGreatJ2
import Derived.Test.YtcaeobkaoebndaaGreatJ4
import Derived.Deep.RegionHeld3
import Derived.Deep.DrawnRows
import Derived.BigRegion
import Derived.Deep.CutRange
import Derived.BigQuiet
import Derived.Laws.StructEq
/- PrioG -/
namespace Go.Proofs.YtcaeobkaoebndaaGreat
open Go.RowKit Go.Lib

/-- a row's cells -/
def cellsF (fs : List FX) : List Value := fs.flatMap (fun f => f.v.toList)
theorem cellsF_length (fs : List FX) : (cellsF fs).length = fs.length * 5 := by
  induction fs with
  | nil => rfl
  | cons f fs ih =>
    have : cellsF (f :: fs) = f.v.toList ++ cellsF fs := rfl
    rw [this, List.length_append, ih]
    show 5 + fs.length * 5 = (fs.length + 1) * 5
    omega
theorem cellsF_append (a b : List FX) : cellsF (a ++ b) = cellsF a ++ cellsF b := by unfold cellsF; rw [List.flatMap_append]
theorem cellsF_cons (f : FX) (fs : List FX) : cellsF (f :: fs) = f.v.toList ++ cellsF fs := rfl
theorem cellsF_get : ∀ (fs : List FX) (i : Nat) (h : i < fs.length) (t : Nat), t < 5 → (cellsF fs)[i * 5 + t]? = fs[i].v[t]? := by
  intro fs
  induction fs with
  | nil => intro i h; exact absurd h (Nat.not_lt_zero _)
  | cons f fs ih =>
    intro i h t ht
    rw [cellsF_cons]
    cases i with
    | zero =>
      rw [List.getElem?_append_left (by show 0 * 5 + t < 5; omega)]
      rw [show 0 * 5 + t = t from by omega, Array.getElem?_toList]; rfl
    | succ i =>
      rw [List.getElem?_append_right (by show 5 ≤ _; omega), show (i + 1) * 5 + t - f.v.toList.length = i * 5 + t from by show (i + 1) * 5 + t - 5 = _; omega]
      exact ih i (by simpa using h) t ht
theorem cellsF_oneCell (fs : List FX) : ∀ u ∈ cellsF fs, u.oneCell' = true := by
  intro u hu
  obtain ⟨f, _, hf⟩ := List.mem_flatMap.1 hu
  simp only [List.mem_cons, List.not_mem_nil, or_false] at hf
  rcases hf with rfl | rfl | rfl | rfl | rfl <;> rfl
theorem addr_add (g o j : Nat) : Addr.add ⟨g, o, none⟩ j = ⟨g, o + j, none⟩ := by
  unfold Addr.add
  split
  · rename_i h; rw [h]; rfl
  · rfl
/-- a row's cells lie one behind another -/
theorem RowF.cells {w : World} {g o : Nat} {fs : List FX} (h : RowF w g o fs) : ∀ j u, (cellsF fs)[j]? = some u → w.cell? (Addr.add ⟨g, o, none⟩ j) = some u := by
  intro j u hu
  have hj := (List.getElem?_eq_some_iff.1 hu).1
  rw [cellsF_length] at hj
  have hi : j / 5 < fs.length := by omega
  have hr : j % 5 < 5 := Nat.mod_lt _ (by omega)
  have hs : j = j / 5 * 5 + j % 5 := by omega
  obtain ⟨h0, h1, h2, h3, h4⟩ := h (j / 5) hi
  rw [hs, cellsF_get fs (j / 5) hi (j % 5) hr] at hu
  rw [addr_add]
  have hm : j % 5 = 0 ∨ j % 5 = 1 ∨ j % 5 = 2 ∨ j % 5 = 3 ∨ j % 5 = 4 := by omega
  rcases hm with e | e | e | e | e <;> rw [e] at hu <;> simp only [FX.v, frV] at hu <;> (have := Option.some.inj hu; subst this)
  · rw [show o + j = o + j / 5 * 5 by omega]; exact h0
  · rw [show o + j = o + j / 5 * 5 + 1 by omega]; exact h1
  · rw [show o + j = o + j / 5 * 5 + 2 by omega]; exact h2
  · rw [show o + j = o + j / 5 * 5 + 3 by omega]; exact h3
  · rw [show o + j = o + j / 5 * 5 + 4 by omega]; exact h4
/-- an owned row is a row of frames -/
theorem own_row {w : World} {base n g cap : Nat} {fs : List FX} (h : w.ownsRow base 24 5 (.slice (some ⟨g, 0, none⟩) n cap) n (cellsF fs)) : RowF w g 0 fs := by
  obtain ⟨hl, h⟩ := h
  rcases h with ⟨h, _⟩ | ⟨g', cap', cur, hv, hb, hg, hn, hm, hs, ht⟩
  · cases h
  · cases hv
    have key : ∀ j u, (cellsF fs)[j]? = some u → w.cell? ⟨g, 0 + j, none⟩ = some u := by
      intro j u hu
      rw [← ht] at hu
      have hj : j < n * 5 := by
        have := (List.getElem?_eq_some_iff.1 hu).1
        rw [List.length_take] at this; omega
      rw [List.getElem?_take, if_pos hj, Array.getElem?_toList] at hu
      simp [World.cell?, hg, hu]
    intro i hi
    refine ⟨?_, ?_, ?_, ?_, ?_⟩
    · exact key (i * 5) _ (cellsF_get fs i hi 0 (by omega))
    · exact key (i * 5 + 1) _ (cellsF_get fs i hi 1 (by omega))
    · exact key (i * 5 + 2) _ (cellsF_get fs i hi 2 (by omega))
    · exact key (i * 5 + 3) _ (cellsF_get fs i hi 3 (by omega))
    · exact key (i * 5 + 4) _ (cellsF_get fs i hi 4 (by omega))
theorem cellsF_set : ∀ (fs : List FX) (i : Nat) (h : i < fs.length) (t : ByteArray), (cellsF fs).set (i * 5 + 4) (.string t) = cellsF (fs.set i ⟨fs[i].id, fs[i].ext, fs[i].rem, fs[i].dlc, t⟩) := by
  intro fs
  induction fs with
  | nil => intro i h; exact absurd h (Nat.not_lt_zero _)
  | cons f fs ih =>
    intro i h t
    rw [cellsF_cons]
    cases i with
    | zero => rfl
    | succ i =>
      rw [List.set_append_right _ _ (by show 5 ≤ _; omega), show (i + 1) * 5 + 4 - f.v.toList.length = i * 5 + 4 from by show (i + 1) * 5 + 4 - 5 = _; omega, ih i (by simpa using h) t]
      rfl
end Go.Proofs.YtcaeobkaoebndaaGreat

/- PrioH -/
namespace Go.Proofs.YtcaeobkaoebndaaGreat
open Go.RowKit Go.Lib
attribute [local go_sem ↓] Go.wp_at_zero Go.wp_at_succ

theorem Tryz.infoFr : (Tryz.prog.info? 24).map (fun i => (i.zero, i.size, i.bytes)) = some (some (.agg (frV 0 false false 0 ⟨#[]⟩)), 5, 32) := by kernel_rfl
/-- a frame whose data is cut to its first twelve bytes -/
def FX.cut (f : FX) : FX := ⟨f.id, f.ext, f.rem, f.dlc, f.data.extract 0 12⟩
theorem bytes_all (d : ByteArray) (n : Nat) (h : d.size ≤ n) : d.extract 0 n = d := by
  apply ByteArray.ext
  apply Array.toList_inj.1
  rw [Lib.extract_data, List.drop_zero, Nat.sub_zero]
  exact List.take_of_length_le (by rw [B.size_len]; exact h)
/-- a row whose first k frames are cut -/
def cutsF (gs : List FX) (k : Nat) : List FX := (gs.take k).map FX.cut ++ gs.drop k
theorem cutsF_length (gs : List FX) (k : Nat) : (cutsF gs k).length = gs.length := by unfold cutsF; simp; omega
theorem cutsF_get (gs : List FX) (k : Nat) (h : k < gs.length) : (cutsF gs k)[k]'(by rw [cutsF_length]; exact h) = gs[k] := by
  unfold cutsF
  have hl : ((gs.take k).map FX.cut).length = k := by simp; omega
  rw [List.getElem_append_right (by omega), List.getElem_drop]
  congr 1
  omega
theorem cutsF_next (gs : List FX) (k : Nat) (h : k < gs.length) : (cutsF gs k).set k gs[k].cut = cutsF gs (k + 1) := by
  unfold cutsF
  have hl : ((gs.take k).map FX.cut).length = k := by rw [List.length_map, List.length_take]; omega
  rw [List.set_append_right _ _ (by omega), hl, Nat.sub_self, List.drop_eq_getElem_cons h, List.set_cons_zero, List.take_succ_eq_append_getElem h, List.map_append, List.append_assoc]
  rfl
theorem cutsF_all (gs : List FX) (k : Nat) (h : gs.length ≤ k) : cutsF gs k = gs.map FX.cut := by unfold cutsF; rw [List.take_of_length_le h, List.drop_of_length_le h, List.append_nil]
/-- a row of frames that came in, of which the first ten count -/
def InF (w : World) (A : Option Addr) (n cap : Nat) (gs : List FX) : Prop :=
  n ≤ cap ∧ ((n = 0 ∧ gs = [] ∧ (A = none → cap = 0)) ∨ (0 < n ∧ ∃ (g o : Nat) (fs : List FX), A = some ⟨g, o, none⟩ ∧ fs.length = n ∧ gs = fs.take 10 ∧ RowF w g o gs ∧ g < w.heap.size))
theorem InF.short {w : World} {A : Option Addr} {n cap : Nat} {gs : List FX} (h : InF w A n cap gs) : gs.length ≤ 10 := by
  obtain ⟨_, ⟨_, rfl, _⟩ | ⟨_, g, o, fs, _, _, rfl, _⟩⟩ := h
  · simp
  · rw [List.length_take]; omega
end Go.Proofs.YtcaeobkaoebndaaGreat

/- PrioE -/
namespace Go.Proofs.YtcaeobkaoebndaaGreat
open Go.RowKit Go.Lib

theorem FX.ext' {a b : FX} (h0 : a.id = b.id) (h1 : a.ext = b.ext) (h2 : a.rem = b.rem) (h3 : a.dlc = b.dlc) (h4 : a.data = b.data) : a = b := by cases a; cases b; simp_all
instance : DecidableEq FX := fun a b =>
  if h : a.id = b.id ∧ a.ext = b.ext ∧ a.rem = b.rem ∧ a.dlc = b.dlc ∧ a.data = b.data then isTrue (FX.ext' h.1 h.2.1 h.2.2.1 h.2.2.2.1 h.2.2.2.2) else isFalse (fun e => h (by subst e; exact ⟨rfl, rfl, rfl, rfl, rfl⟩))
set_option maxRecDepth 100000 in
theorem run_neq_fr (x y : FX) (w : World) : (binOp .neq 24 (.agg (frV x.id x.ext x.rem x.dlc x.data)) (.agg (frV y.id y.ext y.rem y.dlc y.data))).run Tryz.prog w = .ok (.bool (!(decide (x = y)))) w := by
  go_simp
  by_cases h : x = y
  · subst h; simp
  · rw [decide_eq_false h]
    repeat' split
    · rename_i h0 h1 h2 h3 h4
      exact absurd (FX.ext' (Int.ofNat_inj.1 h0) h1 h2 h3 (ByteArray.ext (Array.toList_inj.1 (by rwa [ByteArray.toList_eq, ByteArray.toList_eq] at h4)))) h
    all_goals rfl
attribute [local go_sem ↓] run_neq_fr
end Go.Proofs.YtcaeobkaoebndaaGreat
