/- slices.SortStableFunc over few contenders; package prio's Order. -/
import Derived.Test.YthgbfidghhlldabPOrd2
namespace Go.Proofs.Ythgbfidghhlldab
open Go.RowKit Go.Lib
attribute [local go_sem ↓] Go.wp_at_zero Go.wp_at_succ

set_option maxRecDepth 100000 in
set_option maxHeartbeats 1000000 in
theorem stable_any (base g cap n : Nat) (fs : List FX) (w : World) (hn : fs.length = n) (hn3 : n < 20) (ho : w.ownsRow base 54 6 (.slice (some ⟨g, 0, none⟩) n cap) n (cellsC fs)) (hbase : base ≤ w.heap.size) :
    Calls Try.prog 36 #[.slice (some ⟨g, 0, none⟩) n cap, .int .i64 n, .func (.func 25) #[] #[]] w fun e w' => e = .returned (.tuple #[]) ∧ w'.ownsRow base 54 6 (.slice (some ⟨g, 0, none⟩) n cap) n (cellsC (B.isort keyF fs)) ∧ Below base w w' := by
  have CI := Lib.hid (insort_any base g cap n fs w hn (by omega) ho hbase)
  have h20 : ¬ (20 : Int) ≤ n := by omega
  have h20' : ¬ (20 : Int) < n := by omega
  clear ho hn
  go_enter Try.func36, Try.ntmps36
  go_wp2
  refine wp_loop_rounds 1 ?_
  rw [rounds_succ]
  go_wp2_with (go_at_call 46; (with_reducible refine CI.out.mono ?_); rintro e w1 ⟨rfl, ho1, hb1⟩)
  refine wp_loop_rounds 1 ?_
  rw [rounds_succ]
  go_wp2
  go_end0
  exact ⟨rfl, ho1, hb1⟩

set_option maxRecDepth 100000 in
set_option maxHeartbeats 1000000 in
theorem sortstable_any (base g cap n : Nat) (fs : List FX) (w : World) (hn : fs.length = n) (hn3 : n < 20) (ho : w.ownsRow base 54 6 (.slice (some ⟨g, 0, none⟩) n cap) n (cellsC fs)) (hbase : base ≤ w.heap.size) :
    Calls Try.prog 24 #[.slice (some ⟨g, 0, none⟩) n cap, .func (.func 25) #[] #[]] w fun e w' => e = .returned (.tuple #[]) ∧ w'.ownsRow base 54 6 (.slice (some ⟨g, 0, none⟩) n cap) n (cellsC (B.isort keyF fs)) ∧ Below base w w' := by
  have CI := Lib.hid (stable_any base g cap n fs w hn hn3 ho hbase)
  clear ho hn
  go_enter Try.func24, Try.ntmps24
  go_wp2_with (go_at_call 36; (with_reducible refine CI.out.mono ?_); rintro e w1 ⟨rfl, ho1, hb1⟩)
  go_end0
  exact ⟨rfl, ho1, hb1⟩

theorem set6 (A rest : List Value) (m : Nat) (hm : A.length = m) (t0 t1 t2 t3 t4 t5 v0 v1 v2 v3 v4 v5 : Value) :
    ((((((A ++ t0 :: t1 :: t2 :: t3 :: t4 :: t5 :: rest).set m v0).set (m + 1) v1).set (m + 2) v2).set (m + 3) v3).set (m + 4) v4).set (m + 5) v5 = A ++ v0 :: v1 :: v2 :: v3 :: v4 :: v5 :: rest := by
  subst hm
  have e : ∀ (l : List Value) (t : Nat) (v : Value), (A ++ l).set (A.length + t) v = A ++ l.set t v := fun l t v => by
    rw [List.set_append_right _ _ (by omega), Nat.add_sub_cancel_left]
  have e0 := fun l v => e l 0 v
  simp only [Nat.add_zero] at e0
  rw [e0, e, e, e, e, e]
  rfl
theorem set5 (A rest : List Value) (m : Nat) (hm : A.length = m) (t0 t1 t2 t3 t4 v0 v1 v2 v3 v4 : Value) :
    (((((A ++ t0 :: t1 :: t2 :: t3 :: t4 :: rest).set m v0).set (m + 1) v1).set (m + 2) v2).set (m + 3) v3).set (m + 4) v4 = A ++ v0 :: v1 :: v2 :: v3 :: v4 :: rest := by
  subst hm
  have e : ∀ (l : List Value) (t : Nat) (v : Value), (A ++ l).set (A.length + t) v = A ++ l.set t v := fun l t v => by
    rw [List.set_append_right _ _ (by omega), Nat.add_sub_cancel_left]
  have e0 := fun l v => e l 0 v
  simp only [Nat.add_zero] at e0
  rw [e0, e, e, e, e]
  rfl
theorem list_6 {l : List Value} {m : Nat} (h : l.length = (m + 1) * 6) : ∃ t0 t1 t2 t3 t4 t5 rest, l = t0 :: t1 :: t2 :: t3 :: t4 :: t5 :: rest ∧ rest.length = m * 6 := by
  match l, h with
  | t0 :: t1 :: t2 :: t3 :: t4 :: t5 :: rest, h => exact ⟨t0, t1, t2, t3, t4, t5, rest, rfl, by simp at h; omega⟩
  | [], h => simp at h
  | [_], h => simp at h; omega
  | [_, _], h => simp at h; omega
  | [_, _, _], h => simp at h; omega
  | [_, _, _, _], h => simp at h; omega
  | [_, _, _, _, _], h => simp at h; omega
theorem list_5 {l : List Value} {m : Nat} (h : l.length = (m + 1) * 5) : ∃ t0 t1 t2 t3 t4 rest, l = t0 :: t1 :: t2 :: t3 :: t4 :: rest ∧ rest.length = m * 5 := by
  match l, h with
  | t0 :: t1 :: t2 :: t3 :: t4 :: rest, h => exact ⟨t0, t1, t2, t3, t4, rest, rfl, by simp at h; omega⟩
  | [], h => simp at h
  | [_], h => simp at h; omega
  | [_, _], h => simp at h; omega
  | [_, _, _], h => simp at h; omega
  | [_, _, _, _], h => simp at h; omega
theorem cellsC_append (a b : List FX) : cellsC (a ++ b) = cellsC a ++ cellsC b := by unfold cellsC; rw [List.flatMap_append]
/-- a row of contenders, k of which are laid -/
def RowCk (w : World) (base g n cap : Nat) (fs : List FX) (k : Nat) : Prop := ∃ tail : List Value, tail.length = (n - k) * 6 ∧ w.ownsRow base 54 6 (.slice (some ⟨g, 0, none⟩) n cap) n (cellsC (fs.take k) ++ tail)
theorem RowCk.next {w : World} {base g n cap : Nat} {fs : List FX} {k : Nat} (h : RowCk w base g n cap fs k) (hn : fs.length = n) (hk : k < n) :
    (∃ v, w.cell? ⟨g, k * 6, none⟩ = some v) ∧ (∃ v, w.cell? ⟨g, k * 6 + 1, none⟩ = some v) ∧ (∃ v, w.cell? ⟨g, k * 6 + 2, none⟩ = some v) ∧ (∃ v, w.cell? ⟨g, k * 6 + 3, none⟩ = some v) ∧ (∃ v, w.cell? ⟨g, k * 6 + 4, none⟩ = some v) ∧ (∃ v, w.cell? ⟨g, k * 6 + 5, none⟩ = some v) ∧ (∀ t, w.frozen? ⟨g, t, none⟩ = false) ∧
    RowCk (World.setC w g (k * 6) (fs[k]'(by omega))) base g n cap fs (k + 1) := by
  obtain ⟨tail, hl, ho⟩ := h
  have hA : (cellsC (fs.take k)).length = k * 6 := by rw [cellsC_length, List.length_take]; congr 1; omega
  obtain ⟨t0, t1, t2, t3, t4, t5, rest, rfl, hr⟩ := list_6 (m := n - (k + 1)) (l := tail) (by rw [hl]; congr 1; omega)
  have hc := fun t (ht : t < 6) => ho.cellAt (k * 6 + t) (by omega)
  have hg : ∀ t, (cellsC (fs.take k) ++ t0 :: t1 :: t2 :: t3 :: t4 :: t5 :: rest)[k * 6 + t]? = (t0 :: t1 :: t2 :: t3 :: t4 :: t5 :: rest)[t]? := fun t => by
    rw [List.getElem?_append_right (by omega), hA, Nat.add_sub_cancel_left]
  refine ⟨⟨t0, (hc 0 (by omega)).trans (hg 0)⟩, ⟨t1, (hc 1 (by omega)).trans (hg 1)⟩, ⟨t2, (hc 2 (by omega)).trans (hg 2)⟩, ⟨t3, (hc 3 (by omega)).trans (hg 3)⟩, ⟨t4, (hc 4 (by omega)).trans (hg 4)⟩, ⟨t5, (hc 5 (by omega)).trans (hg 5)⟩, fun t => ho.frozenAt t, rest, hr, ?_⟩
  have := (((((((ho.stored (k * 6) (.int .u32 (fs[k]'(by omega)).id)).1.stored (k * 6 + 1) (.bool (fs[k]'(by omega)).ext)).1.stored (k * 6 + 2) (.bool (fs[k]'(by omega)).rem)).1.stored (k * 6 + 3) (.int .i64 (fs[k]'(by omega)).dlc)).1.stored (k * 6 + 4) (.string (fs[k]'(by omega)).data)).1.stored (k * 6 + 5) (.string (fs[k]'(by omega)).field)).1)
  rw [set6 _ _ _ hA] at this
  rw [List.take_succ_eq_append_getElem (by omega), cellsC_append, List.append_assoc]
  exact this
theorem RowCk.full {w : World} {base g n cap : Nat} {fs : List FX} (h : RowCk w base g n cap fs n) (hn : fs.length = n) : w.ownsRow base 54 6 (.slice (some ⟨g, 0, none⟩) n cap) n (cellsC fs) := by
  obtain ⟨tail, hl, ho⟩ := h
  have : tail = [] := List.eq_nil_of_length_eq_zero (by rw [hl]; simp)
  rw [this, List.append_nil, List.take_of_length_le (by omega)] at ho
  exact ho
theorem RowCk.keep {w w' : World} {base g n cap : Nat} {fs : List FX} {k : Nat} (h : RowCk w base g n cap fs k) (hb : Below w.heap.size w w') : RowCk w' base g n cap fs k := by
  obtain ⟨tail, hl, ho⟩ := h
  exact ⟨tail, hl, own_keep5 ho hb⟩
/-- a row of frames, k of which are laid -/
def RowFk (w : World) (base g n cap : Nat) (fs : List FX) (k : Nat) : Prop := ∃ tail : List Value, tail.length = (n - k) * 5 ∧ w.ownsRow base 25 5 (.slice (some ⟨g, 0, none⟩) n cap) n (cellsF (fs.take k) ++ tail)
def World.setF (w : World) (g o : Nat) (f : FX) : World := ((((w.setCell ⟨g, o, none⟩ (.int .u32 f.id)).setCell ⟨g, o + 1, none⟩ (.bool f.ext)).setCell ⟨g, o + 2, none⟩ (.bool f.rem)).setCell ⟨g, o + 3, none⟩ (.int .i64 f.dlc)).setCell ⟨g, o + 4, none⟩ (.string f.data)
theorem below_setF {B0 : Nat} {a w : World} (h : Below B0 a w) {g : Nat} (hg : B0 ≤ g) (o : Nat) (f : FX) : Below B0 a (World.setF w g o f) :=
  ((((h.setCell (p := ⟨g, o, none⟩) hg _).setCell (p := ⟨g, o + 1, none⟩) hg _).setCell (p := ⟨g, o + 2, none⟩) hg _).setCell (p := ⟨g, o + 3, none⟩) hg _).setCell (p := ⟨g, o + 4, none⟩) hg _
theorem RowFk.next {w : World} {base g n cap : Nat} {fs : List FX} {k : Nat} (h : RowFk w base g n cap fs k) (hn : fs.length = n) (hk : k < n) :
    (∃ v, w.cell? ⟨g, k * 5, none⟩ = some v) ∧ (∃ v, w.cell? ⟨g, k * 5 + 1, none⟩ = some v) ∧ (∃ v, w.cell? ⟨g, k * 5 + 2, none⟩ = some v) ∧ (∃ v, w.cell? ⟨g, k * 5 + 3, none⟩ = some v) ∧ (∃ v, w.cell? ⟨g, k * 5 + 4, none⟩ = some v) ∧ (∀ t, w.frozen? ⟨g, t, none⟩ = false) ∧
    RowFk (World.setF w g (k * 5) (fs[k]'(by omega))) base g n cap fs (k + 1) := by
  obtain ⟨tail, hl, ho⟩ := h
  have hA : (cellsF (fs.take k)).length = k * 5 := by rw [cellsF_length, List.length_take]; congr 1; omega
  obtain ⟨t0, t1, t2, t3, t4, rest, rfl, hr⟩ := list_5 (m := n - (k + 1)) (l := tail) (by rw [hl]; congr 1; omega)
  have hc := fun t (ht : t < 5) => ho.cellAt (k * 5 + t) (by omega)
  have hg : ∀ t, (cellsF (fs.take k) ++ t0 :: t1 :: t2 :: t3 :: t4 :: rest)[k * 5 + t]? = (t0 :: t1 :: t2 :: t3 :: t4 :: rest)[t]? := fun t => by
    rw [List.getElem?_append_right (by omega), hA, Nat.add_sub_cancel_left]
  refine ⟨⟨t0, (hc 0 (by omega)).trans (hg 0)⟩, ⟨t1, (hc 1 (by omega)).trans (hg 1)⟩, ⟨t2, (hc 2 (by omega)).trans (hg 2)⟩, ⟨t3, (hc 3 (by omega)).trans (hg 3)⟩, ⟨t4, (hc 4 (by omega)).trans (hg 4)⟩, fun t => ho.frozenAt t, rest, hr, ?_⟩
  have := ((((((ho.stored (k * 5) (.int .u32 (fs[k]'(by omega)).id)).1.stored (k * 5 + 1) (.bool (fs[k]'(by omega)).ext)).1.stored (k * 5 + 2) (.bool (fs[k]'(by omega)).rem)).1.stored (k * 5 + 3) (.int .i64 (fs[k]'(by omega)).dlc)).1.stored (k * 5 + 4) (.string (fs[k]'(by omega)).data)).1)
  rw [set5 _ _ _ hA] at this
  rw [List.take_succ_eq_append_getElem (by omega), cellsF_append, List.append_assoc]
  exact this
theorem RowFk.full {w : World} {base g n cap : Nat} {fs : List FX} (h : RowFk w base g n cap fs n) (hn : fs.length = n) : w.ownsRow base 25 5 (.slice (some ⟨g, 0, none⟩) n cap) n (cellsF fs) := by
  obtain ⟨tail, hl, ho⟩ := h
  have : tail = [] := List.eq_nil_of_length_eq_zero (by rw [hl]; simp)
  rw [this, List.append_nil, List.take_of_length_le (by omega)] at ho
  exact ho
end Go.Proofs.Ythgbfidghhlldab
