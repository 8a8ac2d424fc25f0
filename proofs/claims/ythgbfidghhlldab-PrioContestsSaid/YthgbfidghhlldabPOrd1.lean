/- Package prio's Order: what its function compares; rows of contenders. -/
import Derived.Test.YthgbfidghhlldabPLess
import Derived.Test.YthgbfidghhlldabPlain
namespace Go.Proofs.Ythgbfidghhlldab
open Go.RowKit Go.Lib
attribute [local go_sem ↓] Go.wp_at_zero Go.wp_at_succ

/-- a frame with its field, as a value -/
abbrev FX.c (f : FX) : Array Value := #[.int .u32 f.id, .bool f.ext, .bool f.rem, .int .i64 f.dlc, .string f.data, .string f.field]

set_option maxRecDepth 100000 in
set_option maxHeartbeats 1000000 in
theorem ordlit_any (f g : FX) (w : World) :
    Calls Try.prog 25 #[.agg f.c, .agg g.c] w fun e w' => e = .returned (.int .i64 (f.cmp g)) ∧ Below w.heap.size w w' := by
  have CC := Lib.hid (fun w => compare_fields f g w)
  have hB := ((Below.refl w.heap.size w).alloc (Nat.le_refl _) (.cells f.c 54)).alloc (by simp) (.cells g.c 54)
  go_enter Try.func25, Try.ntmps25
  go_wp2_with (go_at_call 20; (with_reducible refine (CC.out _).mono ?_); rintro e w1 ⟨rfl, hb⟩)
  go_ret
  exact ⟨rfl, hB.trans (hb.mono hB.size)⟩

/-- a row of contenders, as cells -/
def cellsC (fs : List FX) : List Value := fs.flatMap (fun f => f.c.toList)
theorem cellsC_cons (f : FX) (fs : List FX) : cellsC (f :: fs) = f.c.toList ++ cellsC fs := rfl
theorem cellsC_length (fs : List FX) : (cellsC fs).length = fs.length * 6 := by
  induction fs with
  | nil => rfl
  | cons f fs ih =>
    rw [cellsC_cons, List.length_append, ih]
    show 6 + fs.length * 6 = (fs.length + 1) * 6
    omega
theorem cellsC_get : ∀ (fs : List FX) (i : Nat) (h : i < fs.length) (t : Nat), t < 6 → (cellsC fs)[i * 6 + t]? = fs[i].c[t]? := by
  intro fs
  induction fs with
  | nil => intro i h; exact absurd h (Nat.not_lt_zero _)
  | cons f fs ih =>
    intro i h t ht
    rw [cellsC_cons]
    cases i with
    | zero =>
      rw [List.getElem?_append_left (by show 0 * 6 + t < 6; omega)]
      rw [show 0 * 6 + t = t from by omega, Array.getElem?_toList]; rfl
    | succ i =>
      rw [List.getElem?_append_right (by show 6 ≤ _; omega), show (i + 1) * 6 + t - f.c.toList.length = i * 6 + t from by show (i + 1) * 6 + t - 6 = _; omega]
      exact ih i (by simpa using h) t ht
/-- six stores: an element put -/
theorem cellsC_set : ∀ (fs : List FX) (i : Nat) (_h : i < fs.length) (f : FX), ((((((cellsC fs).set (i * 6) (.int .u32 f.id)).set (i * 6 + 1) (.bool f.ext)).set (i * 6 + 2) (.bool f.rem)).set (i * 6 + 3) (.int .i64 f.dlc)).set (i * 6 + 4) (.string f.data)).set (i * 6 + 5) (.string f.field) = cellsC (fs.set i f) := by
  intro fs
  induction fs with
  | nil => intro i h; exact absurd h (Nat.not_lt_zero _)
  | cons g fs ih =>
    intro i h f
    rw [cellsC_cons]
    cases i with
    | zero => rfl
    | succ i =>
      have e : ∀ (l : List Value) (t : Nat) (v : Value), (g.c.toList ++ l).set ((i + 1) * 6 + t) v = g.c.toList ++ l.set (i * 6 + t) v := fun l t v => by
        rw [List.set_append_right _ _ (by show 6 ≤ _; omega), show (i + 1) * 6 + t - g.c.toList.length = i * 6 + t from by show (i + 1) * 6 + t - 6 = _; omega]
      have e0 := fun l v => e l 0 v
      simp only [Nat.add_zero] at e0
      rw [e0, e, e, e, e, e, ih i (by simpa using h) f]
      rfl
abbrev KC6 (g o : Nat) (f : FX) (w : World) : Prop := w.cell? ⟨g, o, none⟩ = some (.int .u32 f.id) ∧ w.cell? ⟨g, o + 1, none⟩ = some (.bool f.ext) ∧ w.cell? ⟨g, o + 2, none⟩ = some (.bool f.rem) ∧ w.cell? ⟨g, o + 3, none⟩ = some (.int .i64 f.dlc) ∧ w.cell? ⟨g, o + 4, none⟩ = some (.string f.data) ∧ w.cell? ⟨g, o + 5, none⟩ = some (.string f.field)
theorem own_c {w : World} {base n g cap : Nat} {fs : List FX} (h : w.ownsRow base 54 6 (.slice (some ⟨g, 0, none⟩) n cap) n (cellsC fs)) (i : Nat) (hi : i < fs.length) (f : FX) (hf : fs[i]? = some f) : KC6 g (i * 6) f w := by
  have hn : n * 6 = fs.length * 6 := by rw [← h.1, cellsC_length]
  have e : fs[i] = f := by rw [List.getElem?_eq_getElem hi] at hf; exact Option.some.inj hf
  have k := fun t (ht : t < 6) => (h.cellAt (i * 6 + t) (by omega)).trans (cellsC_get fs i hi t ht)
  rw [e] at k
  exact ⟨k 0 (by omega), k 1 (by omega), k 2 (by omega), k 3 (by omega), k 4 (by omega), k 5 (by omega)⟩
/-- an element stored -/
def World.setC (w : World) (g o : Nat) (f : FX) : World := (((((w.setCell ⟨g, o, none⟩ (.int .u32 f.id)).setCell ⟨g, o + 1, none⟩ (.bool f.ext)).setCell ⟨g, o + 2, none⟩ (.bool f.rem)).setCell ⟨g, o + 3, none⟩ (.int .i64 f.dlc)).setCell ⟨g, o + 4, none⟩ (.string f.data)).setCell ⟨g, o + 5, none⟩ (.string f.field)
theorem own_setC {w : World} {base n g cap : Nat} {fs : List FX} (h : w.ownsRow base 54 6 (.slice (some ⟨g, 0, none⟩) n cap) n (cellsC fs)) (i : Nat) (hi : i < fs.length) (f : FX) :
    (World.setC w g (i * 6) f).ownsRow base 54 6 (.slice (some ⟨g, 0, none⟩) n cap) n (cellsC (fs.set i f)) := by
  rw [← cellsC_set fs i hi f]
  exact ((((((h.stored _ _).1.stored _ _).1.stored _ _).1.stored _ _).1.stored _ _).1.stored _ _).1
theorem below_setC {B0 : Nat} {a w : World} (h : Below B0 a w) {g : Nat} (hg : B0 ≤ g) (o : Nat) (f : FX) : Below B0 a (World.setC w g o f) :=
  (((((h.setCell (p := ⟨g, o, none⟩) hg _).setCell (p := ⟨g, o + 1, none⟩) hg _).setCell (p := ⟨g, o + 2, none⟩) hg _).setCell (p := ⟨g, o + 3, none⟩) hg _).setCell (p := ⟨g, o + 4, none⟩) hg _).setCell (p := ⟨g, o + 5, none⟩) hg _
def keyF (f : FX) : List UInt8 := B.fieldL f.fr
theorem keysF : B.Keys keyF := ⟨fun _ => B.fieldL_all _, fun _ _ h => B.field_none h⟩
theorem lt_less (f g : FX) : B.lt keyF f g = f.less g := rfl
end Go.Proofs.Ythgbfidghhlldab
