/- A row of frames as a law's argument: opened. -/
import Derived.Test.YtcaeobkaoebndaaJ8
import Derived.Test.YtcaeobkaoebndaaFive
import Derived.Deep.Slices
import Derived.Deep.Fields
import Derived.ChangeSame
namespace Go.Proofs.Ytcaeobkaoebndaa.five
open Go.ChangeShapes Go.WideShapes Go.RowKit Go.Deep Go.WideElems Go.Maps Go.Joins

theorem pick_list {α : Type} (P : Nat → α → Prop) : ∀ (n : Nat), (∀ i, i < n → ∃ a, P i a) → ∃ l : List α, l.length = n ∧ ∀ i (h : i < l.length), P i l[i] := by
  intro n
  induction n with
  | zero => intro _; exact ⟨[], rfl, fun i h => absurd h (Nat.not_lt_zero _)⟩
  | succ n ih =>
    intro h
    obtain ⟨l, hl, hp⟩ := ih (fun i hi => h i (by omega))
    obtain ⟨a, ha⟩ := h n (by omega)
    refine ⟨l ++ [a], by rw [List.length_append, hl]; rfl, fun i hi => ?_⟩
    rw [List.length_append] at hi
    by_cases e : i < l.length
    · rw [List.getElem_append_left e]; exact hp i e
    · have e2 : i = n := by simp at hi; omega
      subst e2
      rw [List.getElem_append_right (by omega)]
      simp [hl, ha]
theorem list5 {α : Type} {l : List α} (h : l.length = 5) : ∃ a b c d e, l = [a, b, c, d, e] := by
  match l, h with
  | [a, b, c, d, e], _ => exact ⟨a, b, c, d, e, rfl⟩
section
variable {H : Type} {enc : TypeId × Value → H} {P : Program} {w : World} {base : Nat} {spare : Nat → Bool} {held : Bool}
theorem open_row5 {t e : TypeId} {f0 f1 f2 f3 f4 : Field} {fuel : Nat} {cs : List Value} {x : DataW H × List MemPlace} (ht : P.underlying t = some (.slice e)) (hs : P.underlying e = some (.struct #[f0, f1, f2, f3, f4])) (hone : oneCellFields P #[f0, f1, f2, f3, f4] = true) (hC : P.cellsOf e = 5)
    (h : DataW.trod enc P w base spare held fuel t cs = some x) :
    cs = [.slice none 0 0] ∨ ∃ (a : Addr) (len cap : Nat), cs = [.slice (some a) len cap] ∧ len ≤ cap ∧ ∀ i, i < len → ∃ (v0 v1 v2 v3 v4 : Value) (y0 y1 y2 y3 y4 : DataW H × List MemPlace) (n : Nat),
      (w.cell? (a.add (i * 5)) = some v0 ∧ w.cell? (a.add (i * 5 + 1)) = some v1 ∧ w.cell? (a.add (i * 5 + 2)) = some v2 ∧ w.cell? (a.add (i * 5 + 3)) = some v3 ∧ w.cell? (a.add (i * 5 + 4)) = some v4) ∧
      DataW.trod enc P w base spare held n f0.type [v0] = some y0 ∧ DataW.trod enc P w base spare held n f1.type [v1] = some y1 ∧ DataW.trod enc P w base spare held n f2.type [v2] = some y2 ∧ DataW.trod enc P w base spare held n f3.type [v3] = some y3 ∧ DataW.trod enc P w base spare held n f4.type [v4] = some y4 := by
  rcases open_slice ht h with ⟨rfl, _⟩ | ⟨a, len, cap, m, n, D, Pl, rfl, _, hlc, _, hm, _, hi⟩
  · exact .inl rfl
  · refine .inr ⟨a, len, cap, rfl, hlc, fun i hil => ?_⟩
    have hlm : len ≤ m := by rw [hm]; split <;> omega
    rw [hC] at hi
    obtain ⟨cs', hc, ht'⟩ := hi i (by omega)
    obtain ⟨_, hlen, hat⟩ := World.cells?_some hc
    obtain ⟨c0, c1, c2, c3, c4, rfl⟩ := list5 hlen
    obtain ⟨y0, y1, y2, y3, y4, k, _, h0, h1, h2, h3, h4⟩ := trod_struct5 hs ht'
    obtain ⟨o0, k0⟩ := hone_of hone 0 f0 rfl
    obtain ⟨o1, k1⟩ := hone_of hone 1 f1 rfl
    obtain ⟨o2, k2⟩ := hone_of hone 2 f2 rfl
    obtain ⟨o3, k3⟩ := hone_of hone 3 f3 rfl
    obtain ⟨o4, k4⟩ := hone_of hone 4 f4 rfl
    have g := fun j (hj : j < 5) => hat j hj
    simp only [add_add] at g
    exact ⟨c0, c1, c2, c3, c4, y0, y1, y2, y3, y4, k, ⟨g 0 (by omega), g 1 (by omega), g 2 (by omega), g 3 (by omega), g 4 (by omega)⟩, by simpa [o0, k0] using h0, by simpa [o1, k1] using h1, by simpa [o2, k2] using h2, by simpa [o3, k3] using h3, by simpa [o4, k4] using h4⟩
theorem in_frames {fuel : Nat} {cs : List Value} {x : DataW H × List MemPlace} (h : DataW.trod enc Try.prog w base spare held fuel 22 cs = some x) :
    ∃ A n cap gs, cs = [.slice A n cap] ∧ InF w A n cap gs := by
  rcases open_row5 Try.underlying22 Try.underlying30 (by kernel_rfl) cells5 h with rfl | ⟨a, len, cap, rfl, hlc, hi⟩
  · exact ⟨none, 0, 0, [], rfl, Nat.le_refl _, .inl ⟨rfl, rfl, fun _ => rfl⟩⟩
  · refine ⟨some a, len, cap, ?_⟩
    rcases Nat.eq_zero_or_pos len with rfl | h0
    · exact ⟨[], rfl, Nat.zero_le _, .inl ⟨rfl, rfl, fun e => by cases e⟩⟩
    have hpick : ∀ i, i < len → ∃ f : FX, w.cell? (a.add (i * 5)) = some (.int .u32 f.id) ∧ w.cell? (a.add (i * 5 + 1)) = some (.bool f.ext) ∧ w.cell? (a.add (i * 5 + 2)) = some (.bool f.rem) ∧ w.cell? (a.add (i * 5 + 3)) = some (.int .i64 f.dlc) ∧ w.cell? (a.add (i * 5 + 4)) = some (.string f.data) := by
      intro i hil
      obtain ⟨v0, v1, v2, v3, v4, y0, y1, y2, y3, y4, n, ⟨g0, g1, g2, g3, g4⟩, h0, h1, h2, h3, h4⟩ := hi i hil
      obtain ⟨a0, e0, rfl, w0⟩ := DataW.trod_int Try.underlying28 h0
      obtain ⟨a1, e1, rfl⟩ := DataW.trod_bool Try.underlying4 h1
      obtain ⟨a2, e2, rfl⟩ := DataW.trod_bool Try.underlying4 h2
      obtain ⟨a3, e3, rfl, w3⟩ := DataW.trod_int Try.underlying3 h3
      obtain ⟨a4, e4, hx, w4⟩ := DataW.trod_string Try.underlying9 h4
      simp only [List.cons.injEq, and_true] at e0 e1 e2 e3 e4
      subst e0 e1 e2 e3 e4
      obtain ⟨j, rfl⟩ := Int.eq_ofNat_of_zero_le (bounds_u32 w0).1
      exact ⟨⟨j, a1, a2, a3, a4⟩, g0, g1, g2, g3, g4⟩
    obtain ⟨fs, hl, hp⟩ := pick_list _ len hpick
    have hc0 := (hp 0 (by omega)).1
    have hsp := World.cell?_spot hc0
    rw [show a.add (0 * 5) = a from rfl] at hsp hc0
    obtain ⟨g, o, sp⟩ := a
    simp only at hsp
    subst hsp
    refine ⟨fs.take 10, rfl, hlc, .inr ⟨h0, g, o, fs, rfl, hl, rfl, fun i hi => ?_, cell_lt hc0⟩⟩
    rw [List.length_take] at hi
    have := hp i (by omega)
    simp only [addr_add, ← Nat.add_assoc] at this
    rw [List.getElem_take]
    exact this
end
end Go.Proofs.Ytcaeobkaoebndaa.five
