/- A row of frames as a law's argument, all of it: opened. -/
import Derived.Test.YtcaeobkaoebndaaPFramesIn
namespace Go.Proofs.Ytcaeobkaoebndaa
open Go.RowKit Go.Lib
/-- a row of frames that came in -/
def FAll (w : World) (A : Option Addr) (n cap : Nat) (fs : List FX) : Prop :=
  n ≤ cap ∧ fs.length = n ∧ (0 < n → ∃ g o : Nat, A = some ⟨g, o, none⟩ ∧ RowF w g o fs ∧ g < w.heap.size)
theorem FAll.keep {w w' : World} {A : Option Addr} {n cap : Nat} {fs : List FX} (h : FAll w A n cap fs) (hb : Below w.heap.size w w') : FAll w' A n cap fs := by
  refine ⟨h.1, h.2.1, fun hn => ?_⟩
  obtain ⟨g, o, e, hr, hg⟩ := h.2.2 hn
  exact ⟨g, o, e, hr.below hb hg, Nat.lt_of_lt_of_le hg hb.size⟩
theorem RowF.load {w : World} {g o : Nat} {fs : List FX} (h : RowF w g o fs) (i : Nat) (hi : i < fs.length) :
    (loadVar 30 ⟨g, o + i * 5, none⟩).run Try.prog w = .ok (.agg #[.int .u32 (fs[i].id : Nat), .bool fs[i].ext, .bool fs[i].rem, .int .i64 fs[i].dlc, .string fs[i].data]) w := by
  obtain ⟨h0, h1, h2, h3, h4⟩ := h i hi
  simp [go_sem, h0, h1, h2, h3, h4]
end Go.Proofs.Ytcaeobkaoebndaa
namespace Go.Proofs.Ytcaeobkaoebndaa.five
open Go.ChangeShapes Go.WideShapes Go.RowKit Go.Deep Go.WideElems Go.Maps Go.Joins
section
variable {H : Type} {enc : TypeId × Value → H} {P : Program} {w : World} {base : Nat} {spare : Nat → Bool} {held : Bool}
theorem in_frames_all {fuel : Nat} {cs : List Value} {x : DataW H × List MemPlace} (h : DataW.trod enc Try.prog w base spare held fuel 22 cs = some x) :
    ∃ A n cap gs, cs = [.slice A n cap] ∧ FAll w A n cap gs := by
  rcases open_row5 Try.underlying22 Try.underlying30 (by kernel_rfl) cells5 h with rfl | ⟨a, len, cap, rfl, hlc, hi⟩
  · exact ⟨none, 0, 0, [], rfl, Nat.le_refl _, rfl, fun h => absurd h (Nat.lt_irrefl _)⟩
  · refine ⟨some a, len, cap, ?_⟩
    have hpick : ∀ i, i < len → ∃ f : FX, w.cell? (a.add (i * 5)) = some (.int .u32 f.id) ∧ w.cell? (a.add (i * 5 + 1)) = some (.bool f.ext) ∧ w.cell? (a.add (i * 5 + 2)) = some (.bool f.rem) ∧ w.cell? (a.add (i * 5 + 3)) = some (.int .i64 f.dlc) ∧ w.cell? (a.add (i * 5 + 4)) = some (.string f.data) := by
      intro i hil
      obtain ⟨v0, v1, v2, v3, v4, y0, y1, y2, y3, y4, n, ⟨g0, g1, g2, g3, g4⟩, h0, h1, h2, h3, h4⟩ := hi i hil
      obtain ⟨a0, e0, rfl, w0⟩ := DataW.trod_int Try.underlying28 h0
      obtain ⟨a1, e1, rfl⟩ := DataW.trod_bool Try.underlying4 h1
      obtain ⟨a2, e2, rfl⟩ := DataW.trod_bool Try.underlying4 h2
      obtain ⟨a3, e3, rfl, w3⟩ := DataW.trod_int Try.underlying3 h3
      obtain ⟨a4, e4, hx, w4⟩ := DataW.trod_string Try.underlying9 h4
      simp only [List.cons.injEq, and_true] at e0 e1 e2 e3 e4
      subst e0 e1 e2 e3 e4
      obtain ⟨j, rfl⟩ := Int.eq_ofNat_of_zero_le (bounds_u32 w0).1
      exact ⟨⟨j, a1, a2, a3, a4⟩, g0, g1, g2, g3, g4⟩
    obtain ⟨fs, hl, hp⟩ := pick_list _ len hpick
    refine ⟨fs, rfl, hlc, hl, fun h0 => ?_⟩
    have hc0 := (hp 0 (by omega)).1
    have hsp := World.cell?_spot hc0
    rw [show a.add (0 * 5) = a from rfl] at hsp hc0
    obtain ⟨g, o, sp⟩ := a
    simp only at hsp
    subst hsp
    refine ⟨g, o, rfl, fun i hi => ?_, cell_lt hc0⟩
    have := hp i (by omega)
    simp only [addr_add, ← Nat.add_assoc] at this
    exact this
end
set_option maxRecDepth 100000 in
theorem frames_arg {H : Type} {enc : TypeId × Value → H} {w : World} {base : Nat} {spare : Nat → Bool} {held : Bool} {v : Value} {d : DataW H} {p : List MemPlace} (hv : Value.okWide Try.prog w .any base 22 v)
    (h : DataW.Trod enc Try.prog w base spare held 22 v d p) : ∃ A n cap gs, v = .slice A n cap ∧ FAll w A n cap gs := by
  obtain ⟨A, n, cap, rfl⟩ := okWide_slice Try.underlying22 hv
  obtain ⟨fuel, hf⟩ := h
  obtain ⟨A', n', c', gs, hcs, hIn⟩ := in_frames_all hf
  simp [Value.cells] at hcs
  obtain ⟨rfl, rfl, rfl⟩ := hcs
  exact ⟨_, _, _, gs, rfl, hIn⟩
end Go.Proofs.Ytcaeobkaoebndaa.five
