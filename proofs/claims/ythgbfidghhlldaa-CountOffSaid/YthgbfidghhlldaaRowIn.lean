/- A row of one-cell values as a law's argument: opened. -/
import Derived.Test.YthgbfidghhlldaaBlk
import Derived.ProofKit
import Derived.OpenShut
import Derived.Deep.Slices
import Derived.ChangeSame
namespace Go.Proofs.Ythgbfidghhlldaa
open Go.RowKit Go.Lib

def IsInt (v : Value) : Prop := ∃ z : Int, v = .int .i64 z ∧ -9223372036854775808 ≤ z ∧ z ≤ 9223372036854775807
def IsBool (v : Value) : Prop := ∃ b : Bool, v = .bool b
def IsStr (v : Value) : Prop := ∃ s : ByteArray, v = .string s ∧ s.size ≤ maxLen
/-- a row that came in -/
def InRow (P : Value → Prop) (w : World) (A : Option Addr) (n cap : Nat) : Prop :=
  n ≤ cap ∧ cap ≤ maxLen ∧ (0 < n → ∃ b o, A = some ⟨b, o, none⟩ ∧ b < w.heap.size ∧ ∀ i, i < n → ∃ v, P v ∧ w.cell? ⟨b, o + i, none⟩ = some v)
theorem InRow.keep {P : Value → Prop} {w w' : World} {A : Option Addr} {n cap : Nat} (h : InRow P w A n cap) (hb : Below w.heap.size w w') : InRow P w' A n cap := by
  refine ⟨h.1, h.2.1, fun hn => ?_⟩
  obtain ⟨b, o, e, hlt, hc⟩ := h.2.2 hn
  refine ⟨b, o, e, Nat.lt_of_lt_of_le hlt hb.size, fun i hi => ?_⟩
  obtain ⟨v, hv, hcv⟩ := hc i hi
  exact ⟨v, hv, by rw [hb.cell (p := ⟨b, o + i, none⟩) hlt]; exact hcv⟩
theorem InRow.at_ {P : Value → Prop} {w : World} {A : Option Addr} {n cap : Nat} (h : InRow P w A n cap) (i : Nat) (hi : i < n) : ∃ b o v, A = some ⟨b, o, none⟩ ∧ b < w.heap.size ∧ P v ∧ w.cell? ⟨b, o + i, none⟩ = some v := by
  obtain ⟨b, o, e, hlt, hc⟩ := h.2.2 (by omega)
  obtain ⟨v, hv, hcv⟩ := hc i hi
  exact ⟨b, o, v, e, hlt, hv, hcv⟩
section
variable {H : Type} {enc : TypeId × Value → H} {P : Program} {w : World} {base : Nat} {spare : Nat → Bool} {held : Bool}
theorem inrow_of {t e : TypeId} {A : Option Addr} {n cap : Nat} {d : DataW H} {p : List MemPlace} (Q : Value → Prop) (ht : P.underlying t = some (.slice e)) (hc : P.cellsOf e = 1)
    (hQ : ∀ v n y, DataW.trod enc P w base spare held n e [v] = some y → Q v) (h : DataW.Trod enc P w base spare held t (.slice A n cap) d p) : InRow Q w A n cap := by
  obtain ⟨fuel, hf⟩ := h
  rcases Deep.open_slice1 ht hc hf with ⟨hcs, _⟩ | ⟨a, l, c, m, k, V, D, Pl, hcs, hb, hl, hm, hml, _, hi⟩
  · simp [Value.cells] at hcs
    obtain ⟨rfl, rfl, rfl⟩ := hcs
    exact ⟨Nat.le_refl _, Nat.zero_le _, fun h => absurd h (Nat.lt_irrefl _)⟩
  · simp [Value.cells] at hcs
    obtain ⟨rfl, rfl, rfl⟩ := hcs
    have hlm : n ≤ m := by rw [hml]; split <;> omega
    refine ⟨hl, hm, fun hn => ?_⟩
    have h00 := (hi 0 (by omega)).1
    have hspot : a.spot = none := by
      have := World.cell?_spot h00
      simpa [Addr.add] using this
    have hlt := cell_lt h00
    rw [addr_block] at hlt
    obtain ⟨b, off, sp⟩ := a
    simp only at hspot
    subst hspot
    refine ⟨b, off, rfl, hlt, fun i hin => ?_⟩
    obtain ⟨h1, h2⟩ := hi i (by omega)
    have e : (⟨b, off, none⟩ : Addr).add i = ⟨b, off + i, none⟩ := by
      unfold Addr.add; split
      · rename_i h; subst h; rfl
      · rfl
    rw [e] at h1
    exact ⟨_, hQ _ _ _ h2, h1⟩
theorem inrow_int {t e : TypeId} {A : Option Addr} {n cap : Nat} {d : DataW H} {p : List MemPlace} (ht : P.underlying t = some (.slice e)) (hc : P.cellsOf e = 1) (he : P.underlying e = some (.int .i64))
    (h : DataW.Trod enc P w base spare held t (.slice A n cap) d p) : InRow IsInt w A n cap :=
  inrow_of IsInt ht hc (fun v m y hy => by
    obtain ⟨a, e0, _, w0⟩ := DataW.trod_int he hy
    simp only [List.cons.injEq, and_true] at e0
    exact ⟨a, e0, by have := bounds_i64 w0; omega, by have := bounds_i64 w0; omega⟩) h
theorem inrow_bool {t e : TypeId} {A : Option Addr} {n cap : Nat} {d : DataW H} {p : List MemPlace} (ht : P.underlying t = some (.slice e)) (hc : P.cellsOf e = 1) (he : P.underlying e = some .bool)
    (h : DataW.Trod enc P w base spare held t (.slice A n cap) d p) : InRow IsBool w A n cap :=
  inrow_of IsBool ht hc (fun v m y hy => by
    obtain ⟨a, e0, _⟩ := DataW.trod_bool he hy
    simp only [List.cons.injEq, and_true] at e0
    exact ⟨a, e0⟩) h
theorem inrow_str {t e : TypeId} {A : Option Addr} {n cap : Nat} {d : DataW H} {p : List MemPlace} (ht : P.underlying t = some (.slice e)) (hc : P.cellsOf e = 1) (he : P.underlying e = some .string)
    (h : DataW.Trod enc P w base spare held t (.slice A n cap) d p) : InRow IsStr w A n cap :=
  inrow_of IsStr ht hc (fun v m y hy => by
    obtain ⟨a, e0, _, w0⟩ := DataW.trod_string he hy
    simp only [List.cons.injEq, and_true] at e0
    exact ⟨a, e0, w0⟩) h
end
end Go.Proofs.Ythgbfidghhlldaa
