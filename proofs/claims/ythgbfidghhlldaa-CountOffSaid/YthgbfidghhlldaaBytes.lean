/- A row of bytes in a block of the call's own: read, written, made of a text, made a text again. No program. -/
import Derived.WalkKit
import Derived.Lib.Hide
import Derived.Lib.ConvBytes
import Derived.Laws.IdiomStrings
namespace Go.Proofs.Ythgbfidghhlldaa
open Go.RowKit Go.Lib

/-- block g holds the bytes l from its first cell on, and they may be written -/
structure RowB (w : World) (g : Nat) (l : List UInt8) : Prop where
  cell : ∀ j c, l[j]? = some c → w.cell? ⟨g, j, none⟩ = some (.int .u8 c.toNat)
  free : ∀ j, j < l.length → w.frozen? ⟨g, j, none⟩ = false

theorem RowB.set {w : World} {g : Nat} {l : List UInt8} (h : RowB w g l) (j : Nat) (hj : j < l.length) (c : UInt8) : RowB (w.setCell ⟨g, j, none⟩ (.int .u8 c.toNat)) g (l.set j c) := by
  constructor
  · intro i d hd
    rw [List.getElem?_set] at hd
    by_cases e : j = i
    · subst e
      rw [if_pos rfl, if_pos hj] at hd
      cases hd
      exact World.cell?_setCell_same _ _ _ (h.cell j l[j] (List.getElem?_eq_getElem hj))
    · rw [if_neg e] at hd
      rw [World.cell?_setCell_other _ _ _ _ (show (⟨g, j, none⟩ : Addr) ≠ ⟨g, i, none⟩ from by simp)]
      exact h.cell i d hd
  · intro i hi
    rw [World.frozen?_setCell]
    exact h.free i (by simpa using hi)

theorem RowB.below {w w' : World} {g B : Nat} {l : List UInt8} (h : RowB w g l) (hb : Below B w w') (hg : g < B) : RowB w' g l :=
  ⟨fun j c hc => by rw [hb.cell (by exact hg)]; exact h.cell j c hc, fun j hj => by rw [hb.frozen (by exact hg)]; exact h.free j hj⟩

theorem RowB.back {P : Program} {w : World} {g k cap : Nat} {e : TypeId} {l : List UInt8} (src dst : TypeId) (hl : l.length = k) (hs : P.underlying src = some (.slice e)) (he : P.underlying e = some (.int .u8)) (hd : P.underlying dst = some .string)
    (h : RowB w g l) : (convert src dst (.slice (some ⟨g, 0, none⟩) k cap)).run P w = .ok (.string ⟨l.toArray⟩) w := by
  subst hl
  refine run_convert_bytes_back (P := P) w src dst e ⟨g, 0, none⟩ cap l hs he hd (fun i hi => ?_)
  have e1 : (⟨g, 0, none⟩ : Addr).add i = ⟨g, i, none⟩ := by simp [Addr.add]; intro h; omega
  rw [e1]
  exact h.cell i l[i] (List.getElem?_eq_getElem hi)

theorem bytesWorld_below (w : World) (e : TypeId) (s : ByteArray) : Below w.heap.size w (bytesWorld w e s) :=
  ⟨rfl, rfl, rfl, by rw [bytesWorld_size]; omega, fun k hk => bytesWorld_at_old w e s k hk⟩

theorem bytesWorld_row (w : World) (e : TypeId) (s : ByteArray) : RowB (bytesWorld w e s) w.heap.size s.data.toList := by
  constructor
  · intro j c hc
    have hj : j < s.size := by
      have := (List.getElem?_eq_some_iff.1 hc).1
      simpa using this
    rw [bytesWorld_cell w e s j hj, List.getD_eq_getElem?_getD, hc]; rfl
  · intro j hj
    have hj : j < s.size := by simpa using hj
    unfold World.frozen?
    simp only [bytesWorld_at_new]
    have hz : s.size ≤ (bytesCells w e s).size := by simp [bytesCells]
    simp; omega
end Go.Proofs.Ythgbfidghhlldaa
