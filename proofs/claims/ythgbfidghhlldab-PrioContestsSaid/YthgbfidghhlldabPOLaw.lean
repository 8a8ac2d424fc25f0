/- The law PrioOrder. -/
import Derived.Test.YthgbfidghhlldabPOrd4
import Derived.Deep.RegionHeld3
namespace Go.Proofs.Ythgbfidghhlldab
open Go.RowKit Go.Lib
attribute [local go_sem ↓] Go.wp_at_zero Go.wp_at_succ

abbrev KD (h : Nat) (f : FX) (w : World) : Prop := w.cell? ⟨h, 0, none⟩ = some (.int .u32 f.id) ∧ w.cell? ⟨h, 1, none⟩ = some (.bool f.ext) ∧ w.cell? ⟨h, 2, none⟩ = some (.bool f.rem) ∧ w.cell? ⟨h, 3, none⟩ = some (.int .i64 f.dlc) ∧ w.cell? ⟨h, 4, none⟩ = some (.string f.data)
theorem blk_kd {w : World} {h : Nat} {f : FX} (k : Blk w h f.v 25) : KD h f w := ⟨k.cell 0 _ rfl, k.cell 1 _ rfl, k.cell 2 _ rfl, k.cell 3 _ rfl, k.cell 4 _ rfl⟩
/-- what lies in memory: the row, the row in order, and frames of its rounds -/
structure QS (w0 : World) (hs os : List FX) (g1 h : Nat) (bs : List (Nat × FX)) (W : World) : Prop where
  row : RowF W g1 0 hs
  ord : RowF W h 0 os
  lt : g1 < W.heap.size ∧ h < W.heap.size
  bel : Below w0.heap.size w0 W
  blk : ∀ p ∈ bs, Blk W p.1 p.2.v 25
section
variable {w0 W W' : World} {hs os : List FX} {g1 h : Nat} {bs : List (Nat × FX)}
theorem QS.keep (q : QS w0 hs os g1 h bs W) (hb : Below W.heap.size W W') : QS w0 hs os g1 h bs W' :=
  ⟨q.row.below hb q.lt.1, q.ord.below hb q.lt.2, ⟨Nat.lt_of_lt_of_le q.lt.1 hb.size, Nat.lt_of_lt_of_le q.lt.2 hb.size⟩, q.bel.trans (hb.mono q.bel.size), fun p hp => (q.blk p hp).keep hb⟩
theorem QS.push (q : QS w0 hs os g1 h bs W) (f : FX) : QS w0 hs os g1 h ((W.heap.size, f) :: bs) (W.alloc (.cells f.v 25)) := by
  have hb : Below W.heap.size W (W.alloc (.cells f.v 25)) := (Below.refl _ _).alloc (Nat.le_refl _) _
  have k := q.keep hb
  refine ⟨k.row, k.ord, k.lt, k.bel, fun p hp => ?_⟩
  rcases List.mem_cons.1 hp with rfl | hp
  · exact blk_new _ _ _ _ rfl
  · exact k.blk p hp
theorem QS.weak (q : QS w0 hs os g1 h bs W) (bs' : List (Nat × FX)) (hs' : ∀ p ∈ bs', p ∈ bs) : QS w0 hs os g1 h bs' W := ⟨q.row, q.ord, q.lt, q.bel, fun p hp => q.blk p (hs' p hp)⟩
theorem QS.one {b : Nat} {f : FX} (q : QS w0 hs os g1 h bs W) (hm : (b, f) ∈ bs) : KD b f W := blk_kd (q.blk _ hm)
end
theorem less_both {f g : FX} (h1 : f.less g = false) (h2 : g.less f = false) : f.field = g.field := by
  apply bytes_same
  rw [FX.field_list, FX.field_list]
  exact B.lt_same keysF h1 h2
theorem less_ne {f g : FX} (h : f.less g = true) : f.field ≠ g.field := fun e => by
  have : B.fieldL f.fr = B.fieldL g.fr := by rw [← FX.field_list, ← FX.field_list, e]
  unfold FX.less at h
  rw [this, B.lessL_self] at h; cases h
theorem toList_ne {a b : ByteArray} (h : a ≠ b) : (a.toList == b.toList) = false := beq_eq_false_iff_ne.2 (fun e => h (bytes_same (by simpa [ByteArray.toList_eq] using e)))

end Go.Proofs.Ythgbfidghhlldab
