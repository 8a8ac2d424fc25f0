/- The law PrioContests. -/
import Derived.Test.YthgbfidghhlldabPROrd
import Derived.Test.YthgbfidghhlldabPOLaw
import Derived.Deep.CutRange
import Derived.Deep.RegionWith
namespace Go.Proofs.Ythgbfidghhlldab
open Go.RowKit Go.Lib
attribute [local go_sem ↓] Go.wp_at_zero Go.wp_at_succ

abbrev KC5 (h : Nat) (f : FX) (w : World) : Prop := w.cell? ⟨h, 0, none⟩ = some (.int .u32 f.id) ∧ w.cell? ⟨h, 1, none⟩ = some (.bool f.ext) ∧ w.cell? ⟨h, 2, none⟩ = some (.bool f.rem) ∧ w.cell? ⟨h, 3, none⟩ = some (.int .i64 f.dlc) ∧ w.cell? ⟨h, 4, none⟩ = some (.string f.data)
theorem KC5.keep {h : Nat} {f : FX} {w w' : World} (k : KC5 h f w) (hb : Below w.heap.size w w') : KC5 h f w' :=
  ⟨cell_keep hb k.1, cell_keep hb k.2.1, cell_keep hb k.2.2.1, cell_keep hb k.2.2.2.1, cell_keep hb k.2.2.2.2⟩
theorem KC5.row {h : Nat} {f : FX} {w : World} (k : KC5 h f w) : RowF w h 0 [f] := fun i hi => by
  have : i = 0 := by simp at hi; omega
  subst this
  exact k
theorem RowF.one {h : Nat} {f : FX} {w : World} (k : RowF w h 0 [f]) : KC5 h f w := k 0 (by simp)
/-- few of a literal of one frame -/
theorem few_one (b : Nat) (f : FX) (w : World) (hr : KC5 b f w) (hb : b < w.heap.size) :
    Calls Try.prog 4 #[.slice (some ⟨b, 0, none⟩) 1 1] w fun e w' => ∃ k c, e = .returned (.slice (some ⟨k, 0, none⟩) 1 c) ∧ KC5 k f.cut w' ∧ (w.heap.size ≤ k ∧ k < w'.heap.size) ∧ Below w.heap.size w w' := by
  have h : InF w (some ⟨b, 0, none⟩) 1 1 [f] := ⟨by simp, .inr ⟨by omega, b, 0, [f], rfl, rfl, by simp, hr.row, hb⟩⟩
  refine (few_all h).mono ?_
  rintro e w' ⟨k, c, rfl, ho, hb'⟩
  exact ⟨k, c, rfl, (own_row ho).one, ho.lt _ rfl, hb'⟩
/-- what lies in memory while the law goes on -/
structure CT (w0 : World) (g1 cap1 : Nat) (hs : List FX) (f g : FX) (W : World) : Prop where
  own : W.ownsRow w0.heap.size 25 5 (.slice (some ⟨g1, 0, none⟩) hs.length cap1) hs.length (cellsF hs)
  b4 : Blk W w0.heap.size f.v 25
  b5 : Blk W (w0.heap.size + 1) g.v 25
  ge : w0.heap.size + 1 < g1
  bel : Below w0.heap.size w0 W
theorem CT.keep {w0 W W' : World} {g1 cap1 : Nat} {hs : List FX} {f g : FX} (r : CT w0 g1 cap1 hs f g W) (hb : Below W.heap.size W W') : CT w0 g1 cap1 hs f g W' :=
  ⟨own_keep5 r.own hb, r.b4.keep hb, r.b5.keep hb, r.ge, r.bel.trans (hb.mono r.bel.size)⟩
theorem kc5_new (w : World) (f : FX) : KC5 w.heap.size f (w.alloc (.cells f.v 25)) := by
  have h := blk_new w f.v 25 w.heap.size rfl
  exact ⟨h.cell 0 _ rfl, h.cell 1 _ rfl, h.cell 2 _ rfl, h.cell 3 _ rfl, h.cell 4 _ rfl⟩
theorem blk_kc5 {w : World} {h : Nat} {f : FX} (k : Blk w h f.v 25) : KC5 h f w := ⟨k.cell 0 _ rfl, k.cell 1 _ rfl, k.cell 2 _ rfl, k.cell 3 _ rfl, k.cell 4 _ rfl⟩
theorem blk_free {w : World} {h : Nat} {f : FX} (k : Blk w h f.v 25) : w.frozen? ⟨h, 0, none⟩ = false ∧ w.frozen? ⟨h, 1, none⟩ = false ∧ w.frozen? ⟨h, 2, none⟩ = false ∧ w.frozen? ⟨h, 3, none⟩ = false ∧ w.frozen? ⟨h, 4, none⟩ = false := ⟨k.free 0, k.free 1, k.free 2, k.free 3, k.free 4⟩
theorem al (w : World) (o : Obj) : Below w.heap.size w (w.alloc o) := (Below.refl _ _).alloc (Nat.le_refl _) _
theorem InF.keep {w w' : World} {A : Option Addr} {n cap : Nat} {gs : List FX} (h : InF w A n cap gs) (hb : Below w.heap.size w w') : InF w' A n cap gs :=
  ⟨h.1, h.2.imp id (fun ⟨h0, g, o, fs, e1, e2, e3, hr, hg⟩ => ⟨h0, g, o, fs, e1, e2, e3, hr.below hb hg, Nat.lt_of_lt_of_le hg hb.size⟩)⟩
abbrev put5 (W : World) (b : Nat) (f : FX) : World := ((((W.setCell ⟨b, 0, none⟩ (.int .u32 f.id)).setCell ⟨b, 1, none⟩ (.bool f.ext)).setCell ⟨b, 2, none⟩ (.bool f.rem)).setCell ⟨b, 3, none⟩ (.int .i64 f.dlc)).setCell ⟨b, 4, none⟩ (.string f.data)
theorem own_put5 {W : World} {base g n cap b : Nat} {e : TypeId} {size : Nat} {xs : List Value} (h : W.ownsRow base e size (.slice (some ⟨g, 0, none⟩) n cap) n xs) (hk : g ≠ b) (f : FX) : (put5 W b f).ownsRow base e size (.slice (some ⟨g, 0, none⟩) n cap) n xs :=
  own_far (own_far (own_far (own_far (own_far h (Below.heap_setCell _ _ _ _ hk)) (Below.heap_setCell _ _ _ _ hk)) (Below.heap_setCell _ _ _ _ hk)) (Below.heap_setCell _ _ _ _ hk)) (Below.heap_setCell _ _ _ _ hk)
theorem blk_put5 {W : World} {g b : Nat} {cs : Array Value} {t : TypeId} (h : Blk W g cs t) (hk : g ≠ b) (f : FX) : Blk (put5 W b f) g cs t := ((((h.other hk _).other hk _).other hk _).other hk _).other hk _
theorem blk_set5 {W : World} {b : Nat} {f0 : FX} (h : Blk W b f0.v 25) (f : FX) : Blk (put5 W b f) b f.v 25 := blk_set4 (blk_set3 (blk_set2 (blk_set1 (blk_set0 h _) _) _) _) _
theorem below_put5 {B : Nat} {w W : World} (h : Below B w W) {b : Nat} (hb : B ≤ b) (f : FX) : Below B w (put5 W b f) :=
  ((((h.setCell (p := ⟨b, 0, none⟩) hb _).setCell (p := ⟨b, 1, none⟩) hb _).setCell (p := ⟨b, 2, none⟩) hb _).setCell (p := ⟨b, 3, none⟩) hb _).setCell (p := ⟨b, 4, none⟩) hb _
theorem CT.put {w0 W : World} {g1 cap1 : Nat} {hs : List FX} {f0 g0 : FX} (h : CT w0 g1 cap1 hs f0 g0 W) (f g : FX) : CT w0 g1 cap1 hs f g (put5 (put5 W w0.heap.size f) (w0.heap.size + 1) g) := by
  have := h.ge
  exact ⟨own_put5 (own_put5 h.own (by omega) f) (by omega) g, blk_put5 (blk_set5 h.b4 f) (by omega) g, blk_set5 (blk_put5 h.b5 (by omega) f) g, h.ge, below_put5 (below_put5 h.bel (Nat.le_refl _) f) (by omega) g⟩
theorem dr (w : World) : Below w.heap.size w w.drew := (Below.refl _ _).drew
end Go.Proofs.Ythgbfidghhlldab
