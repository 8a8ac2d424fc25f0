/- The reference's Less (layer 5). -/
import Derived.Test.YtcaeobkaoebndaaGreatJ10
import Derived.Test.YtcaeobkaoebndaaGreatPrioF
namespace Go.Proofs.YtcaeobkaoebndaaGreat
open Go.RowKit Go.Lib
attribute [local go_sem ↓] Go.wp_at_zero Go.wp_at_succ

def FX.less (f g : FX) : Bool := B.lessL (B.fieldL f.fr) (B.fieldL g.fr)
set_option maxRecDepth 100000 in
set_option maxHeartbeats 1000000 in
theorem refless_any (f g : FX) (w : World) (hf : f.may = true) (hg : g.may = true) :
    Calls Tryz.prog 17 #[.agg f.v, .agg g.v] w fun e w' => e = .returned (.bool (f.less g)) ∧ Below w.heap.size w w' := by
  have CF := Lib.hid (fun w => reffield_any f w hf)
  have CG := Lib.hid (fun w => reffield_any g w hg)
  have CI0 := fun w => reffirst_any f.field g.field w f.field_size
  rw [FX.field_list, FX.field_list] at CI0
  have hB := ((Below.refl w.heap.size w).alloc (Nat.le_refl _) (.cells f.v 24)).alloc (by simp) (.cells g.v 24)
  have hBlk : ∀ w1, Below ((w.alloc (.cells f.v 24)).alloc (.cells g.v 24)).heap.size ((w.alloc (.cells f.v 24)).alloc (.cells g.v 24)) w1 → w1.cell? ⟨w.heap.size + 1, 0, none⟩ = some (.int .u32 g.id) ∧ w1.cell? ⟨w.heap.size + 1, 1, none⟩ = some (.bool g.ext) ∧ w1.cell? ⟨w.heap.size + 1, 2, none⟩ = some (.bool g.rem) ∧ w1.cell? ⟨w.heap.size + 1, 3, none⟩ = some (.int .i64 g.dlc) ∧ w1.cell? ⟨w.heap.size + 1, 4, none⟩ = some (.string g.data) := fun w1 hb => by
    have hk := (blk_new (w.alloc (.cells f.v 24)) g.v 24 (w.heap.size + 1) (by simp)).keep hb
    exact ⟨hk.cell 0 _ rfl, hk.cell 1 _ rfl, hk.cell 2 _ rfl, hk.cell 3 _ rfl, hk.cell 4 _ rfl⟩
  unfold B.firstI at CI0
  cases hd : B.firstD (B.fieldL f.fr) (B.fieldL g.fr) with
  | none =>
    rw [hd] at CI0
    have CI := Lib.hid CI0
    clear CI0
    have HB := Lib.hid (show false = f.less g by unfold FX.less B.lessL; rw [hd])
    clear hd
    go_enter Tryz.func17, Tryz.ntmps17
    go_wp2_with (first
      | (go_at_call 28; (with_reducible refine (CF.out _).mono ?_); rintro e w1 ⟨rfl, hb1⟩; obtain ⟨c0, c1, c2, c3, c4⟩ := hBlk w1 hb1; replace hb1 := hB.trans (hb1.mono hB.size))
      | (go_at_call 28; (with_reducible refine (CG.out _).mono ?_); rintro e w2 ⟨rfl, hb2⟩; replace hb2 := hb1.trans (hb2.mono hb1.size))
      | (go_at_call 29; (with_reducible refine (CI.out _).mono ?_); rintro e w3 ⟨rfl, hb3⟩; replace hb3 := hb2.trans (hb3.mono hb2.size)))
    go_ret
    exact ⟨ret_bool HB.out, hb3⟩
  | some k =>
    rw [hd] at CI0
    have CI := Lib.hid CI0
    clear CI0
    have ka := (B.firstD_some hd).choose
    have hka : k < f.field.size := by rw [← B.size_len, FX.field_list]; exact ka
    have q1 : (0 : Int) ≤ k := by omega
    have q2 : (k : Int) < f.field.size := by omega
    have HB := Lib.hid (show ((f.field[k].toNat : Int) == 48) = f.less g by
      unfold FX.less B.lessL
      rw [hd]
      simp only
      have e : (B.fieldL f.fr).getD k 0 = f.field[k] := by
        rw [List.getD_eq_getElem?_getD, List.getElem?_eq_getElem ka, Option.getD_some]
        have := FX.field_list f
        show _ = f.field.data[k]
        simp only [← Array.getElem_toList, this]
      rw [e]
      rw [Bool.eq_iff_iff, beq_iff_eq, beq_iff_eq, ← UInt8.toNat_inj]
      show _ ↔ f.field[k].toNat = 48
      omega)
    clear hd ka
    go_enter Tryz.func17, Tryz.ntmps17
    go_wp2_with (first
      | (go_at_call 28; (with_reducible refine (CF.out _).mono ?_); rintro e w1 ⟨rfl, hb1⟩; obtain ⟨c0, c1, c2, c3, c4⟩ := hBlk w1 hb1; replace hb1 := hB.trans (hb1.mono hB.size))
      | (go_at_call 28; (with_reducible refine (CG.out _).mono ?_); rintro e w2 ⟨rfl, hb2⟩; replace hb2 := hb1.trans (hb2.mono hb1.size))
      | (go_at_call 29; (with_reducible refine (CI.out _).mono ?_); rintro e w3 ⟨rfl, hb3⟩; replace hb3 := hb2.trans (hb3.mono hb2.size)))
    go_ret
    exact ⟨ret_bool HB.out, hb3⟩
end Go.Proofs.YtcaeobkaoebndaaGreat
