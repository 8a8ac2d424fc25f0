/- The reference's Lost (layer 5). -/
import Derived.Test.YthgbfidghhlldabPrioC
import Derived.Test.YthgbfidghhlldabJ2
namespace Go.Proofs.Ythgbfidghhlldab
open Go.RowKit Go.Lib
attribute [local go_sem ↓] Go.wp_at_zero Go.wp_at_succ

/-- the best of a row, from one on -/
def FX.best (b : FX) (l : List FX) : FX := l.foldl (fun b g => if g.less b then g else b) b
theorem FX.best_next (b : FX) (l : List FX) (k : Nat) (h : k < l.length) : b.best (l.take (k + 1)) = if l[k].less (b.best (l.take k)) then l[k] else b.best (l.take k) := by
  rw [List.take_succ_eq_append_getElem h, FX.best, List.foldl_append]; rfl
theorem FX.best_may : ∀ (l : List FX) (b : FX), b.may = true → l.all FX.may = true → (b.best l).may = true := by
  intro l
  induction l with
  | nil => intro b h _; exact h
  | cons g l ih =>
    intro b h ha
    rw [List.all_cons, Bool.and_eq_true] at ha
    rw [FX.best, List.foldl_cons]
    refine ih _ ?_ ha.2
    split
    · exact ha.1
    · exact h
theorem all_take_may {l : List FX} (h : l.all FX.may = true) (k : Nat) : (l.take k).all FX.may = true := by
  rw [List.all_eq_true] at *; intro x hx; exact h x (List.mem_of_mem_take hx)

set_option maxRecDepth 100000 in
set_option maxHeartbeats 4000000 in
theorem reflost_any (g o cap : Nat) (fs : List FX) (f : FX) (w : World) (hn : fs.length ≤ 1000000) (hc : RowF w g o fs) (hg : g < w.heap.size) (hf : f.may = true) (ha : fs.all FX.may = true) (h0 : 0 < fs.length) :
    Calls Try.prog 16 #[.slice (some ⟨g, o, none⟩) fs.length cap, .agg f.v] w fun e w' => e = .returned (.int .i64 (B.firstI (B.fieldL f.fr) (B.fieldL (fs[0].best fs).fr))) ∧ Below w.heap.size w w' := by
  have CF := Lib.hid (fun w => reffield_any f w hf)
  have HA := Lib.hid ha
  have hb0 := FX.best_may fs fs[0] ((List.all_eq_true.1 ha) _ (List.getElem_mem h0)) ha
  obtain ⟨c0, c1, c2, c3, c4⟩ := hc 0 h0
  obtain ⟨z, hz⟩ : ∃ z, z = fs[0] := ⟨_, rfl⟩
  rw [← hz] at c0 c1 c2 c3 c4
  rw [show o + 0 * 5 = o from by omega] at c0 c1 c2 c3 c4
  go_enter Try.func16, Try.ntmps16
  go_wp2
  go_loopw [13] (fun i wr => ∃ (k : Nat) (b : FX), k ≤ fs.length ∧ i = .int .i64 k ∧ Hid (b = fs[0].best (fs.take k) ∧ b.may = true) ∧ Blk wr (w.heap.size + 1) b.v 25 ∧ Blk wr w.heap.size f.v 25 ∧ Below w.heap.size w wr) (fun i _ => fs.length - (intOf i).toNat)
  case atStart =>
    refine ⟨0, fs[0], Nat.zero_le _, rfl, Lib.hid ⟨rfl, (List.all_eq_true.1 HA.out) _ (List.getElem_mem h0)⟩, ?_, ?_, ?_⟩
    · exact blk_new _ _ _ _ (by simp)
    · exact (blk_new w f.v 25 w.heap.size rfl).alloc _
    · exact ((Below.refl _ _).alloc (Nat.le_refl _) _).alloc (by simp) _
  case round =>
    obtain ⟨k, b, hk, rfl, HBk, hL, hF, hW⟩ := hrel
    by_cases hlt : k < fs.length
    · obtain ⟨c0, c1, c2, c3, c4⟩ := hc.below hW hg k hlt
      obtain ⟨x, hx⟩ : ∃ x, x = fs[k] := ⟨_, rfl⟩
      rw [← hx] at c0 c1 c2 c3 c4
      have hN := FX.best_next fs[0] fs k hlt
      rw [← hx, ← HBk.out.1] at hN
      have hxm : x.may = true := by rw [hx]; exact (List.all_eq_true.1 HA.out) _ (List.getElem_mem hlt)
      have CL := Lib.hid (fun w => refless_any x b w hxm HBk.out.2)
      have d0 := hL.cell 0 _ rfl
      have d1 := hL.cell 1 _ rfl
      have d2 := hL.cell 2 _ rfl
      have d3 := hL.cell 3 _ rfl
      have d4 := hL.cell 4 _ rfl
      have dl := hL.lt
      have KEEP : Hid (∀ w1, Below (wr.alloc (.cells x.v 25)).heap.size (wr.alloc (.cells x.v 25)) w1 → Blk w1 wr.heap.size x.v 25 ∧ Blk w1 (w.heap.size + 1) b.v 25 ∧ Blk w1 w.heap.size f.v 25 ∧ Below w.heap.size w w1) := Lib.hid fun w1 hb =>
        ⟨(blk_new wr x.v 25 wr.heap.size rfl).keep hb, (hL.alloc _).keep hb, (hF.alloc _).keep hb, (hW.alloc hW.size _).trans (hb.mono (by simp; have := hW.size; omega))⟩
      cases hm : x.less b
      · rw [hm] at CL hN
        have HN := Lib.hid hN
        have hbm := HBk.out.2
        clear hx hN hxm hm
        go_wp2_with (go_at_call 9; (with_reducible refine (CL.out _).mono ?_); rintro e w1 ⟨rfl, hb1⟩; obtain ⟨k1, k2, k3, k4⟩ := KEEP.out w1 hb1)
        go_roundw
        case rel => exact ⟨k + 1, b, hlt, by go_num, Lib.hid ⟨by rw [HN.out]; rfl, hbm⟩, k2, k3, k4⟩
        case measure => simp [intOf]; omega
      · rw [hm] at CL hN
        have HN := Lib.hid hN
        clear hx hN hm
        go_wp2_with (go_at_call 9; (with_reducible refine (CL.out _).mono ?_); rintro e w1 ⟨rfl, hb1⟩; obtain ⟨k1, k2, k3, k4⟩ := KEEP.out w1 hb1; have e0 := k1.cell 0 _ rfl; have e1 := k1.cell 1 _ rfl; have e2 := k1.cell 2 _ rfl; have e3 := k1.cell 3 _ rfl; have e4 := k1.cell 4 _ rfl; have g0 := k2.cell 0 _ rfl; have g1 := k2.cell 1 _ rfl; have g2 := k2.cell 2 _ rfl; have g3 := k2.cell 3 _ rfl; have g4 := k2.cell 4 _ rfl; have i0 := k2.free 0; have i1 := k2.free 1; have i2 := k2.free 2; have i3 := k2.free 3; have i4 := k2.free 4)
        go_roundw
        case rel =>
          refine ⟨k + 1, x, hlt, by go_num, Lib.hid ⟨by rw [HN.out]; rfl, hxm⟩, ?_, ?_, ?_⟩
          · exact blk_set4 (blk_set3 (blk_set2 (blk_set1 (blk_set0 k2 _) _) _) _) _
          · exact ((((k3.other (by omega) _).other (by omega) _).other (by omega) _).other (by omega) _).other (by omega) _
          · exact ((((k4.setCell (Nat.le_succ _) _).setCell (Nat.le_succ _) _).setCell (Nat.le_succ _) _).setCell (Nat.le_succ _) _).setCell (Nat.le_succ _) _
        case measure => simp [intOf]; omega
    · have hfin : fs[0].best (fs.take k) = fs[0].best fs := by rw [List.take_of_length_le (by omega)]
      rw [hfin] at HBk
      have CB := Lib.hid (fun w => reffield_any b w HBk.out.2)
      have CI0 := fun w => reffirst_any f.field b.field w f.field_size
      rw [FX.field_list, FX.field_list, show B.fieldL b.fr = B.fieldL (fs[0].best fs).fr by rw [HBk.out.1]] at CI0
      have CI := Lib.hid CI0
      clear CI0 hfin
      have d0 := hL.cell 0 _ rfl
      have d1 := hL.cell 1 _ rfl
      have d2 := hL.cell 2 _ rfl
      have d3 := hL.cell 3 _ rfl
      have d4 := hL.cell 4 _ rfl
      have e0 := hF.cell 0 _ rfl
      have e1 := hF.cell 1 _ rfl
      have e2 := hF.cell 2 _ rfl
      have e3 := hF.cell 3 _ rfl
      have e4 := hF.cell 4 _ rfl
      clear hc HA hb0 ha hz
      go_wp2
      go_region_with (first
        | (go_at_call 7; (with_reducible refine (CF.out _).mono ?_); rintro e w1 ⟨rfl, hb⟩; have hL1 := hL.drew.keep hb; have hW1 := below_keep hW.drew hb hW.size; have m0 := hL1.cell 0 _ rfl; have m1 := hL1.cell 1 _ rfl; have m2 := hL1.cell 2 _ rfl; have m3 := hL1.cell 3 _ rfl; have m4 := hL1.cell 4 _ rfl)
        | (go_at_call 7; (with_reducible refine (CB.out _).mono ?_); rintro e w2 ⟨rfl, hb2⟩; have hW2 := below_keep hW1 hb2 hW1.size)
        | (go_at_call 21; (with_reducible refine (CI.out _).mono ?_); rintro e w3 ⟨rfl, hb3⟩; have hW3 := below_keep hW2 hb3 hW2.size))
      all_goals
        go_wp2
        go_ret
        exact ⟨rfl, hW3⟩
end Go.Proofs.Ythgbfidghhlldab
