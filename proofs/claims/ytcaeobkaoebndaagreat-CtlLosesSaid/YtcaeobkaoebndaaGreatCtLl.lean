/- Layer 7: the law CtlLoses, refused. -/
import Derived.Test.YtcaeobkaoebndaaGreatCtL4
import Derived.Test.YtcaeobkaoebndaaGreatPlain
import Derived.Test.YtcaeobkaoebndaaGreatPrioC
import Derived.Deep.CutRange
namespace Go.Proofs.YtcaeobkaoebndaaGreat
open Go.RowKit Go.Lib
attribute [local go_sem ↓] ld_ct st_ct ld_ev st_ev ld_ma st_ma bd_ma
attribute [local go_sem] ldCt_at stCt_at ldEv_at stEv_at ldMa_at stMa_at bdMa_at ldp_ct ldp_ma ldp_ev ldp_mev stp_ct stp_ma stp_ev stp_mev stp_mm zero_ct zero_ev zero_ma ev_err ev_sent
attribute [local go_sem] rowAt_drew rowAt_drewN rowAt_new rowAt_past rowAt_setRow rowAt_setRow_other rowAt_setCell_other rowAt_setCell_map cell_setRow free_setRow cell_setRow_other free_setRow_other setRow_alloc_at setRow_alloc_past
attribute [local go_sem] ctA_0 ctA_1 ctA_2 ctA_3 ctA_4 ctA_5 ctA_6 ctA_7 ctA_8 ctA_9 ctA_10 ctA_11 ctA_12 ctA_13 ctA_14 ctA_15 ctA_16 ctA_17 ctA_18 ctA_19 ctA_20 ctA_21 ctA_22 evA_0 evA_1 evA_2 evA_3 evA_4 evA_5 evA_6 mA_0 mA_1 mA_2 mA_3 mA_4 mA_5 mA_6 mA_7 mA_8 mA_9 mA_10 mA_11 mA_12 mA_13 mA_14 mA_15 mA_16 mA_17 mA_18 mA_19 mA_20 mA_21 mA_22 mA_23 mA_24 mA_25 mA_26 mA_27 mA_28 mA_29
attribute [local go_sem] ctA_set0 ctA_set0_0 ctA_set1_0 ctA_suc0 ctA_set1 ctA_set0_1 ctA_set1_1 ctA_suc1 ctA_set2 ctA_set3 ctA_set0_3 ctA_set1_3 ctA_suc3 ctA_set4 ctA_set0_4 ctA_set1_4 ctA_suc4 ctA_set5 ctA_set0_5 ctA_set1_5 ctA_suc5 ctA_set6 ctA_set7 ctA_set8 ctA_set9 ctA_set0_9 ctA_set1_9 ctA_suc9 ctA_set10 ctA_set11 ctA_set12 ctA_set0_12 ctA_set1_12 ctA_suc12 ctA_set13 ctA_set14 ctA_set15 ctA_set16 ctA_set0_16 ctA_set1_16 ctA_suc16 ctA_set17 ctA_set0_17 ctA_set1_17 ctA_suc17 ctA_set18 ctA_set0_18 ctA_set1_18 ctA_suc18 ctA_set19 ctA_set20 ctA_set21 ctA_set0_21 ctA_set1_21 ctA_suc21 ctA_set22 mA_set0 mA_set0_0 mA_set1_0 mA_suc0 mA_set1 mA_set0_1 mA_set1_1 mA_suc1 mA_set2 mA_set3 mA_set0_3 mA_set1_3 mA_suc3 mA_set4 mA_set0_4 mA_set1_4 mA_suc4 mA_set5 mA_set0_5 mA_set1_5 mA_set1000000000_5 mA_suc5 mA_set6 mA_set7 mA_set8 mA_set9 mA_set0_9 mA_set1_9 mA_suc9 mA_set10 mA_set11 mA_set12 mA_set0_12 mA_set1_12 mA_suc12 mA_set13 mA_set14 mA_set15 mA_set16 mA_set0_16 mA_set1_16 mA_suc16 mA_set17 mA_set0_17 mA_set1_17 mA_set48_17 mA_suc17 mA_set18 mA_set0_18 mA_set1_18 mA_suc18 mA_set19 mA_set20 mA_set21 mA_set0_21 mA_set1_21 mA_suc21 mA_set22 evA_set0 evA_set0_0 evA_set1_0 evA_set2_0 evA_set3_0 evA_set4_0 evA_suc0 evA_set1 evA_set0_1 evA_set1_1 evA_suc1 evA_set2 evA_set3 evA_set4 evA_set0_4 evA_set1_4 evA_suc4 evA_set5 evA_set6 evA_set0_6 evA_set1_6 evA_set14_6 evA_suc6 mA_set23 mA_set0_23 mA_set1_23 mA_set2_23 mA_set3_23 mA_set4_23 mA_suc23 mA_set24 mA_set0_24 mA_set1_24 mA_suc24 mA_set25 mA_set26 mA_set27 mA_set0_27 mA_set1_27 mA_suc27 mA_set28 mA_set29 mA_set0_29 mA_set1_29 mA_suc29
attribute [local go_sem ↓] ld_fr st_fr
attribute [local go_sem] ldFr_at stFr_at ldp_fr ldp_ctf ldp_evf stp_fr zero_fr frA_0 frA_1 frA_2 frA_3 frA_4 frA_set4 neq_fr eql_fr
attribute [local go_sem ↓] eql_fr neq_fr
set_option maxRecDepth 100000 in
set_option maxHeartbeats 4000000 in
theorem loses_no1 (f g f1 g1 : FX) (w : World) (hf1 : f.cut = f1) (hg1 : g.cut = g1) (hm : f1.may = false) : Calls Tryz.prog 5 #[.agg (frA f), .agg (frA g)] w fun e w' => e = .returned (.bool true) ∧ Below w.heap.size w w' := by
  have CF := Lib.hid (fun w => few7 f w)
  rw [hf1] at CF
  have CG := Lib.hid (fun w => few7 g w)
  rw [hg1] at CG
  have CA := Lib.hid (fun w => alive7 w)
  have CR := Lib.hid (fun w => refr7_no hm w)
  clear hm
  clear hf1 hg1
  go_enter Tryz.func5, Tryz.ntmps5
  have hK0 : Kept w [(w.heap.size, frA f), (w.heap.size + 1, frA g)] ((w.alloc (.cells (frA f) 24)).alloc (.cells (frA g) 24)) := by
    have h2 := ((Kept.nil w).new (frA f) 24 w.heap.size rfl).new (frA g) 24 (w.heap.size + 1) (by simp)
    exact Kept.cons (Kept.cons (Kept.mk0 h2.2) h2.head) h2.tail.head
  go_upto_region 1 with fail
  generalize (w.alloc (.cells (frA f) 24)).alloc (.cells (frA g) 24) = W0 at *
  go_cut [4] from 19 to 22 (fun a wc => a = .bool false ∧ Kept w [(w.heap.size, frA f1), (w.heap.size + 1, frA g1)] wc)
  case first =>
    have r0 := hK0.head
    have r1 := hK0.tail.head
    have l0 := rowAt_lt r0
    have l1 := rowAt_lt r1
    have n01 : ¬ w.heap.size = w.heap.size + 1 := by omega
    have n10 : ¬ w.heap.size + 1 = w.heap.size := by omega
    have hK := hK0
    clear hK0
    go_region_with (first
      | (go_at_call 8; (with_reducible refine (CF.out _).mono ?_); rintro e w1 ⟨rfl, hbw1⟩; have hK := (by first | (with_reducible assumption) | (with_reducible refine Kept.drew ?_; with_reducible assumption) : Kept w [(w.heap.size, frA f), (w.heap.size + 1, frA g)] _).keep hbw1; have r0 := hK.head; have r1 := hK.tail.head; have l0 := rowAt_lt r0; have l1 := rowAt_lt r1)
      | (go_at_call 8; (with_reducible refine (CG.out _).mono ?_); rintro e w2 ⟨rfl, hbw2⟩; have hK := (by first | (with_reducible assumption) | (with_reducible refine Kept.drew ?_; with_reducible assumption) : Kept w [(w.heap.size, frA f), (w.heap.size + 1, frA g)] _).keep hbw2; have r0 := hK.head; have r1 := hK.tail.head; have l0 := rowAt_lt r0; have l1 := rowAt_lt r1))
    all_goals
      go_wp2
      go_meet
      case rel =>
        have h1 := hK.set (frA f1) (Nat.le_refl _) (by simp)
        have h2 := h1.tail.set (frA g1) (by omega) (by simp)
        exact ⟨rfl, h2.cons ((rowAt_setRow_other _ _ _ _ (by omega : w.heap.size ≠ w.heap.size + 1)).trans h1.head)⟩
  obtain ⟨rfl, hK⟩ := hcut
  clear hK0 CF CG
  have r0 := hK.head
  have r1 := hK.tail.head
  have l0 := rowAt_lt r0
  have l1 := rowAt_lt r1
  have hB := hK.2
  have hzB := hB.size
  go_wp2_with (first
    | (go_at_call 9; (with_reducible refine (CR.out _).mono ?_); rintro e w3 ⟨rfl, hbw3⟩; have hK := hK.keep hbw3; have r0 := hK.head; have r1 := hK.tail.head; have l0 := rowAt_lt r0; have l1 := rowAt_lt r1; have hB := hK.2; have hzB := hB.size)
    | (go_at_call 10; (with_reducible refine (CA.out _).mono ?_); rintro e w9 ⟨rfl, hbw9⟩; have hB := hB.trans (hbw9.mono hzB)))
  go_ret
  exact ⟨rfl, by (repeat (first | (with_reducible assumption) | (with_reducible exact Below.refl _ _) | (with_reducible refine Below.drew ?_) | ((with_reducible refine Below.setCell ?_ ?_ _); rotate_left; (focus (first | omega | (simp; done) | (simp; omega)))) | ((with_reducible refine below_row ?_ ?_ _); rotate_left; (focus (first | omega | (simp; done) | (simp; omega)))) | ((with_reducible refine Below.alloc ?_ ?_ _); rotate_left; (focus (first | omega | (simp; done) | (simp; omega))))))⟩
set_option maxRecDepth 100000 in
set_option maxHeartbeats 4000000 in
theorem loses_no2 (f g f1 g1 : FX) (w : World) (hf1 : f.cut = f1) (hg1 : g.cut = g1) (hm : f1.may = true) (hm2 : g1.may = false) : Calls Tryz.prog 5 #[.agg (frA f), .agg (frA g)] w fun e w' => e = .returned (.bool true) ∧ Below w.heap.size w w' := by
  have CF := Lib.hid (fun w => few7 f w)
  rw [hf1] at CF
  have CG := Lib.hid (fun w => few7 g w)
  rw [hg1] at CG
  have CA := Lib.hid (fun w => alive7 w)
  have CR := Lib.hid (show ∀ w, Calls Tryz.prog 9 #[.agg (frA f1)] w (fun e w' => e = .returned (.bool true) ∧ Below w.heap.size w w') from fun w => hm ▸ refr7 f1 w)
  have CR2 := Lib.hid (fun w => refr7_no hm2 w)
  clear hm hm2
  clear hf1 hg1
  go_enter Tryz.func5, Tryz.ntmps5
  have hK0 : Kept w [(w.heap.size, frA f), (w.heap.size + 1, frA g)] ((w.alloc (.cells (frA f) 24)).alloc (.cells (frA g) 24)) := by
    have h2 := ((Kept.nil w).new (frA f) 24 w.heap.size rfl).new (frA g) 24 (w.heap.size + 1) (by simp)
    exact Kept.cons (Kept.cons (Kept.mk0 h2.2) h2.head) h2.tail.head
  go_upto_region 1 with fail
  generalize (w.alloc (.cells (frA f) 24)).alloc (.cells (frA g) 24) = W0 at *
  go_cut [4] from 19 to 22 (fun a wc => a = .bool false ∧ Kept w [(w.heap.size, frA f1), (w.heap.size + 1, frA g1)] wc)
  case first =>
    have r0 := hK0.head
    have r1 := hK0.tail.head
    have l0 := rowAt_lt r0
    have l1 := rowAt_lt r1
    have n01 : ¬ w.heap.size = w.heap.size + 1 := by omega
    have n10 : ¬ w.heap.size + 1 = w.heap.size := by omega
    have hK := hK0
    clear hK0
    go_region_with (first
      | (go_at_call 8; (with_reducible refine (CF.out _).mono ?_); rintro e w1 ⟨rfl, hbw1⟩; have hK := (by first | (with_reducible assumption) | (with_reducible refine Kept.drew ?_; with_reducible assumption) : Kept w [(w.heap.size, frA f), (w.heap.size + 1, frA g)] _).keep hbw1; have r0 := hK.head; have r1 := hK.tail.head; have l0 := rowAt_lt r0; have l1 := rowAt_lt r1)
      | (go_at_call 8; (with_reducible refine (CG.out _).mono ?_); rintro e w2 ⟨rfl, hbw2⟩; have hK := (by first | (with_reducible assumption) | (with_reducible refine Kept.drew ?_; with_reducible assumption) : Kept w [(w.heap.size, frA f), (w.heap.size + 1, frA g)] _).keep hbw2; have r0 := hK.head; have r1 := hK.tail.head; have l0 := rowAt_lt r0; have l1 := rowAt_lt r1))
    all_goals
      go_wp2
      go_meet
      case rel =>
        have h1 := hK.set (frA f1) (Nat.le_refl _) (by simp)
        have h2 := h1.tail.set (frA g1) (by omega) (by simp)
        exact ⟨rfl, h2.cons ((rowAt_setRow_other _ _ _ _ (by omega : w.heap.size ≠ w.heap.size + 1)).trans h1.head)⟩
  obtain ⟨rfl, hK⟩ := hcut
  clear hK0 CF CG
  have r0 := hK.head
  have r1 := hK.tail.head
  have l0 := rowAt_lt r0
  have l1 := rowAt_lt r1
  have hB := hK.2
  have hzB := hB.size
  go_wp2_with (first
    | (go_at_call 9; (with_reducible refine (CR.out _).mono ?_); rintro e w3 ⟨rfl, hbw3⟩; have hK := hK.keep hbw3; have r0 := hK.head; have r1 := hK.tail.head; have l0 := rowAt_lt r0; have l1 := rowAt_lt r1; have hB := hK.2; have hzB := hB.size)
    | (go_at_call 9; (with_reducible refine (CR2.out _).mono ?_); rintro e w4 ⟨rfl, hbw4⟩; have hK := hK.keep hbw4; have r0 := hK.head; have r1 := hK.tail.head; have l0 := rowAt_lt r0; have l1 := rowAt_lt r1; have hB := hK.2; have hzB := hB.size)
    | (go_at_call 10; (with_reducible refine (CA.out _).mono ?_); rintro e w9 ⟨rfl, hbw9⟩; have hB := hB.trans (hbw9.mono hzB)))
  go_ret
  exact ⟨rfl, by (repeat (first | (with_reducible assumption) | (with_reducible exact Below.refl _ _) | (with_reducible refine Below.drew ?_) | ((with_reducible refine Below.setCell ?_ ?_ _); rotate_left; (focus (first | omega | (simp; done) | (simp; omega)))) | ((with_reducible refine below_row ?_ ?_ _); rotate_left; (focus (first | omega | (simp; done) | (simp; omega)))) | ((with_reducible refine Below.alloc ?_ ?_ _); rotate_left; (focus (first | omega | (simp; done) | (simp; omega))))))⟩
set_option maxRecDepth 100000 in
set_option maxHeartbeats 4000000 in
theorem loses_no3 (f g f1 g1 : FX) (w : World) (hf1 : f.cut = f1) (hg1 : g.cut = g1) (hm : f1.may = true) (hm2 : g1.may = true) (hl : g1.less f1 = false) : Calls Tryz.prog 5 #[.agg (frA f), .agg (frA g)] w fun e w' => e = .returned (.bool true) ∧ Below w.heap.size w w' := by
  have CF := Lib.hid (fun w => few7 f w)
  rw [hf1] at CF
  have CG := Lib.hid (fun w => few7 g w)
  rw [hg1] at CG
  have CA := Lib.hid (fun w => alive7 w)
  have CR := Lib.hid (show ∀ w, Calls Tryz.prog 9 #[.agg (frA f1)] w (fun e w' => e = .returned (.bool true) ∧ Below w.heap.size w w') from fun w => hm ▸ refr7 f1 w)
  have CR2 := Lib.hid (show ∀ w, Calls Tryz.prog 9 #[.agg (frA g1)] w (fun e w' => e = .returned (.bool true) ∧ Below w.heap.size w w') from fun w => hm2 ▸ refr7 g1 w)
  have CL := Lib.hid (show ∀ w, Calls Tryz.prog 17 #[.agg (frA g1), .agg (frA f1)] w (fun e w' => e = .returned (.bool false) ∧ Below w.heap.size w w') from fun w => hl ▸ refless_any g1 f1 w hm2 hm)
  clear hm hm2 hl
  clear hf1 hg1
  go_enter Tryz.func5, Tryz.ntmps5
  have hK0 : Kept w [(w.heap.size, frA f), (w.heap.size + 1, frA g)] ((w.alloc (.cells (frA f) 24)).alloc (.cells (frA g) 24)) := by
    have h2 := ((Kept.nil w).new (frA f) 24 w.heap.size rfl).new (frA g) 24 (w.heap.size + 1) (by simp)
    exact Kept.cons (Kept.cons (Kept.mk0 h2.2) h2.head) h2.tail.head
  go_upto_region 1 with fail
  generalize (w.alloc (.cells (frA f) 24)).alloc (.cells (frA g) 24) = W0 at *
  go_cut [4] from 19 to 22 (fun a wc => a = .bool false ∧ Kept w [(w.heap.size, frA f1), (w.heap.size + 1, frA g1)] wc)
  case first =>
    have r0 := hK0.head
    have r1 := hK0.tail.head
    have l0 := rowAt_lt r0
    have l1 := rowAt_lt r1
    have n01 : ¬ w.heap.size = w.heap.size + 1 := by omega
    have n10 : ¬ w.heap.size + 1 = w.heap.size := by omega
    have hK := hK0
    clear hK0
    go_region_with (first
      | (go_at_call 8; (with_reducible refine (CF.out _).mono ?_); rintro e w1 ⟨rfl, hbw1⟩; have hK := (by first | (with_reducible assumption) | (with_reducible refine Kept.drew ?_; with_reducible assumption) : Kept w [(w.heap.size, frA f), (w.heap.size + 1, frA g)] _).keep hbw1; have r0 := hK.head; have r1 := hK.tail.head; have l0 := rowAt_lt r0; have l1 := rowAt_lt r1)
      | (go_at_call 8; (with_reducible refine (CG.out _).mono ?_); rintro e w2 ⟨rfl, hbw2⟩; have hK := (by first | (with_reducible assumption) | (with_reducible refine Kept.drew ?_; with_reducible assumption) : Kept w [(w.heap.size, frA f), (w.heap.size + 1, frA g)] _).keep hbw2; have r0 := hK.head; have r1 := hK.tail.head; have l0 := rowAt_lt r0; have l1 := rowAt_lt r1))
    all_goals
      go_wp2
      go_meet
      case rel =>
        have h1 := hK.set (frA f1) (Nat.le_refl _) (by simp)
        have h2 := h1.tail.set (frA g1) (by omega) (by simp)
        exact ⟨rfl, h2.cons ((rowAt_setRow_other _ _ _ _ (by omega : w.heap.size ≠ w.heap.size + 1)).trans h1.head)⟩
  obtain ⟨rfl, hK⟩ := hcut
  clear hK0 CF CG
  have r0 := hK.head
  have r1 := hK.tail.head
  have l0 := rowAt_lt r0
  have l1 := rowAt_lt r1
  have hB := hK.2
  have hzB := hB.size
  go_wp2_with (first
    | (go_at_call 9; (with_reducible refine (CR.out _).mono ?_); rintro e w3 ⟨rfl, hbw3⟩; have hK := hK.keep hbw3; have r0 := hK.head; have r1 := hK.tail.head; have l0 := rowAt_lt r0; have l1 := rowAt_lt r1; have hB := hK.2; have hzB := hB.size)
    | (go_at_call 9; (with_reducible refine (CR2.out _).mono ?_); rintro e w4 ⟨rfl, hbw4⟩; have hK := hK.keep hbw4; have r0 := hK.head; have r1 := hK.tail.head; have l0 := rowAt_lt r0; have l1 := rowAt_lt r1; have hB := hK.2; have hzB := hB.size)
    | (go_at_call 17; (with_reducible refine (CL.out _).mono ?_); rintro e w5 ⟨rfl, hbw5⟩; have hK := hK.keep hbw5; have r0 := hK.head; have r1 := hK.tail.head; have l0 := rowAt_lt r0; have l1 := rowAt_lt r1; have hB := hK.2; have hzB := hB.size)
    | (go_at_call 10; (with_reducible refine (CA.out _).mono ?_); rintro e w9 ⟨rfl, hbw9⟩; have hB := hB.trans (hbw9.mono hzB)))
  go_ret
  exact ⟨rfl, by (repeat (first | (with_reducible assumption) | (with_reducible exact Below.refl _ _) | (with_reducible refine Below.drew ?_) | ((with_reducible refine Below.setCell ?_ ?_ _); rotate_left; (focus (first | omega | (simp; done) | (simp; omega)))) | ((with_reducible refine below_row ?_ ?_ _); rotate_left; (focus (first | omega | (simp; done) | (simp; omega)))) | ((with_reducible refine Below.alloc ?_ ?_ _); rotate_left; (focus (first | omega | (simp; done) | (simp; omega))))))⟩
end Go.Proofs.YtcaeobkaoebndaaGreat
