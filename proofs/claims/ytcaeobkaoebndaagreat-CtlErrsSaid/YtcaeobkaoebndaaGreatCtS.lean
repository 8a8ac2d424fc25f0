/- Layer 7: mayLose. -/
import Derived.Test.YtcaeobkaoebndaaGreatCtR
namespace Go.Proofs.YtcaeobkaoebndaaGreat
open Go.RowKit Go.Lib
attribute [local go_sem ↓] ld_ct st_ct ld_ev st_ev ld_ma st_ma bd_ma
attribute [local go_sem] ldCt_at stCt_at ldEv_at stEv_at ldMa_at stMa_at bdMa_at ldp_ct ldp_ma ldp_ev ldp_mev stp_ct stp_ma stp_ev stp_mev stp_mm zero_ct zero_ev zero_ma ev_err ev_sent
attribute [local go_sem] rowAt_drew rowAt_drewN rowAt_new rowAt_past rowAt_setRow rowAt_setRow_other rowAt_setCell_other rowAt_setCell_map cell_setRow free_setRow cell_setRow_other free_setRow_other setRow_alloc_at setRow_alloc_past
attribute [local go_sem] ctA_0 ctA_1 ctA_2 ctA_3 ctA_4 ctA_5 ctA_6 ctA_7 ctA_8 ctA_9 ctA_10 ctA_11 ctA_12 ctA_13 ctA_14 ctA_15 ctA_16 ctA_17 ctA_18 ctA_19 ctA_20 ctA_21 ctA_22 evA_0 evA_1 evA_2 evA_3 evA_4 evA_5 evA_6 mA_0 mA_1 mA_2 mA_3 mA_4 mA_5 mA_6 mA_7 mA_8 mA_9 mA_10 mA_11 mA_12 mA_13 mA_14 mA_15 mA_16 mA_17 mA_18 mA_19 mA_20 mA_21 mA_22 mA_23 mA_24 mA_25 mA_26 mA_27 mA_28 mA_29
attribute [local go_sem] ctA_set0 ctA_set0_0 ctA_set1_0 ctA_suc0 ctA_set1 ctA_set0_1 ctA_set1_1 ctA_suc1 ctA_set2 ctA_set3 ctA_set0_3 ctA_set1_3 ctA_suc3 ctA_set4 ctA_set0_4 ctA_set1_4 ctA_suc4 ctA_set5 ctA_set0_5 ctA_set1_5 ctA_suc5 ctA_set6 ctA_set7 ctA_set8 ctA_set9 ctA_set0_9 ctA_set1_9 ctA_suc9 ctA_set10 ctA_set11 ctA_set12 ctA_set0_12 ctA_set1_12 ctA_suc12 ctA_set13 ctA_set14 ctA_set15 ctA_set16 ctA_set0_16 ctA_set1_16 ctA_suc16 ctA_set17 ctA_set0_17 ctA_set1_17 ctA_suc17 ctA_set18 ctA_set0_18 ctA_set1_18 ctA_suc18 ctA_set19 ctA_set20 ctA_set21 ctA_set0_21 ctA_set1_21 ctA_suc21 ctA_set22 mA_set0 mA_set0_0 mA_set1_0 mA_suc0 mA_set1 mA_set0_1 mA_set1_1 mA_suc1 mA_set2 mA_set3 mA_set0_3 mA_set1_3 mA_suc3 mA_set4 mA_set0_4 mA_set1_4 mA_suc4 mA_set5 mA_set0_5 mA_set1_5 mA_set1000000000_5 mA_suc5 mA_set6 mA_set7 mA_set8 mA_set9 mA_set0_9 mA_set1_9 mA_suc9 mA_set10 mA_set11 mA_set12 mA_set0_12 mA_set1_12 mA_suc12 mA_set13 mA_set14 mA_set15 mA_set16 mA_set0_16 mA_set1_16 mA_suc16 mA_set17 mA_set0_17 mA_set1_17 mA_set48_17 mA_suc17 mA_set18 mA_set0_18 mA_set1_18 mA_suc18 mA_set19 mA_set20 mA_set21 mA_set0_21 mA_set1_21 mA_suc21 mA_set22 evA_set0 evA_set0_0 evA_set1_0 evA_set2_0 evA_set3_0 evA_set4_0 evA_suc0 evA_set1 evA_set0_1 evA_set1_1 evA_suc1 evA_set2 evA_set3 evA_set4 evA_set0_4 evA_set1_4 evA_suc4 evA_set5 evA_set6 evA_set0_6 evA_set1_6 evA_set14_6 evA_suc6 mA_set23 mA_set0_23 mA_set1_23 mA_set2_23 mA_set3_23 mA_set4_23 mA_suc23 mA_set24 mA_set0_24 mA_set1_24 mA_suc24 mA_set25 mA_set26 mA_set27 mA_set0_27 mA_set1_27 mA_suc27 mA_set28 mA_set29 mA_set0_29 mA_set1_29 mA_suc29
attribute [local go_sem] bareC_cnt bareC_state bareC_n bareC_was bareC_hard bareC_has bareC_fr bareC_sends bareC_out bareC_at_ bareC_st bareC_got bareC_fin bareC_tail bareC_good
theorem bel_drewN {g : Nat} {w w1 : World} (h : Below g w w1) (n : Nat) : Below g w (w1.drewN n) := ⟨h.os, h.tape, h.output, h.size, h.block⟩
set_option maxRecDepth 100000 in
set_option maxHeartbeats 1000000 in
theorem maylose_b (c : B.Cs) (v : B.Ev) (g : Nat) (w : World) (hR : rowAt w g = some (mA c v)) (hf : B.FrR c.fr) (hlt : c.at_ < c.out.length) (hx : c.out[c.at_] = 49) (hq : B.flen c.fr < c.got.length) :
    Calls Tryz.prog 92 #[.pointer (some ⟨g, 0, none⟩)] w fun e w' => e = .returned (.bool false) ∧ (rowAt w' g = some (mA c v) ∧ Below g w w') := by
  have CF := Lib.hid (fun w => field7 hf w)
  have hfl := field_len c.fr
  have hfl2 : B.flen c.fr ≤ 32 := by unfold B.flen; split <;> omega
  obtain ⟨F, hF⟩ : ∃ F, F = B.flen c.fr := ⟨_, rfl⟩
  rw [← hF] at hfl hfl2 hq
  clear hF hf
  obtain ⟨y, hy⟩ : ∃ y, y = (strB c.out)[c.at_]'(by rw [strB_size]; exact hlt) := ⟨_, rfl⟩
  have i0 : (0 : Int) ≤ ((c.at_ : Nat) : Int) := by omega
  have i1 : ((c.at_ : Nat) : Int) < ((c.out.length : Nat) : Int) := by omega
  have hy2 : (y.toNat : Int) = 49 := by rw [hy, strB_at, hx]; rfl
  clear hx
  replace hy := hy.symm
  have z1 : decide (((c.got.length : Nat) : Int) ≤ (F : Int)) = false := by rw [decide_eq_false_iff_not]; omega
  have z2 : decide (c.got.length ≤ F) = false := by rw [decide_eq_false_iff_not]; omega
  have q0 := rowAt_cell hR
  have f0 := rowAt_free hR
  have hl := rowAt_lt hR
  go_enter Tryz.func92, Tryz.ntmps92
  go_wp2_with (first
    | (go_at_call 107; (with_reducible refine (CF.out _).mono ?_); rintro e w1 ⟨rfl, hbw1⟩; have hRw1 := (rowAt_below hbw1 g hl).trans hR; have hGw1 : Below g w w1 := hbw1.mono (Nat.le_of_lt hl); have hlw1 := rowAt_lt hRw1; have qw1 := rowAt_cell hRw1; have fw1 := rowAt_free hRw1; clear hbw1))
  go_quiet (fail)
  go_wp2
  go_ret
  exact ⟨rfl, hRw1, bel_drewN hGw1 _⟩
set_option maxRecDepth 100000 in
set_option maxHeartbeats 1000000 in
theorem maylose_c (c : B.Cs) (v : B.Ev) (g : Nat) (w : World) (hR : rowAt w g = some (mA c v)) (hf : B.FrR c.fr) (hlt : c.at_ < c.out.length) (hx : c.out[c.at_] = 49) (hq : c.got.length ≤ B.flen c.fr) :
    Calls Tryz.prog 92 #[.pointer (some ⟨g, 0, none⟩)] w fun e w' => e = .returned (.bool (decide (c.st.2 < 5))) ∧ (rowAt w' g = some (mA c v) ∧ Below g w w') := by
  have CF := Lib.hid (fun w => field7 hf w)
  have hfl := field_len c.fr
  have hfl2 : B.flen c.fr ≤ 32 := by unfold B.flen; split <;> omega
  obtain ⟨F, hF⟩ : ∃ F, F = B.flen c.fr := ⟨_, rfl⟩
  rw [← hF] at hfl hfl2 hq
  clear hF hf
  obtain ⟨y, hy⟩ : ∃ y, y = (strB c.out)[c.at_]'(by rw [strB_size]; exact hlt) := ⟨_, rfl⟩
  have i0 : (0 : Int) ≤ ((c.at_ : Nat) : Int) := by omega
  have i1 : ((c.at_ : Nat) : Int) < ((c.out.length : Nat) : Int) := by omega
  have hy2 : (y.toNat : Int) = 49 := by rw [hy, strB_at, hx]; rfl
  clear hx
  replace hy := hy.symm
  have z1 : decide (((c.got.length : Nat) : Int) ≤ (F : Int)) = true := by rw [decide_eq_true_eq]; omega
  have z2 : decide (c.got.length ≤ F) = true := by rw [decide_eq_true_eq]; omega
  have q0 := rowAt_cell hR
  have f0 := rowAt_free hR
  have hl := rowAt_lt hR
  go_enter Tryz.func92, Tryz.ntmps92
  go_wp2_with (first
    | (go_at_call 107; (with_reducible refine (CF.out _).mono ?_); rintro e w1 ⟨rfl, hbw1⟩; have hRw1 := (rowAt_below hbw1 g hl).trans hR; have hGw1 : Below g w w1 := hbw1.mono (Nat.le_of_lt hl); have hlw1 := rowAt_lt hRw1; have qw1 := rowAt_cell hRw1; have fw1 := rowAt_free hRw1; clear hbw1))
  go_quiet (fail)
  go_wp2
  go_ret
  exact ⟨ret_bool (by rw [Bool.eq_iff_iff, decide_eq_true_eq, decide_eq_true_eq]; omega), hRw1, bel_drewN hGw1 _⟩
set_option maxRecDepth 100000 in
set_option maxHeartbeats 1000000 in
theorem maylose_a (c : B.Cs) (v : B.Ev) (g : Nat) (w : World) (hR : rowAt w g = some (mA c v)) (hf : B.FrR c.fr) (hlt : c.at_ < c.out.length) (hx : c.out[c.at_] = 48) :
    Calls Tryz.prog 92 #[.pointer (some ⟨g, 0, none⟩)] w fun e w' => e = .returned (.bool false) ∧ (rowAt w' g = some (mA c v) ∧ Below g w w') := by
  have CF := Lib.hid (fun w => field7 hf w)
  have hfl := field_len c.fr
  have hfl2 : B.flen c.fr ≤ 32 := by unfold B.flen; split <;> omega
  obtain ⟨F, hF⟩ : ∃ F, F = B.flen c.fr := ⟨_, rfl⟩
  rw [← hF] at hfl hfl2 
  clear hF hf
  obtain ⟨y, hy⟩ : ∃ y, y = (strB c.out)[c.at_]'(by rw [strB_size]; exact hlt) := ⟨_, rfl⟩
  have i0 : (0 : Int) ≤ ((c.at_ : Nat) : Int) := by omega
  have i1 : ((c.at_ : Nat) : Int) < ((c.out.length : Nat) : Int) := by omega
  have hy2 : (y.toNat : Int) = 48 := by rw [hy, strB_at, hx]; rfl
  clear hx
  replace hy := hy.symm
  have q0 := rowAt_cell hR
  have f0 := rowAt_free hR
  have hl := rowAt_lt hR
  go_enter Tryz.func92, Tryz.ntmps92
  go_wp2_with (first
    | (go_at_call 107; (with_reducible refine (CF.out _).mono ?_); rintro e w1 ⟨rfl, hbw1⟩; have hRw1 := (rowAt_below hbw1 g hl).trans hR; have hGw1 : Below g w w1 := hbw1.mono (Nat.le_of_lt hl); have hlw1 := rowAt_lt hRw1; have qw1 := rowAt_cell hRw1; have fw1 := rowAt_free hRw1; clear hbw1))
  go_quiet (fail)
  go_wp2
  go_ret
  exact ⟨rfl, hRw1, bel_drewN hGw1 _⟩
theorem maylose_any (c : B.Cs) (v : B.Ev) (g : Nat) (w : World) (hR : rowAt w g = some (mA c v)) (hf : B.FrR c.fr) (hlt : c.at_ < c.out.length) (hb : c.out[c.at_] = 48 ∨ c.out[c.at_] = 49) :
    Calls Tryz.prog 92 #[.pointer (some ⟨g, 0, none⟩)] w fun e w' => e = .returned (.bool (decide (c.out[c.at_] = 49 ∧ c.got.length ≤ B.flen c.fr ∧ c.st.2 < 5))) ∧ (rowAt w' g = some (mA c v) ∧ Below g w w') := by
  rcases hb with hx | hx
  · simpa [hx] using maylose_a c v g w hR hf hlt hx
  · by_cases hq : c.got.length ≤ B.flen c.fr
    · simpa [hx, hq] using maylose_c c v g w hR hf hlt hx hq
    · simpa [hx, hq] using maylose_b c v g w hR hf hlt hx (by omega)
end Go.Proofs.YtcaeobkaoebndaaGreat
