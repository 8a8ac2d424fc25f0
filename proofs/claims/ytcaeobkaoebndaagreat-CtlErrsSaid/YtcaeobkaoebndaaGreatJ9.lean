/- Own texts joined: CtM CtN. -/
import Derived.Test.YtcaeobkaoebndaaGreatCtMw
import Derived.Test.YtcaeobkaoebndaaGreatCn2
/- CtM -/
namespace Go.Proofs.YtcaeobkaoebndaaGreat
open Go.RowKit Go.Lib
attribute [local go_sem ↓] ld_ct st_ct ld_ev st_ev ld_ma st_ma bd_ma
attribute [local go_sem] ldCt_at stCt_at ldEv_at stEv_at ldMa_at stMa_at bdMa_at ldp_ct ldp_ma ldp_ev ldp_mev stp_ct stp_ma stp_ev stp_mev stp_mm zero_ct zero_ev zero_ma ev_err ev_sent
attribute [local go_sem] rowAt_drew rowAt_drewN rowAt_new rowAt_past rowAt_setRow rowAt_setRow_other rowAt_setCell_other rowAt_setCell_map cell_setRow free_setRow cell_setRow_other free_setRow_other setRow_alloc_at setRow_alloc_past
attribute [local go_sem] ctA_0 ctA_1 ctA_2 ctA_3 ctA_4 ctA_5 ctA_6 ctA_7 ctA_8 ctA_9 ctA_10 ctA_11 ctA_12 ctA_13 ctA_14 ctA_15 ctA_16 ctA_17 ctA_18 ctA_19 ctA_20 ctA_21 ctA_22 evA_0 evA_1 evA_2 evA_3 evA_4 evA_5 evA_6 mA_0 mA_1 mA_2 mA_3 mA_4 mA_5 mA_6 mA_7 mA_8 mA_9 mA_10 mA_11 mA_12 mA_13 mA_14 mA_15 mA_16 mA_17 mA_18 mA_19 mA_20 mA_21 mA_22 mA_23 mA_24 mA_25 mA_26 mA_27 mA_28 mA_29
attribute [local go_sem] ctA_set0 ctA_set0_0 ctA_set1_0 ctA_suc0 ctA_set1 ctA_set0_1 ctA_set1_1 ctA_suc1 ctA_set2 ctA_set3 ctA_set0_3 ctA_set1_3 ctA_suc3 ctA_set4 ctA_set0_4 ctA_set1_4 ctA_suc4 ctA_set5 ctA_set0_5 ctA_set1_5 ctA_suc5 ctA_set6 ctA_set7 ctA_set8 ctA_set9 ctA_set0_9 ctA_set1_9 ctA_suc9 ctA_set10 ctA_set11 ctA_set12 ctA_set0_12 ctA_set1_12 ctA_suc12 ctA_set13 ctA_set14 ctA_set15 ctA_set16 ctA_set0_16 ctA_set1_16 ctA_suc16 ctA_set17 ctA_set0_17 ctA_set1_17 ctA_suc17 ctA_set18 ctA_set0_18 ctA_set1_18 ctA_suc18 ctA_set19 ctA_set20 ctA_set21 ctA_set0_21 ctA_set1_21 ctA_suc21 ctA_set22 mA_set0 mA_set0_0 mA_set1_0 mA_suc0 mA_set1 mA_set0_1 mA_set1_1 mA_suc1 mA_set2 mA_set3 mA_set0_3 mA_set1_3 mA_suc3 mA_set4 mA_set0_4 mA_set1_4 mA_suc4 mA_set5 mA_set0_5 mA_set1_5 mA_set1000000000_5 mA_suc5 mA_set6 mA_set7 mA_set8 mA_set9 mA_set0_9 mA_set1_9 mA_suc9 mA_set10 mA_set11 mA_set12 mA_set0_12 mA_set1_12 mA_suc12 mA_set13 mA_set14 mA_set15 mA_set16 mA_set0_16 mA_set1_16 mA_suc16 mA_set17 mA_set0_17 mA_set1_17 mA_set48_17 mA_suc17 mA_set18 mA_set0_18 mA_set1_18 mA_suc18 mA_set19 mA_set20 mA_set21 mA_set0_21 mA_set1_21 mA_suc21 mA_set22 evA_set0 evA_set0_0 evA_set1_0 evA_set2_0 evA_set3_0 evA_set4_0 evA_suc0 evA_set1 evA_set0_1 evA_set1_1 evA_suc1 evA_set2 evA_set3 evA_set4 evA_set0_4 evA_set1_4 evA_suc4 evA_set5 evA_set6 evA_set0_6 evA_set1_6 evA_set14_6 evA_suc6 mA_set23 mA_set0_23 mA_set1_23 mA_set2_23 mA_set3_23 mA_set4_23 mA_suc23 mA_set24 mA_set0_24 mA_set1_24 mA_suc24 mA_set25 mA_set26 mA_set27 mA_set0_27 mA_set1_27 mA_suc27 mA_set28 mA_set29 mA_set0_29 mA_set1_29 mA_suc29

theorem cstep7 {k : B.Cn} (h : k.may) (n : Int) (j : Nat) (hn : n = j) (hj : 1 ≤ j ∧ j ≤ 7) (w : World) : Calls Tryz.prog 97 #[.agg (cnC4 k), .int .i64 n] w fun e w' => e = .returned (.tuple #[.agg (cnC4 (k.step j)), .int .i64 0]) ∧ Below w.heap.size w w' := by
  obtain ⟨t, r, o, m⟩ := k
  subst hn
  unfold B.Cn.may at h
  simp only at h
  rcases h with ⟨rfl, h1, h2, rfl⟩ | ⟨rfl, rfl, rfl, h1, h2⟩
  · rcases (by omega : j = 1 ∨ j = 2 ∨ j = 3 ∨ j = 4 ∨ j = 5 ∨ j = 6 ∨ j = 7) with rfl | rfl | rfl | rfl | rfl | rfl | rfl
    · cases t with
      | zero => exact (step_sent0 r w h2).mono fun e w' ⟨he, hb⟩ => ⟨he, hb⟩
      | succ t => exact (step_sent1 t r w h1 h2).mono fun e w' ⟨he, hb⟩ => ⟨he, hb⟩
    · by_cases hr : 127 < r
      · refine (step_camehi t r w h1 h2 hr).mono fun e w' ⟨he, hb⟩ => ⟨he.trans ?_, hb⟩
        simp [B.Cn.step, cnC4, hr]
      · cases r with
        | zero => exact (step_came0 t w h1).mono fun e w' ⟨he, hb⟩ => ⟨he, hb⟩
        | succ r =>
          refine (step_came1 t r w h1 (by omega)).mono fun e w' ⟨he, hb⟩ => ⟨he.trans ?_, hb⟩
          simp [B.Cn.step, cnC4, hr]
    · by_cases hx : 255 < t + 8
      · refine (step_err3hi t r w h1 hx h2).mono fun e w' ⟨he, hb⟩ => ⟨he.trans ?_, hb⟩
        have hm : min (t + 8) 255 = 255 := by omega
        simp [B.Cn.step, cnC4, hx]
      · refine (step_err3lo t r w (by omega) h2).mono fun e w' ⟨he, hb⟩ => ⟨he.trans ?_, hb⟩
        have hm : min (t + 8) 255 = t + 8 := by omega
        simp [B.Cn.step, cnC4, hx]
    · by_cases hx : 255 < r + 1
      · refine (step_come4hi t r w h1 h2 hx).mono fun e w' ⟨he, hb⟩ => ⟨he.trans ?_, hb⟩
        have hm : min (r + 1) 255 = 255 := by omega
        simp [B.Cn.step, cnC4, hm]
      · refine (step_come4lo t r w h1 (by omega)).mono fun e w' ⟨he, hb⟩ => ⟨he.trans ?_, hb⟩
        have hm : min (r + 1) 255 = r + 1 := by omega
        simp [B.Cn.step, cnC4, hm]
    · by_cases hx : 255 < t + 8
      · refine (step_err5hi t r w h1 hx h2).mono fun e w' ⟨he, hb⟩ => ⟨he.trans ?_, hb⟩
        have hm : min (t + 8) 255 = 255 := by omega
        simp [B.Cn.step, cnC4, hx]
      · refine (step_err5lo t r w (by omega) h2).mono fun e w' ⟨he, hb⟩ => ⟨he.trans ?_, hb⟩
        have hm : min (t + 8) 255 = t + 8 := by omega
        simp [B.Cn.step, cnC4, hx]
    · by_cases hx : 255 < r + 8
      · refine (step_come6hi t r w h1 h2 hx).mono fun e w' ⟨he, hb⟩ => ⟨he.trans ?_, hb⟩
        have hm : min (r + 8) 255 = 255 := by omega
        simp [B.Cn.step, cnC4, hm]
      · refine (step_come6lo t r w h1 (by omega)).mono fun e w' ⟨he, hb⟩ => ⟨he.trans ?_, hb⟩
        have hm : min (r + 8) 255 = r + 8 := by omega
        simp [B.Cn.step, cnC4, hm]
    · exact (step_reston t r w h1 h2).mono fun e w' ⟨he, hb⟩ => ⟨he, hb⟩
  · rcases (by omega : j = 1 ∨ j = 2 ∨ j = 3 ∨ j = 4 ∨ j = 5 ∨ j = 6 ∨ j = 7) with rfl | rfl | rfl | rfl | rfl | rfl | rfl
    · exact (step_off1 m w h1 h2).mono fun e w' ⟨he, hb⟩ => ⟨he, hb⟩
    · exact (step_off2 m w h1 h2).mono fun e w' ⟨he, hb⟩ => ⟨he, hb⟩
    · exact (step_off3 m w h1 h2).mono fun e w' ⟨he, hb⟩ => ⟨he, hb⟩
    · exact (step_off4 m w h1 h2).mono fun e w' ⟨he, hb⟩ => ⟨he, hb⟩
    · exact (step_off5 m w h1 h2).mono fun e w' ⟨he, hb⟩ => ⟨he, hb⟩
    · exact (step_off6 m w h1 h2).mono fun e w' ⟨he, hb⟩ => ⟨he, hb⟩
    · by_cases hm : m = 1
      · subst hm
        exact (step_rest1 w).mono fun e w' ⟨he, hb⟩ => ⟨he, hb⟩
      · obtain ⟨q, rfl⟩ : ∃ q, m = q + 1 := ⟨m - 1, by omega⟩
        refine (step_rest2 q w (by omega) (by omega)).mono fun e w' ⟨he, hb⟩ => ⟨he.trans ?_, hb⟩
        have : ¬ q = 0 := by omega
        simp [B.Cn.step, cnC4, this]
theorem cstate7 {k : B.Cn} (h : k.may) (w : World) : Calls Tryz.prog 98 #[.agg (cnC4 k)] w fun e w' => e = .returned (.tuple #[.int .i64 (k.state : Nat), .int .i64 0]) ∧ Below w.heap.size w w' := by
  obtain ⟨t, r, o, m⟩ := k
  unfold B.Cn.may at h
  simp only at h
  rcases h with ⟨rfl, h1, h2, rfl⟩ | ⟨rfl, rfl, rfl, h1, h2⟩
  · refine (cstate_on t r w h1 h2).mono fun e w' ⟨he, hb⟩ => ⟨he.trans ?_, hb⟩
    unfold stateOn B.Cn.state
    rfl
  · exact (cstate_off m w h1 h2).mono fun e w' ⟨he, hb⟩ => ⟨he, hb⟩
set_option maxRecDepth 100000 in
theorem m_count (c : B.Cs) (v : B.Ev) (g : Nat) (n : Int) (j : Nat) (w : World) (hR : rowAt w g = some (mA c v)) (hk : c.cnt.may) (hn : n = j) (hj : 1 ≤ j ∧ j ≤ 7) :
    Calls Tryz.prog 75 #[.pointer (some ⟨g, 0, none⟩), .int .i64 n] w fun e w' => e = .returned (.tuple #[]) ∧ (rowAt w' g = some (mA ({ c with cnt := c.cnt.step j }) (v)) ∧ Below g w w') := by
  have CS := Lib.hid (fun w => cstep7 hk n j hn hj w)
  clear hn hj hk
  have q0 := rowAt_cell hR
  have f0 := rowAt_free hR
  have hl := rowAt_lt hR
  go_enter Tryz.func75, Tryz.ntmps75
  go_wp2_with (first
    | (go_at_call 97; (with_reducible refine (CS.out _).mono ?_); rintro e w1 ⟨rfl, hbw1⟩; have hRw1 := (rowAt_below hbw1 g hl).trans hR; have hGw1 : Below g w w1 := hbw1.mono (Nat.le_of_lt hl); have hlw1 := rowAt_lt hRw1; have qw1 := rowAt_cell hRw1; have fw1 := rowAt_free hRw1; clear hbw1))
  (first | go_end0 | refine bodyPost_ret (results_none Tryz.results75 _ _ _) rfl ?_)
  exact ⟨rfl, by simp [go_sem, hRw1] <;> rfl, by (repeat (first | (with_reducible assumption) | (with_reducible exact Below.refl _ _) | (with_reducible refine Below.drew ?_) | ((with_reducible refine Below.setCell ?_ ?_ _); rotate_left; (focus (first | omega | (simp; done) | (simp; omega)))) | ((with_reducible refine below_row ?_ ?_ _); rotate_left; (focus (first | omega | (simp; done) | (simp; omega)))) | ((with_reducible refine Below.alloc ?_ ?_ _); rotate_left; (focus (first | omega | (simp; done) | (simp; omega))))))⟩
set_option maxRecDepth 100000 in
theorem m_is (c : B.Cs) (v : B.Ev) (g : Nat) (n : Int) (j : Nat) (w : World) (hR : rowAt w g = some (mA c v)) (hk : c.cnt.may) (hn : n = j) :
    Calls Tryz.prog 78 #[.pointer (some ⟨g, 0, none⟩), .int .i64 n] w fun e w' => e = .returned (.bool (decide (c.cnt.state = j))) ∧ (rowAt w' g = some (mA (c) (v)) ∧ Below g w w') := by
  have CS := Lib.hid (fun w => cstate7 hk w)
  have hd : (((c.cnt.state : Nat) : Int) == n) = decide (c.cnt.state = j) := by rw [hn, Bool.eq_iff_iff, beq_iff_eq, decide_eq_true_eq]; omega
  clear hn hk
  have q0 := rowAt_cell hR
  have f0 := rowAt_free hR
  have hl := rowAt_lt hR
  go_enter Tryz.func78, Tryz.ntmps78
  go_wp2_with (first
    | (go_at_call 98; (with_reducible refine (CS.out _).mono ?_); rintro e w1 ⟨rfl, hbw1⟩; have hRw1 := (rowAt_below hbw1 g hl).trans hR; have hGw1 : Below g w w1 := hbw1.mono (Nat.le_of_lt hl); have hlw1 := rowAt_lt hRw1; have qw1 := rowAt_cell hRw1; have fw1 := rowAt_free hRw1; clear hbw1))
  go_ret
  exact ⟨rfl, hRw1, hGw1⟩
end Go.Proofs.YtcaeobkaoebndaaGreat

/- CtN -/
namespace Go.Proofs.YtcaeobkaoebndaaGreat
open Go.RowKit Go.Lib
attribute [local go_sem ↓] ld_ct st_ct ld_ev st_ev ld_ma st_ma bd_ma
attribute [local go_sem] ldCt_at stCt_at ldEv_at stEv_at ldMa_at stMa_at bdMa_at ldp_ct ldp_ma ldp_ev ldp_mev stp_ct stp_ma stp_ev stp_mev stp_mm zero_ct zero_ev zero_ma ev_err ev_sent
attribute [local go_sem] rowAt_drew rowAt_drewN rowAt_new rowAt_past rowAt_setRow rowAt_setRow_other rowAt_setCell_other rowAt_setCell_map cell_setRow free_setRow cell_setRow_other free_setRow_other setRow_alloc_at setRow_alloc_past
attribute [local go_sem] ctA_0 ctA_1 ctA_2 ctA_3 ctA_4 ctA_5 ctA_6 ctA_7 ctA_8 ctA_9 ctA_10 ctA_11 ctA_12 ctA_13 ctA_14 ctA_15 ctA_16 ctA_17 ctA_18 ctA_19 ctA_20 ctA_21 ctA_22 evA_0 evA_1 evA_2 evA_3 evA_4 evA_5 evA_6 mA_0 mA_1 mA_2 mA_3 mA_4 mA_5 mA_6 mA_7 mA_8 mA_9 mA_10 mA_11 mA_12 mA_13 mA_14 mA_15 mA_16 mA_17 mA_18 mA_19 mA_20 mA_21 mA_22 mA_23 mA_24 mA_25 mA_26 mA_27 mA_28 mA_29
attribute [local go_sem] ctA_set0 ctA_set0_0 ctA_set1_0 ctA_suc0 ctA_set1 ctA_set0_1 ctA_set1_1 ctA_suc1 ctA_set2 ctA_set3 ctA_set0_3 ctA_set1_3 ctA_suc3 ctA_set4 ctA_set0_4 ctA_set1_4 ctA_suc4 ctA_set5 ctA_set0_5 ctA_set1_5 ctA_suc5 ctA_set6 ctA_set7 ctA_set8 ctA_set9 ctA_set0_9 ctA_set1_9 ctA_suc9 ctA_set10 ctA_set11 ctA_set12 ctA_set0_12 ctA_set1_12 ctA_suc12 ctA_set13 ctA_set14 ctA_set15 ctA_set16 ctA_set0_16 ctA_set1_16 ctA_suc16 ctA_set17 ctA_set0_17 ctA_set1_17 ctA_suc17 ctA_set18 ctA_set0_18 ctA_set1_18 ctA_suc18 ctA_set19 ctA_set20 ctA_set21 ctA_set0_21 ctA_set1_21 ctA_suc21 ctA_set22 mA_set0 mA_set0_0 mA_set1_0 mA_suc0 mA_set1 mA_set0_1 mA_set1_1 mA_suc1 mA_set2 mA_set3 mA_set0_3 mA_set1_3 mA_suc3 mA_set4 mA_set0_4 mA_set1_4 mA_suc4 mA_set5 mA_set0_5 mA_set1_5 mA_set1000000000_5 mA_suc5 mA_set6 mA_set7 mA_set8 mA_set9 mA_set0_9 mA_set1_9 mA_suc9 mA_set10 mA_set11 mA_set12 mA_set0_12 mA_set1_12 mA_suc12 mA_set13 mA_set14 mA_set15 mA_set16 mA_set0_16 mA_set1_16 mA_suc16 mA_set17 mA_set0_17 mA_set1_17 mA_set48_17 mA_suc17 mA_set18 mA_set0_18 mA_set1_18 mA_suc18 mA_set19 mA_set20 mA_set21 mA_set0_21 mA_set1_21 mA_suc21 mA_set22 evA_set0 evA_set0_0 evA_set1_0 evA_set2_0 evA_set3_0 evA_set4_0 evA_suc0 evA_set1 evA_set0_1 evA_set1_1 evA_suc1 evA_set2 evA_set3 evA_set4 evA_set0_4 evA_set1_4 evA_suc4 evA_set5 evA_set6 evA_set0_6 evA_set1_6 evA_set14_6 evA_suc6 mA_set23 mA_set0_23 mA_set1_23 mA_set2_23 mA_set3_23 mA_set4_23 mA_suc23 mA_set24 mA_set0_24 mA_set1_24 mA_suc24 mA_set25 mA_set26 mA_set27 mA_set0_27 mA_set1_27 mA_suc27 mA_set28 mA_set29 mA_set0_29 mA_set1_29 mA_suc29
theorem bareC_cnt (k : B.Cn) (s n : Nat) (was hard has : Bool) (fr : B.Fr) : (B.bareC k s n was hard has fr).cnt = k := rfl
theorem bareC_state (k : B.Cn) (s n : Nat) (was hard has : Bool) (fr : B.Fr) : (B.bareC k s n was hard has fr).state = s := rfl
theorem bareC_n (k : B.Cn) (s n : Nat) (was hard has : Bool) (fr : B.Fr) : (B.bareC k s n was hard has fr).n = n := rfl
theorem bareC_was (k : B.Cn) (s n : Nat) (was hard has : Bool) (fr : B.Fr) : (B.bareC k s n was hard has fr).was = was := rfl
theorem bareC_hard (k : B.Cn) (s n : Nat) (was hard has : Bool) (fr : B.Fr) : (B.bareC k s n was hard has fr).hard = hard := rfl
theorem bareC_has (k : B.Cn) (s n : Nat) (was hard has : Bool) (fr : B.Fr) : (B.bareC k s n was hard has fr).has = has := rfl
theorem bareC_fr (k : B.Cn) (s n : Nat) (was hard has : Bool) (fr : B.Fr) : (B.bareC k s n was hard has fr).fr = fr := rfl
theorem bareC_sends (k : B.Cn) (s n : Nat) (was hard has : Bool) (fr : B.Fr) : (B.bareC k s n was hard has fr).sends = false := rfl
theorem bareC_out (k : B.Cn) (s n : Nat) (was hard has : Bool) (fr : B.Fr) : (B.bareC k s n was hard has fr).out = [] := rfl
theorem bareC_at_ (k : B.Cn) (s n : Nat) (was hard has : Bool) (fr : B.Fr) : (B.bareC k s n was hard has fr).at_ = 0 := rfl
theorem bareC_st (k : B.Cn) (s n : Nat) (was hard has : Bool) (fr : B.Fr) : (B.bareC k s n was hard has fr).st = (0, 0) := rfl
theorem bareC_got (k : B.Cn) (s n : Nat) (was hard has : Bool) (fr : B.Fr) : (B.bareC k s n was hard has fr).got = [] := rfl
theorem bareC_fin (k : B.Cn) (s n : Nat) (was hard has : Bool) (fr : B.Fr) : (B.bareC k s n was hard has fr).fin = false := rfl
theorem bareC_tail (k : B.Cn) (s n : Nat) (was hard has : Bool) (fr : B.Fr) : (B.bareC k s n was hard has fr).tail = 0 := rfl
theorem bareC_good (k : B.Cn) (s n : Nat) (was hard has : Bool) (fr : B.Fr) : (B.bareC k s n was hard has fr).good = false := rfl
attribute [local go_sem] bareC_cnt bareC_state bareC_n bareC_was bareC_hard bareC_has bareC_fr bareC_sends bareC_out bareC_at_ bareC_st bareC_got bareC_fin bareC_tail bareC_good
set_option maxRecDepth 100000 in
theorem m_begin0 (c : B.Cs) (v : B.Ev) (g : Nat)  (w : World) (hR : rowAt w g = some (mA c v))  :
    Calls Tryz.prog 71 #[.pointer (some ⟨g, 0, none⟩), .bool false] w fun e w' => e = .returned (.tuple #[]) ∧ (rowAt w' g = some (mA (c.begin_ false) (v)) ∧ Below g w w') := by
  have q0 := rowAt_cell hR
  have f0 := rowAt_free hR
  have hl := rowAt_lt hR
  have CE := Lib.hid (fun (c : B.Cs) (v : B.Ev) (w : World) (h : rowAt w g = some (mA c v)) => m_enter c v g 2 2 w h rfl)
  go_enter Tryz.func71, Tryz.ntmps71
  go_wp2_with (first
    | (go_at_call 70; (with_reducible refine (CE.out (c) (v) _ ?_).mono ?_); (simp [go_sem, *] <;> rfl); rintro e w1 ⟨rfl, hRw1, hGw1⟩; have hlw1 := rowAt_lt hRw1; have qw1 := rowAt_cell hRw1; have fw1 := rowAt_free hRw1))
  (first | go_end0 | refine bodyPost_ret (results_none Tryz.results71 _ _ _) rfl ?_)
  exact ⟨rfl, by simp [go_sem, hRw1] <;> rfl, by (repeat (first | (with_reducible assumption) | (with_reducible exact Below.refl _ _) | (with_reducible refine Below.drew ?_) | ((with_reducible refine Below.setCell ?_ ?_ _); rotate_left; (focus (first | omega | (simp; done) | (simp; omega)))) | ((with_reducible refine below_row ?_ ?_ _); rotate_left; (focus (first | omega | (simp; done) | (simp; omega)))) | ((with_reducible refine Below.alloc ?_ ?_ _); rotate_left; (focus (first | omega | (simp; done) | (simp; omega))))))⟩
set_option maxRecDepth 100000 in
theorem m_begin1 (c : B.Cs) (v : B.Ev) (g : Nat)  (w : World) (hR : rowAt w g = some (mA c v)) (hf : B.FrR c.fr) :
    Calls Tryz.prog 71 #[.pointer (some ⟨g, 0, none⟩), .bool true] w fun e w' => e = .returned (.tuple #[]) ∧ (rowAt w' g = some (mA (c.begin_ true) (v)) ∧ Below g w w') := by
  have q0 := rowAt_cell hR
  have f0 := rowAt_free hR
  have hl := rowAt_lt hR
  have CE := Lib.hid (fun (c : B.Cs) (v : B.Ev) (w : World) (h : rowAt w g = some (mA c v)) => m_enter c v g 2 2 w h rfl)
  have CB := Lib.hid (fun w => bits7 hf w)
  go_enter Tryz.func71, Tryz.ntmps71
  go_wp2_with (first
    | (go_at_call 70; (with_reducible refine (CE.out (c) (v) _ ?_).mono ?_); (simp [go_sem, *] <;> rfl); rintro e w1 ⟨rfl, hRw1, hGw1⟩; have hlw1 := rowAt_lt hRw1; have qw1 := rowAt_cell hRw1; have fw1 := rowAt_free hRw1)
    | (go_at_call 67; (with_reducible refine (CB.out _).mono ?_); rintro e w2 ⟨rfl, hbw2⟩; have hR2 := (rowAt_below hbw2 g (by simp; omega)).trans (by simp [go_sem, *] <;> rfl : _ = some (mA { B.bareC c.cnt 2 0 true c.hard c.has c.fr with sends := true, st := (48, 1), got := [48] } v)); have hG2 : Below g w w2 := ((show Below g w _ from by (repeat (first | (with_reducible assumption) | (with_reducible exact Below.refl _ _) | (with_reducible refine Below.drew ?_) | ((with_reducible refine Below.setCell ?_ ?_ _); rotate_left; (focus (first | omega | (simp; done) | (simp; omega)))) | ((with_reducible refine below_row ?_ ?_ _); rotate_left; (focus (first | omega | (simp; done) | (simp; omega)))) | ((with_reducible refine Below.alloc ?_ ?_ _); rotate_left; (focus (first | omega | (simp; done) | (simp; omega))))))).trans (hbw2.mono (by simp; omega))); have hl2 := rowAt_lt hR2; have q2 := rowAt_cell hR2; have f2 := rowAt_free hR2))
  (first | go_end0 | refine bodyPost_ret (results_none Tryz.results71 _ _ _) rfl ?_)
  exact ⟨rfl, by simp [go_sem, hR2] <;> rfl, by (repeat (first | (with_reducible assumption) | (with_reducible exact Below.refl _ _) | (with_reducible refine Below.drew ?_) | ((with_reducible refine Below.setCell ?_ ?_ _); rotate_left; (focus (first | omega | (simp; done) | (simp; omega)))) | ((with_reducible refine below_row ?_ ?_ _); rotate_left; (focus (first | omega | (simp; done) | (simp; omega)))) | ((with_reducible refine Below.alloc ?_ ?_ _); rotate_left; (focus (first | omega | (simp; done) | (simp; omega))))))⟩
end Go.Proofs.YtcaeobkaoebndaaGreat
