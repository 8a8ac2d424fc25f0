/- Layer 7: fail. -/
import Derived.Test.YtcaeobkaoebndaaGreatJ9
namespace Go.Proofs.YtcaeobkaoebndaaGreat
open Go.RowKit Go.Lib
attribute [local go_sem ↓] ld_ct st_ct ld_ev st_ev ld_ma st_ma bd_ma
attribute [local go_sem] ldCt_at stCt_at ldEv_at stEv_at ldMa_at stMa_at bdMa_at ldp_ct ldp_ma ldp_ev ldp_mev stp_ct stp_ma stp_ev stp_mev stp_mm zero_ct zero_ev zero_ma ev_err ev_sent
attribute [local go_sem] rowAt_drew rowAt_drewN rowAt_new rowAt_past rowAt_setRow rowAt_setRow_other rowAt_setCell_other rowAt_setCell_map cell_setRow free_setRow cell_setRow_other free_setRow_other setRow_alloc_at setRow_alloc_past
attribute [local go_sem] ctA_0 ctA_1 ctA_2 ctA_3 ctA_4 ctA_5 ctA_6 ctA_7 ctA_8 ctA_9 ctA_10 ctA_11 ctA_12 ctA_13 ctA_14 ctA_15 ctA_16 ctA_17 ctA_18 ctA_19 ctA_20 ctA_21 ctA_22 evA_0 evA_1 evA_2 evA_3 evA_4 evA_5 evA_6 mA_0 mA_1 mA_2 mA_3 mA_4 mA_5 mA_6 mA_7 mA_8 mA_9 mA_10 mA_11 mA_12 mA_13 mA_14 mA_15 mA_16 mA_17 mA_18 mA_19 mA_20 mA_21 mA_22 mA_23 mA_24 mA_25 mA_26 mA_27 mA_28 mA_29
attribute [local go_sem] ctA_set0 ctA_set0_0 ctA_set1_0 ctA_suc0 ctA_set1 ctA_set0_1 ctA_set1_1 ctA_suc1 ctA_set2 ctA_set3 ctA_set0_3 ctA_set1_3 ctA_suc3 ctA_set4 ctA_set0_4 ctA_set1_4 ctA_suc4 ctA_set5 ctA_set0_5 ctA_set1_5 ctA_suc5 ctA_set6 ctA_set7 ctA_set8 ctA_set9 ctA_set0_9 ctA_set1_9 ctA_suc9 ctA_set10 ctA_set11 ctA_set12 ctA_set0_12 ctA_set1_12 ctA_suc12 ctA_set13 ctA_set14 ctA_set15 ctA_set16 ctA_set0_16 ctA_set1_16 ctA_suc16 ctA_set17 ctA_set0_17 ctA_set1_17 ctA_suc17 ctA_set18 ctA_set0_18 ctA_set1_18 ctA_suc18 ctA_set19 ctA_set20 ctA_set21 ctA_set0_21 ctA_set1_21 ctA_suc21 ctA_set22 mA_set0 mA_set0_0 mA_set1_0 mA_suc0 mA_set1 mA_set0_1 mA_set1_1 mA_suc1 mA_set2 mA_set3 mA_set0_3 mA_set1_3 mA_suc3 mA_set4 mA_set0_4 mA_set1_4 mA_suc4 mA_set5 mA_set0_5 mA_set1_5 mA_set1000000000_5 mA_suc5 mA_set6 mA_set7 mA_set8 mA_set9 mA_set0_9 mA_set1_9 mA_suc9 mA_set10 mA_set11 mA_set12 mA_set0_12 mA_set1_12 mA_suc12 mA_set13 mA_set14 mA_set15 mA_set16 mA_set0_16 mA_set1_16 mA_suc16 mA_set17 mA_set0_17 mA_set1_17 mA_set48_17 mA_suc17 mA_set18 mA_set0_18 mA_set1_18 mA_suc18 mA_set19 mA_set20 mA_set21 mA_set0_21 mA_set1_21 mA_suc21 mA_set22 evA_set0 evA_set0_0 evA_set1_0 evA_set2_0 evA_set3_0 evA_set4_0 evA_suc0 evA_set1 evA_set0_1 evA_set1_1 evA_suc1 evA_set2 evA_set3 evA_set4 evA_set0_4 evA_set1_4 evA_suc4 evA_set5 evA_set6 evA_set0_6 evA_set1_6 evA_set14_6 evA_suc6 mA_set23 mA_set0_23 mA_set1_23 mA_set2_23 mA_set3_23 mA_set4_23 mA_suc23 mA_set24 mA_set0_24 mA_set1_24 mA_suc24 mA_set25 mA_set26 mA_set27 mA_set0_27 mA_set1_27 mA_suc27 mA_set28 mA_set29 mA_set0_29 mA_set1_29 mA_suc29
attribute [local go_sem] bareC_cnt bareC_state bareC_n bareC_was bareC_hard bareC_has bareC_fr bareC_sends bareC_out bareC_at_ bareC_st bareC_got bareC_fin bareC_tail bareC_good
set_option maxHeartbeats 1000000 in
set_option maxRecDepth 100000 in
theorem m_fail_yeo (c : B.Cs) (v : B.Ev) (g : Nat) (e : Int) (k : Nat) (w : World) (hR : rowAt w g = some (mA c v)) (he : e = (k : Nat)) (hk : c.cnt.may) (hs : c.sends = true) (ho : (c.cnt.step 3).o = true) (h14 : ¬ k = 14) :
    Calls Tryz.prog 93 #[.pointer (some ⟨g, 0, none⟩), .int .i64 e] w fun e w' => e = .returned (.tuple #[]) ∧ (rowAt w' g = some (mA ((c.err k).1) (⟨3, B.noFr, k⟩)) ∧ Below g w w') := by
  have hd : (e != 14) = true := by rw [he]; simp; omega
  subst he
  have hk2 := B.Cn.may_step hk 3
  have CP := Lib.hid (fun b x y w => pick_any b x y w)
  have CC3 := Lib.hid (fun (c' : B.Cs) (v : B.Ev) (w : World) (h : rowAt w g = some (mA c' v)) (hc : c'.cnt.may) => m_count c' v g 3 3 w h hc rfl (by omega))
  have CE8 := Lib.hid (fun (c : B.Cs) (v : B.Ev) (w : World) (h : rowAt w g = some (mA c v)) => m_enter c v g 8 8 w h rfl)
  have q0 := rowAt_cell hR
  have f0 := rowAt_free hR
  have hl := rowAt_lt hR
  go_enter Tryz.func93, Tryz.ntmps93
  go_wp2_with (first
    | (go_at_call 76; (with_reducible refine (CP.out _ _ _ _).mono ?_); rintro e w' ⟨rfl, rfl⟩)
    | (go_at_call 75; (with_reducible refine (CC3.out ({ c with was := true }) (⟨3, B.noFr, k⟩) _ ?_ hk).mono ?_); (simp [go_sem, *] <;> rfl); rintro e w2 ⟨rfl, hRw2, hGw2⟩; have hlw2 := rowAt_lt hRw2; have qw2 := rowAt_cell hRw2; have fw2 := rowAt_free hRw2)
    | (go_at_call 70; (with_reducible refine (CE8.out ({ c with was := true, cnt := c.cnt.step 3 }) (⟨3, B.noFr, k⟩) _ ?_).mono ?_); (simp [go_sem, *] <;> rfl); rintro e w4 ⟨rfl, hRw4, hGw4⟩; have hlw4 := rowAt_lt hRw4; have qw4 := rowAt_cell hRw4; have fw4 := rowAt_free hRw4))
  (first | go_end0 | refine bodyPost_ret (results_none Tryz.results93 _ _ _) rfl ?_)
  have e : (c.err k).1 = B.bareC (c.cnt.step 3) 8 0 true c.hard c.has c.fr := by
    unfold B.Cs.err B.Cs.errCnt
    simp [hs, ho, h14]
  exact ⟨rfl, by rw [e]; exact hRw4, ((((show Below g w _ from by (repeat (first | (with_reducible assumption) | (with_reducible exact Below.refl _ _) | (with_reducible refine Below.drew ?_) | ((with_reducible refine Below.setCell ?_ ?_ _); rotate_left; (focus (first | omega | (simp; done) | (simp; omega)))) | ((with_reducible refine below_row ?_ ?_ _); rotate_left; (focus (first | omega | (simp; done) | (simp; omega)))) | ((with_reducible refine Below.alloc ?_ ?_ _); rotate_left; (focus (first | omega | (simp; done) | (simp; omega))))))).trans hGw2).trans ((show Below g w2 _ from by (repeat (first | (with_reducible assumption) | (with_reducible exact Below.refl _ _) | (with_reducible refine Below.drew ?_) | ((with_reducible refine Below.setCell ?_ ?_ _); rotate_left; (focus (first | omega | (simp; done) | (simp; omega)))) | ((with_reducible refine below_row ?_ ?_ _); rotate_left; (focus (first | omega | (simp; done) | (simp; omega)))) | ((with_reducible refine Below.alloc ?_ ?_ _); rotate_left; (focus (first | omega | (simp; done) | (simp; omega))))))).trans hGw4)).trans (show Below g w4 _ from by (repeat (first | (with_reducible assumption) | (with_reducible exact Below.refl _ _) | (with_reducible refine Below.drew ?_) | ((with_reducible refine Below.setCell ?_ ?_ _); rotate_left; (focus (first | omega | (simp; done) | (simp; omega)))) | ((with_reducible refine below_row ?_ ?_ _); rotate_left; (focus (first | omega | (simp; done) | (simp; omega)))) | ((with_reducible refine Below.alloc ?_ ?_ _); rotate_left; (focus (first | omega | (simp; done) | (simp; omega))))))))⟩
set_option maxHeartbeats 1000000 in
set_option maxRecDepth 100000 in
theorem m_fail_yef (c : B.Cs) (v : B.Ev) (g : Nat) (e : Int) (k : Nat) (w : World) (hR : rowAt w g = some (mA c v)) (he : e = (k : Nat)) (hk : c.cnt.may) (hs : c.sends = true) (ho : (c.cnt.step 3).o = false) (h14 : ¬ k = 14) :
    Calls Tryz.prog 93 #[.pointer (some ⟨g, 0, none⟩), .int .i64 e] w fun e w' => e = .returned (.tuple #[]) ∧ (rowAt w' g = some (mA ((c.err k).1) (⟨3, B.noFr, k⟩)) ∧ Below g w w') := by
  have hd : (e != 14) = true := by rw [he]; simp; omega
  subst he
  have hk2 := B.Cn.may_step hk 3
  have CP := Lib.hid (fun b x y w => pick_any b x y w)
  have CC3 := Lib.hid (fun (c' : B.Cs) (v : B.Ev) (w : World) (h : rowAt w g = some (mA c' v)) (hc : c'.cnt.may) => m_count c' v g 3 3 w h hc rfl (by omega))
  have CI1 := Lib.hid (fun (c' : B.Cs) (v : B.Ev) (w : World) (h : rowAt w g = some (mA c' v)) (hc : c'.cnt.may) => m_is c' v g 1 1 w h hc rfl)
  have CE3 := Lib.hid (fun (c : B.Cs) (v : B.Ev) (w : World) (h : rowAt w g = some (mA c v)) => m_enter c v g 3 3 w h rfl)
  have q0 := rowAt_cell hR
  have f0 := rowAt_free hR
  have hl := rowAt_lt hR
  go_enter Tryz.func93, Tryz.ntmps93
  go_wp2_with (first
    | (go_at_call 76; (with_reducible refine (CP.out _ _ _ _).mono ?_); rintro e w' ⟨rfl, rfl⟩)
    | (go_at_call 75; (with_reducible refine (CC3.out ({ c with was := true }) (⟨3, B.noFr, k⟩) _ ?_ hk).mono ?_); (simp [go_sem, *] <;> rfl); rintro e w2 ⟨rfl, hRw2, hGw2⟩; have hlw2 := rowAt_lt hRw2; have qw2 := rowAt_cell hRw2; have fw2 := rowAt_free hRw2)
    | (go_at_call 78; (with_reducible refine (CI1.out ({ c with was := true, cnt := c.cnt.step 3 }) (⟨3, B.noFr, k⟩) _ ?_ hk2).mono ?_); (simp [go_sem, *] <;> rfl); rintro e w3 ⟨rfl, hRw3, hGw3⟩; have hlw3 := rowAt_lt hRw3; have qw3 := rowAt_cell hRw3; have fw3 := rowAt_free hRw3)
    | (go_at_call 70; (with_reducible refine (CE3.out ({ c with was := true, cnt := c.cnt.step 3, hard := decide ((c.cnt.step 3).state = 1) }) (⟨3, B.noFr, k⟩) _ ?_).mono ?_); (simp [go_sem, *] <;> rfl); rintro e w4 ⟨rfl, hRw4, hGw4⟩; have hlw4 := rowAt_lt hRw4; have qw4 := rowAt_cell hRw4; have fw4 := rowAt_free hRw4))
  (first | go_end0 | refine bodyPost_ret (results_none Tryz.results93 _ _ _) rfl ?_)
  have e : (c.err k).1 = B.bareC (c.cnt.step 3) 3 0 true (decide ((c.cnt.step 3).state = 1)) c.has c.fr := by
    unfold B.Cs.err B.Cs.errCnt
    simp [hs, ho, h14]
  exact ⟨rfl, by rw [e]; exact hRw4, (((((show Below g w _ from by (repeat (first | (with_reducible assumption) | (with_reducible exact Below.refl _ _) | (with_reducible refine Below.drew ?_) | ((with_reducible refine Below.setCell ?_ ?_ _); rotate_left; (focus (first | omega | (simp; done) | (simp; omega)))) | ((with_reducible refine below_row ?_ ?_ _); rotate_left; (focus (first | omega | (simp; done) | (simp; omega)))) | ((with_reducible refine Below.alloc ?_ ?_ _); rotate_left; (focus (first | omega | (simp; done) | (simp; omega))))))).trans hGw2).trans ((show Below g w2 _ from by (repeat (first | (with_reducible assumption) | (with_reducible exact Below.refl _ _) | (with_reducible refine Below.drew ?_) | ((with_reducible refine Below.setCell ?_ ?_ _); rotate_left; (focus (first | omega | (simp; done) | (simp; omega)))) | ((with_reducible refine below_row ?_ ?_ _); rotate_left; (focus (first | omega | (simp; done) | (simp; omega)))) | ((with_reducible refine Below.alloc ?_ ?_ _); rotate_left; (focus (first | omega | (simp; done) | (simp; omega))))))).trans hGw3)).trans ((show Below g w3 _ from by (repeat (first | (with_reducible assumption) | (with_reducible exact Below.refl _ _) | (with_reducible refine Below.drew ?_) | ((with_reducible refine Below.setCell ?_ ?_ _); rotate_left; (focus (first | omega | (simp; done) | (simp; omega)))) | ((with_reducible refine below_row ?_ ?_ _); rotate_left; (focus (first | omega | (simp; done) | (simp; omega)))) | ((with_reducible refine Below.alloc ?_ ?_ _); rotate_left; (focus (first | omega | (simp; done) | (simp; omega))))))).trans hGw4)).trans (show Below g w4 _ from by (repeat (first | (with_reducible assumption) | (with_reducible exact Below.refl _ _) | (with_reducible refine Below.drew ?_) | ((with_reducible refine Below.setCell ?_ ?_ _); rotate_left; (focus (first | omega | (simp; done) | (simp; omega)))) | ((with_reducible refine below_row ?_ ?_ _); rotate_left; (focus (first | omega | (simp; done) | (simp; omega)))) | ((with_reducible refine Below.alloc ?_ ?_ _); rotate_left; (focus (first | omega | (simp; done) | (simp; omega))))))))⟩
set_option maxHeartbeats 1000000 in
set_option maxRecDepth 100000 in
theorem m_fail_yao (c : B.Cs) (v : B.Ev) (g : Nat)  (w : World) (hR : rowAt w g = some (mA c v)) (hk : c.cnt.may) (hs : c.sends = true) (ho : (c.cnt.step 3).o = true) (hp : ¬ c.cnt.state = 2) :
    Calls Tryz.prog 93 #[.pointer (some ⟨g, 0, none⟩), .int .i64 14] w fun e w' => e = .returned (.tuple #[]) ∧ (rowAt w' g = some (mA ((c.err 14).1) (⟨3, B.noFr, 14⟩)) ∧ Below g w w') := by
  have hk2 := B.Cn.may_step hk 3
  have CI2 := Lib.hid (fun (c' : B.Cs) (v : B.Ev) (w : World) (h : rowAt w g = some (mA c' v)) (hc : c'.cnt.may) => m_is c' v g 2 2 w h hc rfl)
  have CP := Lib.hid (fun b x y w => pick_any b x y w)
  have CC3 := Lib.hid (fun (c' : B.Cs) (v : B.Ev) (w : World) (h : rowAt w g = some (mA c' v)) (hc : c'.cnt.may) => m_count c' v g 3 3 w h hc rfl (by omega))
  have CE8 := Lib.hid (fun (c : B.Cs) (v : B.Ev) (w : World) (h : rowAt w g = some (mA c v)) => m_enter c v g 8 8 w h rfl)
  have q0 := rowAt_cell hR
  have f0 := rowAt_free hR
  have hl := rowAt_lt hR
  go_enter Tryz.func93, Tryz.ntmps93
  go_wp2_with (first
    | (go_at_call 78; (with_reducible refine (CI2.out ({ c with was := true }) (⟨3, B.noFr, 14⟩) _ ?_ hk).mono ?_); (simp [go_sem, *] <;> rfl); rintro e w1 ⟨rfl, hRw1, hGw1⟩; have hlw1 := rowAt_lt hRw1; have qw1 := rowAt_cell hRw1; have fw1 := rowAt_free hRw1)
    | (go_at_call 76; (with_reducible refine (CP.out _ _ _ _).mono ?_); rintro e w' ⟨rfl, rfl⟩)
    | (go_at_call 75; (with_reducible refine (CC3.out ({ c with was := true }) (⟨3, B.noFr, 14⟩) _ ?_ hk).mono ?_); (simp [go_sem, *] <;> rfl); rintro e w2 ⟨rfl, hRw2, hGw2⟩; have hlw2 := rowAt_lt hRw2; have qw2 := rowAt_cell hRw2; have fw2 := rowAt_free hRw2)
    | (go_at_call 70; (with_reducible refine (CE8.out ({ c with was := true, cnt := c.cnt.step 3 }) (⟨3, B.noFr, 14⟩) _ ?_).mono ?_); (simp [go_sem, *] <;> rfl); rintro e w4 ⟨rfl, hRw4, hGw4⟩; have hlw4 := rowAt_lt hRw4; have qw4 := rowAt_cell hRw4; have fw4 := rowAt_free hRw4))
  (first | go_end0 | refine bodyPost_ret (results_none Tryz.results93 _ _ _) rfl ?_)
  have e : (c.err 14).1 = B.bareC (c.cnt.step 3) 8 0 true c.hard c.has c.fr := by
    unfold B.Cs.err B.Cs.errCnt
    simp [hs, ho, hp]
  exact ⟨rfl, by rw [e]; exact hRw4, (((((show Below g w _ from by (repeat (first | (with_reducible assumption) | (with_reducible exact Below.refl _ _) | (with_reducible refine Below.drew ?_) | ((with_reducible refine Below.setCell ?_ ?_ _); rotate_left; (focus (first | omega | (simp; done) | (simp; omega)))) | ((with_reducible refine below_row ?_ ?_ _); rotate_left; (focus (first | omega | (simp; done) | (simp; omega)))) | ((with_reducible refine Below.alloc ?_ ?_ _); rotate_left; (focus (first | omega | (simp; done) | (simp; omega))))))).trans hGw1).trans ((show Below g w1 _ from by (repeat (first | (with_reducible assumption) | (with_reducible exact Below.refl _ _) | (with_reducible refine Below.drew ?_) | ((with_reducible refine Below.setCell ?_ ?_ _); rotate_left; (focus (first | omega | (simp; done) | (simp; omega)))) | ((with_reducible refine below_row ?_ ?_ _); rotate_left; (focus (first | omega | (simp; done) | (simp; omega)))) | ((with_reducible refine Below.alloc ?_ ?_ _); rotate_left; (focus (first | omega | (simp; done) | (simp; omega))))))).trans hGw2)).trans ((show Below g w2 _ from by (repeat (first | (with_reducible assumption) | (with_reducible exact Below.refl _ _) | (with_reducible refine Below.drew ?_) | ((with_reducible refine Below.setCell ?_ ?_ _); rotate_left; (focus (first | omega | (simp; done) | (simp; omega)))) | ((with_reducible refine below_row ?_ ?_ _); rotate_left; (focus (first | omega | (simp; done) | (simp; omega)))) | ((with_reducible refine Below.alloc ?_ ?_ _); rotate_left; (focus (first | omega | (simp; done) | (simp; omega))))))).trans hGw4)).trans (show Below g w4 _ from by (repeat (first | (with_reducible assumption) | (with_reducible exact Below.refl _ _) | (with_reducible refine Below.drew ?_) | ((with_reducible refine Below.setCell ?_ ?_ _); rotate_left; (focus (first | omega | (simp; done) | (simp; omega)))) | ((with_reducible refine below_row ?_ ?_ _); rotate_left; (focus (first | omega | (simp; done) | (simp; omega)))) | ((with_reducible refine Below.alloc ?_ ?_ _); rotate_left; (focus (first | omega | (simp; done) | (simp; omega))))))))⟩
set_option maxHeartbeats 1000000 in
set_option maxRecDepth 100000 in
theorem m_fail_yaf (c : B.Cs) (v : B.Ev) (g : Nat)  (w : World) (hR : rowAt w g = some (mA c v)) (hk : c.cnt.may) (hs : c.sends = true) (ho : (c.cnt.step 3).o = false) (hp : ¬ c.cnt.state = 2) :
    Calls Tryz.prog 93 #[.pointer (some ⟨g, 0, none⟩), .int .i64 14] w fun e w' => e = .returned (.tuple #[]) ∧ (rowAt w' g = some (mA ((c.err 14).1) (⟨3, B.noFr, 14⟩)) ∧ Below g w w') := by
  have hk2 := B.Cn.may_step hk 3
  have CI2 := Lib.hid (fun (c' : B.Cs) (v : B.Ev) (w : World) (h : rowAt w g = some (mA c' v)) (hc : c'.cnt.may) => m_is c' v g 2 2 w h hc rfl)
  have CP := Lib.hid (fun b x y w => pick_any b x y w)
  have CC3 := Lib.hid (fun (c' : B.Cs) (v : B.Ev) (w : World) (h : rowAt w g = some (mA c' v)) (hc : c'.cnt.may) => m_count c' v g 3 3 w h hc rfl (by omega))
  have CI1 := Lib.hid (fun (c' : B.Cs) (v : B.Ev) (w : World) (h : rowAt w g = some (mA c' v)) (hc : c'.cnt.may) => m_is c' v g 1 1 w h hc rfl)
  have CE3 := Lib.hid (fun (c : B.Cs) (v : B.Ev) (w : World) (h : rowAt w g = some (mA c v)) => m_enter c v g 3 3 w h rfl)
  have q0 := rowAt_cell hR
  have f0 := rowAt_free hR
  have hl := rowAt_lt hR
  go_enter Tryz.func93, Tryz.ntmps93
  go_wp2_with (first
    | (go_at_call 78; (with_reducible refine (CI2.out ({ c with was := true }) (⟨3, B.noFr, 14⟩) _ ?_ hk).mono ?_); (simp [go_sem, *] <;> rfl); rintro e w1 ⟨rfl, hRw1, hGw1⟩; have hlw1 := rowAt_lt hRw1; have qw1 := rowAt_cell hRw1; have fw1 := rowAt_free hRw1)
    | (go_at_call 76; (with_reducible refine (CP.out _ _ _ _).mono ?_); rintro e w' ⟨rfl, rfl⟩)
    | (go_at_call 75; (with_reducible refine (CC3.out ({ c with was := true }) (⟨3, B.noFr, 14⟩) _ ?_ hk).mono ?_); (simp [go_sem, *] <;> rfl); rintro e w2 ⟨rfl, hRw2, hGw2⟩; have hlw2 := rowAt_lt hRw2; have qw2 := rowAt_cell hRw2; have fw2 := rowAt_free hRw2)
    | (go_at_call 78; (with_reducible refine (CI1.out ({ c with was := true, cnt := c.cnt.step 3 }) (⟨3, B.noFr, 14⟩) _ ?_ hk2).mono ?_); (simp [go_sem, *] <;> rfl); rintro e w3 ⟨rfl, hRw3, hGw3⟩; have hlw3 := rowAt_lt hRw3; have qw3 := rowAt_cell hRw3; have fw3 := rowAt_free hRw3)
    | (go_at_call 70; (with_reducible refine (CE3.out ({ c with was := true, cnt := c.cnt.step 3, hard := decide ((c.cnt.step 3).state = 1) }) (⟨3, B.noFr, 14⟩) _ ?_).mono ?_); (simp [go_sem, *] <;> rfl); rintro e w4 ⟨rfl, hRw4, hGw4⟩; have hlw4 := rowAt_lt hRw4; have qw4 := rowAt_cell hRw4; have fw4 := rowAt_free hRw4))
  (first | go_end0 | refine bodyPost_ret (results_none Tryz.results93 _ _ _) rfl ?_)
  have e : (c.err 14).1 = B.bareC (c.cnt.step 3) 3 0 true (decide ((c.cnt.step 3).state = 1)) c.has c.fr := by
    unfold B.Cs.err B.Cs.errCnt
    simp [hs, ho, hp]
  exact ⟨rfl, by rw [e]; exact hRw4, ((((((show Below g w _ from by (repeat (first | (with_reducible assumption) | (with_reducible exact Below.refl _ _) | (with_reducible refine Below.drew ?_) | ((with_reducible refine Below.setCell ?_ ?_ _); rotate_left; (focus (first | omega | (simp; done) | (simp; omega)))) | ((with_reducible refine below_row ?_ ?_ _); rotate_left; (focus (first | omega | (simp; done) | (simp; omega)))) | ((with_reducible refine Below.alloc ?_ ?_ _); rotate_left; (focus (first | omega | (simp; done) | (simp; omega))))))).trans hGw1).trans ((show Below g w1 _ from by (repeat (first | (with_reducible assumption) | (with_reducible exact Below.refl _ _) | (with_reducible refine Below.drew ?_) | ((with_reducible refine Below.setCell ?_ ?_ _); rotate_left; (focus (first | omega | (simp; done) | (simp; omega)))) | ((with_reducible refine below_row ?_ ?_ _); rotate_left; (focus (first | omega | (simp; done) | (simp; omega)))) | ((with_reducible refine Below.alloc ?_ ?_ _); rotate_left; (focus (first | omega | (simp; done) | (simp; omega))))))).trans hGw2)).trans ((show Below g w2 _ from by (repeat (first | (with_reducible assumption) | (with_reducible exact Below.refl _ _) | (with_reducible refine Below.drew ?_) | ((with_reducible refine Below.setCell ?_ ?_ _); rotate_left; (focus (first | omega | (simp; done) | (simp; omega)))) | ((with_reducible refine below_row ?_ ?_ _); rotate_left; (focus (first | omega | (simp; done) | (simp; omega)))) | ((with_reducible refine Below.alloc ?_ ?_ _); rotate_left; (focus (first | omega | (simp; done) | (simp; omega))))))).trans hGw3)).trans ((show Below g w3 _ from by (repeat (first | (with_reducible assumption) | (with_reducible exact Below.refl _ _) | (with_reducible refine Below.drew ?_) | ((with_reducible refine Below.setCell ?_ ?_ _); rotate_left; (focus (first | omega | (simp; done) | (simp; omega)))) | ((with_reducible refine below_row ?_ ?_ _); rotate_left; (focus (first | omega | (simp; done) | (simp; omega)))) | ((with_reducible refine Below.alloc ?_ ?_ _); rotate_left; (focus (first | omega | (simp; done) | (simp; omega))))))).trans hGw4)).trans (show Below g w4 _ from by (repeat (first | (with_reducible assumption) | (with_reducible exact Below.refl _ _) | (with_reducible refine Below.drew ?_) | ((with_reducible refine Below.setCell ?_ ?_ _); rotate_left; (focus (first | omega | (simp; done) | (simp; omega)))) | ((with_reducible refine below_row ?_ ?_ _); rotate_left; (focus (first | omega | (simp; done) | (simp; omega)))) | ((with_reducible refine Below.alloc ?_ ?_ _); rotate_left; (focus (first | omega | (simp; done) | (simp; omega))))))))⟩
set_option maxHeartbeats 1000000 in
set_option maxRecDepth 100000 in
theorem m_fail_neo (c : B.Cs) (v : B.Ev) (g : Nat) (e : Int) (k : Nat) (w : World) (hR : rowAt w g = some (mA c v)) (he : e = (k : Nat)) (hk : c.cnt.may) (hs : c.sends = false) (ho : (c.cnt.step 4).o = true) (h14 : ¬ k = 14) :
    Calls Tryz.prog 93 #[.pointer (some ⟨g, 0, none⟩), .int .i64 e] w fun e w' => e = .returned (.tuple #[]) ∧ (rowAt w' g = some (mA ((c.err k).1) (⟨3, B.noFr, k⟩)) ∧ Below g w w') := by
  have hd : (e != 14) = true := by rw [he]; simp; omega
  subst he
  have hk2 := B.Cn.may_step hk 4
  have CP := Lib.hid (fun b x y w => pick_any b x y w)
  have CC4 := Lib.hid (fun (c' : B.Cs) (v : B.Ev) (w : World) (h : rowAt w g = some (mA c' v)) (hc : c'.cnt.may) => m_count c' v g 4 4 w h hc rfl (by omega))
  have CE8 := Lib.hid (fun (c : B.Cs) (v : B.Ev) (w : World) (h : rowAt w g = some (mA c v)) => m_enter c v g 8 8 w h rfl)
  have q0 := rowAt_cell hR
  have f0 := rowAt_free hR
  have hl := rowAt_lt hR
  go_enter Tryz.func93, Tryz.ntmps93
  go_wp2_with (first
    | (go_at_call 76; (with_reducible refine (CP.out _ _ _ _).mono ?_); rintro e w' ⟨rfl, rfl⟩)
    | (go_at_call 75; (with_reducible refine (CC4.out ({ c with was := false }) (⟨3, B.noFr, k⟩) _ ?_ hk).mono ?_); (simp [go_sem, *] <;> rfl); rintro e w2 ⟨rfl, hRw2, hGw2⟩; have hlw2 := rowAt_lt hRw2; have qw2 := rowAt_cell hRw2; have fw2 := rowAt_free hRw2)
    | (go_at_call 70; (with_reducible refine (CE8.out ({ c with was := false, cnt := c.cnt.step 4 }) (⟨3, B.noFr, k⟩) _ ?_).mono ?_); (simp [go_sem, *] <;> rfl); rintro e w4 ⟨rfl, hRw4, hGw4⟩; have hlw4 := rowAt_lt hRw4; have qw4 := rowAt_cell hRw4; have fw4 := rowAt_free hRw4))
  (first | go_end0 | refine bodyPost_ret (results_none Tryz.results93 _ _ _) rfl ?_)
  have e : (c.err k).1 = B.bareC (c.cnt.step 4) 8 0 false c.hard c.has c.fr := by
    unfold B.Cs.err B.Cs.errCnt
    simp [hs, ho, h14]
  exact ⟨rfl, by rw [e]; exact hRw4, ((((show Below g w _ from by (repeat (first | (with_reducible assumption) | (with_reducible exact Below.refl _ _) | (with_reducible refine Below.drew ?_) | ((with_reducible refine Below.setCell ?_ ?_ _); rotate_left; (focus (first | omega | (simp; done) | (simp; omega)))) | ((with_reducible refine below_row ?_ ?_ _); rotate_left; (focus (first | omega | (simp; done) | (simp; omega)))) | ((with_reducible refine Below.alloc ?_ ?_ _); rotate_left; (focus (first | omega | (simp; done) | (simp; omega))))))).trans hGw2).trans ((show Below g w2 _ from by (repeat (first | (with_reducible assumption) | (with_reducible exact Below.refl _ _) | (with_reducible refine Below.drew ?_) | ((with_reducible refine Below.setCell ?_ ?_ _); rotate_left; (focus (first | omega | (simp; done) | (simp; omega)))) | ((with_reducible refine below_row ?_ ?_ _); rotate_left; (focus (first | omega | (simp; done) | (simp; omega)))) | ((with_reducible refine Below.alloc ?_ ?_ _); rotate_left; (focus (first | omega | (simp; done) | (simp; omega))))))).trans hGw4)).trans (show Below g w4 _ from by (repeat (first | (with_reducible assumption) | (with_reducible exact Below.refl _ _) | (with_reducible refine Below.drew ?_) | ((with_reducible refine Below.setCell ?_ ?_ _); rotate_left; (focus (first | omega | (simp; done) | (simp; omega)))) | ((with_reducible refine below_row ?_ ?_ _); rotate_left; (focus (first | omega | (simp; done) | (simp; omega)))) | ((with_reducible refine Below.alloc ?_ ?_ _); rotate_left; (focus (first | omega | (simp; done) | (simp; omega))))))))⟩
set_option maxHeartbeats 1000000 in
set_option maxRecDepth 100000 in
theorem m_fail_nef (c : B.Cs) (v : B.Ev) (g : Nat) (e : Int) (k : Nat) (w : World) (hR : rowAt w g = some (mA c v)) (he : e = (k : Nat)) (hk : c.cnt.may) (hs : c.sends = false) (ho : (c.cnt.step 4).o = false) (h14 : ¬ k = 14) :
    Calls Tryz.prog 93 #[.pointer (some ⟨g, 0, none⟩), .int .i64 e] w fun e w' => e = .returned (.tuple #[]) ∧ (rowAt w' g = some (mA ((c.err k).1) (⟨3, B.noFr, k⟩)) ∧ Below g w w') := by
  have hd : (e != 14) = true := by rw [he]; simp; omega
  subst he
  have hk2 := B.Cn.may_step hk 4
  have CP := Lib.hid (fun b x y w => pick_any b x y w)
  have CC4 := Lib.hid (fun (c' : B.Cs) (v : B.Ev) (w : World) (h : rowAt w g = some (mA c' v)) (hc : c'.cnt.may) => m_count c' v g 4 4 w h hc rfl (by omega))
  have CI1 := Lib.hid (fun (c' : B.Cs) (v : B.Ev) (w : World) (h : rowAt w g = some (mA c' v)) (hc : c'.cnt.may) => m_is c' v g 1 1 w h hc rfl)
  have CE3 := Lib.hid (fun (c : B.Cs) (v : B.Ev) (w : World) (h : rowAt w g = some (mA c v)) => m_enter c v g 3 3 w h rfl)
  have q0 := rowAt_cell hR
  have f0 := rowAt_free hR
  have hl := rowAt_lt hR
  go_enter Tryz.func93, Tryz.ntmps93
  go_wp2_with (first
    | (go_at_call 76; (with_reducible refine (CP.out _ _ _ _).mono ?_); rintro e w' ⟨rfl, rfl⟩)
    | (go_at_call 75; (with_reducible refine (CC4.out ({ c with was := false }) (⟨3, B.noFr, k⟩) _ ?_ hk).mono ?_); (simp [go_sem, *] <;> rfl); rintro e w2 ⟨rfl, hRw2, hGw2⟩; have hlw2 := rowAt_lt hRw2; have qw2 := rowAt_cell hRw2; have fw2 := rowAt_free hRw2)
    | (go_at_call 78; (with_reducible refine (CI1.out ({ c with was := false, cnt := c.cnt.step 4 }) (⟨3, B.noFr, k⟩) _ ?_ hk2).mono ?_); (simp [go_sem, *] <;> rfl); rintro e w3 ⟨rfl, hRw3, hGw3⟩; have hlw3 := rowAt_lt hRw3; have qw3 := rowAt_cell hRw3; have fw3 := rowAt_free hRw3)
    | (go_at_call 70; (with_reducible refine (CE3.out ({ c with was := false, cnt := c.cnt.step 4, hard := decide ((c.cnt.step 4).state = 1) }) (⟨3, B.noFr, k⟩) _ ?_).mono ?_); (simp [go_sem, *] <;> rfl); rintro e w4 ⟨rfl, hRw4, hGw4⟩; have hlw4 := rowAt_lt hRw4; have qw4 := rowAt_cell hRw4; have fw4 := rowAt_free hRw4))
  (first | go_end0 | refine bodyPost_ret (results_none Tryz.results93 _ _ _) rfl ?_)
  have e : (c.err k).1 = B.bareC (c.cnt.step 4) 3 0 false (decide ((c.cnt.step 4).state = 1)) c.has c.fr := by
    unfold B.Cs.err B.Cs.errCnt
    simp [hs, ho, h14]
  exact ⟨rfl, by rw [e]; exact hRw4, (((((show Below g w _ from by (repeat (first | (with_reducible assumption) | (with_reducible exact Below.refl _ _) | (with_reducible refine Below.drew ?_) | ((with_reducible refine Below.setCell ?_ ?_ _); rotate_left; (focus (first | omega | (simp; done) | (simp; omega)))) | ((with_reducible refine below_row ?_ ?_ _); rotate_left; (focus (first | omega | (simp; done) | (simp; omega)))) | ((with_reducible refine Below.alloc ?_ ?_ _); rotate_left; (focus (first | omega | (simp; done) | (simp; omega))))))).trans hGw2).trans ((show Below g w2 _ from by (repeat (first | (with_reducible assumption) | (with_reducible exact Below.refl _ _) | (with_reducible refine Below.drew ?_) | ((with_reducible refine Below.setCell ?_ ?_ _); rotate_left; (focus (first | omega | (simp; done) | (simp; omega)))) | ((with_reducible refine below_row ?_ ?_ _); rotate_left; (focus (first | omega | (simp; done) | (simp; omega)))) | ((with_reducible refine Below.alloc ?_ ?_ _); rotate_left; (focus (first | omega | (simp; done) | (simp; omega))))))).trans hGw3)).trans ((show Below g w3 _ from by (repeat (first | (with_reducible assumption) | (with_reducible exact Below.refl _ _) | (with_reducible refine Below.drew ?_) | ((with_reducible refine Below.setCell ?_ ?_ _); rotate_left; (focus (first | omega | (simp; done) | (simp; omega)))) | ((with_reducible refine below_row ?_ ?_ _); rotate_left; (focus (first | omega | (simp; done) | (simp; omega)))) | ((with_reducible refine Below.alloc ?_ ?_ _); rotate_left; (focus (first | omega | (simp; done) | (simp; omega))))))).trans hGw4)).trans (show Below g w4 _ from by (repeat (first | (with_reducible assumption) | (with_reducible exact Below.refl _ _) | (with_reducible refine Below.drew ?_) | ((with_reducible refine Below.setCell ?_ ?_ _); rotate_left; (focus (first | omega | (simp; done) | (simp; omega)))) | ((with_reducible refine below_row ?_ ?_ _); rotate_left; (focus (first | omega | (simp; done) | (simp; omega)))) | ((with_reducible refine Below.alloc ?_ ?_ _); rotate_left; (focus (first | omega | (simp; done) | (simp; omega))))))))⟩
set_option maxHeartbeats 1000000 in
set_option maxRecDepth 100000 in
theorem m_fail_nao (c : B.Cs) (v : B.Ev) (g : Nat)  (w : World) (hR : rowAt w g = some (mA c v)) (hk : c.cnt.may) (hs : c.sends = false) (ho : (c.cnt.step 4).o = true) (hp : ¬ c.cnt.state = 2) :
    Calls Tryz.prog 93 #[.pointer (some ⟨g, 0, none⟩), .int .i64 14] w fun e w' => e = .returned (.tuple #[]) ∧ (rowAt w' g = some (mA ((c.err 14).1) (⟨3, B.noFr, 14⟩)) ∧ Below g w w') := by
  have hk2 := B.Cn.may_step hk 4
  have CI2 := Lib.hid (fun (c' : B.Cs) (v : B.Ev) (w : World) (h : rowAt w g = some (mA c' v)) (hc : c'.cnt.may) => m_is c' v g 2 2 w h hc rfl)
  have CP := Lib.hid (fun b x y w => pick_any b x y w)
  have CC4 := Lib.hid (fun (c' : B.Cs) (v : B.Ev) (w : World) (h : rowAt w g = some (mA c' v)) (hc : c'.cnt.may) => m_count c' v g 4 4 w h hc rfl (by omega))
  have CE8 := Lib.hid (fun (c : B.Cs) (v : B.Ev) (w : World) (h : rowAt w g = some (mA c v)) => m_enter c v g 8 8 w h rfl)
  have q0 := rowAt_cell hR
  have f0 := rowAt_free hR
  have hl := rowAt_lt hR
  go_enter Tryz.func93, Tryz.ntmps93
  go_wp2_with (first
    | (go_at_call 78; (with_reducible refine (CI2.out ({ c with was := false }) (⟨3, B.noFr, 14⟩) _ ?_ hk).mono ?_); (simp [go_sem, *] <;> rfl); rintro e w1 ⟨rfl, hRw1, hGw1⟩; have hlw1 := rowAt_lt hRw1; have qw1 := rowAt_cell hRw1; have fw1 := rowAt_free hRw1)
    | (go_at_call 76; (with_reducible refine (CP.out _ _ _ _).mono ?_); rintro e w' ⟨rfl, rfl⟩)
    | (go_at_call 75; (with_reducible refine (CC4.out ({ c with was := false }) (⟨3, B.noFr, 14⟩) _ ?_ hk).mono ?_); (simp [go_sem, *] <;> rfl); rintro e w2 ⟨rfl, hRw2, hGw2⟩; have hlw2 := rowAt_lt hRw2; have qw2 := rowAt_cell hRw2; have fw2 := rowAt_free hRw2)
    | (go_at_call 70; (with_reducible refine (CE8.out ({ c with was := false, cnt := c.cnt.step 4 }) (⟨3, B.noFr, 14⟩) _ ?_).mono ?_); (simp [go_sem, *] <;> rfl); rintro e w4 ⟨rfl, hRw4, hGw4⟩; have hlw4 := rowAt_lt hRw4; have qw4 := rowAt_cell hRw4; have fw4 := rowAt_free hRw4))
  (first | go_end0 | refine bodyPost_ret (results_none Tryz.results93 _ _ _) rfl ?_)
  have e : (c.err 14).1 = B.bareC (c.cnt.step 4) 8 0 false c.hard c.has c.fr := by
    unfold B.Cs.err B.Cs.errCnt
    simp [hs, ho, hp]
  exact ⟨rfl, by rw [e]; exact hRw4, (((((show Below g w _ from by (repeat (first | (with_reducible assumption) | (with_reducible exact Below.refl _ _) | (with_reducible refine Below.drew ?_) | ((with_reducible refine Below.setCell ?_ ?_ _); rotate_left; (focus (first | omega | (simp; done) | (simp; omega)))) | ((with_reducible refine below_row ?_ ?_ _); rotate_left; (focus (first | omega | (simp; done) | (simp; omega)))) | ((with_reducible refine Below.alloc ?_ ?_ _); rotate_left; (focus (first | omega | (simp; done) | (simp; omega))))))).trans hGw1).trans ((show Below g w1 _ from by (repeat (first | (with_reducible assumption) | (with_reducible exact Below.refl _ _) | (with_reducible refine Below.drew ?_) | ((with_reducible refine Below.setCell ?_ ?_ _); rotate_left; (focus (first | omega | (simp; done) | (simp; omega)))) | ((with_reducible refine below_row ?_ ?_ _); rotate_left; (focus (first | omega | (simp; done) | (simp; omega)))) | ((with_reducible refine Below.alloc ?_ ?_ _); rotate_left; (focus (first | omega | (simp; done) | (simp; omega))))))).trans hGw2)).trans ((show Below g w2 _ from by (repeat (first | (with_reducible assumption) | (with_reducible exact Below.refl _ _) | (with_reducible refine Below.drew ?_) | ((with_reducible refine Below.setCell ?_ ?_ _); rotate_left; (focus (first | omega | (simp; done) | (simp; omega)))) | ((with_reducible refine below_row ?_ ?_ _); rotate_left; (focus (first | omega | (simp; done) | (simp; omega)))) | ((with_reducible refine Below.alloc ?_ ?_ _); rotate_left; (focus (first | omega | (simp; done) | (simp; omega))))))).trans hGw4)).trans (show Below g w4 _ from by (repeat (first | (with_reducible assumption) | (with_reducible exact Below.refl _ _) | (with_reducible refine Below.drew ?_) | ((with_reducible refine Below.setCell ?_ ?_ _); rotate_left; (focus (first | omega | (simp; done) | (simp; omega)))) | ((with_reducible refine below_row ?_ ?_ _); rotate_left; (focus (first | omega | (simp; done) | (simp; omega)))) | ((with_reducible refine Below.alloc ?_ ?_ _); rotate_left; (focus (first | omega | (simp; done) | (simp; omega))))))))⟩
set_option maxHeartbeats 1000000 in
set_option maxRecDepth 100000 in
theorem m_fail_naf (c : B.Cs) (v : B.Ev) (g : Nat)  (w : World) (hR : rowAt w g = some (mA c v)) (hk : c.cnt.may) (hs : c.sends = false) (ho : (c.cnt.step 4).o = false) (hp : ¬ c.cnt.state = 2) :
    Calls Tryz.prog 93 #[.pointer (some ⟨g, 0, none⟩), .int .i64 14] w fun e w' => e = .returned (.tuple #[]) ∧ (rowAt w' g = some (mA ((c.err 14).1) (⟨3, B.noFr, 14⟩)) ∧ Below g w w') := by
  have hk2 := B.Cn.may_step hk 4
  have CI2 := Lib.hid (fun (c' : B.Cs) (v : B.Ev) (w : World) (h : rowAt w g = some (mA c' v)) (hc : c'.cnt.may) => m_is c' v g 2 2 w h hc rfl)
  have CP := Lib.hid (fun b x y w => pick_any b x y w)
  have CC4 := Lib.hid (fun (c' : B.Cs) (v : B.Ev) (w : World) (h : rowAt w g = some (mA c' v)) (hc : c'.cnt.may) => m_count c' v g 4 4 w h hc rfl (by omega))
  have CI1 := Lib.hid (fun (c' : B.Cs) (v : B.Ev) (w : World) (h : rowAt w g = some (mA c' v)) (hc : c'.cnt.may) => m_is c' v g 1 1 w h hc rfl)
  have CE3 := Lib.hid (fun (c : B.Cs) (v : B.Ev) (w : World) (h : rowAt w g = some (mA c v)) => m_enter c v g 3 3 w h rfl)
  have q0 := rowAt_cell hR
  have f0 := rowAt_free hR
  have hl := rowAt_lt hR
  go_enter Tryz.func93, Tryz.ntmps93
  go_wp2_with (first
    | (go_at_call 78; (with_reducible refine (CI2.out ({ c with was := false }) (⟨3, B.noFr, 14⟩) _ ?_ hk).mono ?_); (simp [go_sem, *] <;> rfl); rintro e w1 ⟨rfl, hRw1, hGw1⟩; have hlw1 := rowAt_lt hRw1; have qw1 := rowAt_cell hRw1; have fw1 := rowAt_free hRw1)
    | (go_at_call 76; (with_reducible refine (CP.out _ _ _ _).mono ?_); rintro e w' ⟨rfl, rfl⟩)
    | (go_at_call 75; (with_reducible refine (CC4.out ({ c with was := false }) (⟨3, B.noFr, 14⟩) _ ?_ hk).mono ?_); (simp [go_sem, *] <;> rfl); rintro e w2 ⟨rfl, hRw2, hGw2⟩; have hlw2 := rowAt_lt hRw2; have qw2 := rowAt_cell hRw2; have fw2 := rowAt_free hRw2)
    | (go_at_call 78; (with_reducible refine (CI1.out ({ c with was := false, cnt := c.cnt.step 4 }) (⟨3, B.noFr, 14⟩) _ ?_ hk2).mono ?_); (simp [go_sem, *] <;> rfl); rintro e w3 ⟨rfl, hRw3, hGw3⟩; have hlw3 := rowAt_lt hRw3; have qw3 := rowAt_cell hRw3; have fw3 := rowAt_free hRw3)
    | (go_at_call 70; (with_reducible refine (CE3.out ({ c with was := false, cnt := c.cnt.step 4, hard := decide ((c.cnt.step 4).state = 1) }) (⟨3, B.noFr, 14⟩) _ ?_).mono ?_); (simp [go_sem, *] <;> rfl); rintro e w4 ⟨rfl, hRw4, hGw4⟩; have hlw4 := rowAt_lt hRw4; have qw4 := rowAt_cell hRw4; have fw4 := rowAt_free hRw4))
  (first | go_end0 | refine bodyPost_ret (results_none Tryz.results93 _ _ _) rfl ?_)
  have e : (c.err 14).1 = B.bareC (c.cnt.step 4) 3 0 false (decide ((c.cnt.step 4).state = 1)) c.has c.fr := by
    unfold B.Cs.err B.Cs.errCnt
    simp [hs, ho, hp]
  exact ⟨rfl, by rw [e]; exact hRw4, ((((((show Below g w _ from by (repeat (first | (with_reducible assumption) | (with_reducible exact Below.refl _ _) | (with_reducible refine Below.drew ?_) | ((with_reducible refine Below.setCell ?_ ?_ _); rotate_left; (focus (first | omega | (simp; done) | (simp; omega)))) | ((with_reducible refine below_row ?_ ?_ _); rotate_left; (focus (first | omega | (simp; done) | (simp; omega)))) | ((with_reducible refine Below.alloc ?_ ?_ _); rotate_left; (focus (first | omega | (simp; done) | (simp; omega))))))).trans hGw1).trans ((show Below g w1 _ from by (repeat (first | (with_reducible assumption) | (with_reducible exact Below.refl _ _) | (with_reducible refine Below.drew ?_) | ((with_reducible refine Below.setCell ?_ ?_ _); rotate_left; (focus (first | omega | (simp; done) | (simp; omega)))) | ((with_reducible refine below_row ?_ ?_ _); rotate_left; (focus (first | omega | (simp; done) | (simp; omega)))) | ((with_reducible refine Below.alloc ?_ ?_ _); rotate_left; (focus (first | omega | (simp; done) | (simp; omega))))))).trans hGw2)).trans ((show Below g w2 _ from by (repeat (first | (with_reducible assumption) | (with_reducible exact Below.refl _ _) | (with_reducible refine Below.drew ?_) | ((with_reducible refine Below.setCell ?_ ?_ _); rotate_left; (focus (first | omega | (simp; done) | (simp; omega)))) | ((with_reducible refine below_row ?_ ?_ _); rotate_left; (focus (first | omega | (simp; done) | (simp; omega)))) | ((with_reducible refine Below.alloc ?_ ?_ _); rotate_left; (focus (first | omega | (simp; done) | (simp; omega))))))).trans hGw3)).trans ((show Below g w3 _ from by (repeat (first | (with_reducible assumption) | (with_reducible exact Below.refl _ _) | (with_reducible refine Below.drew ?_) | ((with_reducible refine Below.setCell ?_ ?_ _); rotate_left; (focus (first | omega | (simp; done) | (simp; omega)))) | ((with_reducible refine below_row ?_ ?_ _); rotate_left; (focus (first | omega | (simp; done) | (simp; omega)))) | ((with_reducible refine Below.alloc ?_ ?_ _); rotate_left; (focus (first | omega | (simp; done) | (simp; omega))))))).trans hGw4)).trans (show Below g w4 _ from by (repeat (first | (with_reducible assumption) | (with_reducible exact Below.refl _ _) | (with_reducible refine Below.drew ?_) | ((with_reducible refine Below.setCell ?_ ?_ _); rotate_left; (focus (first | omega | (simp; done) | (simp; omega)))) | ((with_reducible refine below_row ?_ ?_ _); rotate_left; (focus (first | omega | (simp; done) | (simp; omega)))) | ((with_reducible refine Below.alloc ?_ ?_ _); rotate_left; (focus (first | omega | (simp; done) | (simp; omega))))))))⟩
set_option maxHeartbeats 1000000 in
set_option maxRecDepth 100000 in
theorem m_fail_yp (c : B.Cs) (v : B.Ev) (g : Nat)  (w : World) (hR : rowAt w g = some (mA c v)) (hk : c.cnt.may) (hs : c.sends = true) (hp : c.cnt.state = 2) (ho : c.cnt.o = false) :
    Calls Tryz.prog 93 #[.pointer (some ⟨g, 0, none⟩), .int .i64 14] w fun e w' => e = .returned (.tuple #[]) ∧ (rowAt w' g = some (mA ((c.err 14).1) (⟨3, B.noFr, 14⟩)) ∧ Below g w w') := by
  have CI2 := Lib.hid (fun (c' : B.Cs) (v : B.Ev) (w : World) (h : rowAt w g = some (mA c' v)) (hc : c'.cnt.may) => m_is c' v g 2 2 w h hc rfl)
  have CI1 := Lib.hid (fun (c' : B.Cs) (v : B.Ev) (w : World) (h : rowAt w g = some (mA c' v)) (hc : c'.cnt.may) => m_is c' v g 1 1 w h hc rfl)
  have CE3 := Lib.hid (fun (c : B.Cs) (v : B.Ev) (w : World) (h : rowAt w g = some (mA c v)) => m_enter c v g 3 3 w h rfl)
  have q0 := rowAt_cell hR
  have f0 := rowAt_free hR
  have hl := rowAt_lt hR
  go_enter Tryz.func93, Tryz.ntmps93
  go_wp2_with (first
    | (go_at_call 78; (with_reducible refine (CI2.out ({ c with was := true }) (⟨3, B.noFr, 14⟩) _ ?_ hk).mono ?_); (simp [go_sem, *] <;> rfl); rintro e w1 ⟨rfl, hRw1, hGw1⟩; have hlw1 := rowAt_lt hRw1; have qw1 := rowAt_cell hRw1; have fw1 := rowAt_free hRw1)
    | (go_at_call 78; (with_reducible refine (CI1.out ({ c with was := true }) (⟨3, B.noFr, 14⟩) _ ?_ hk).mono ?_); (simp [go_sem, *] <;> rfl); rintro e w3 ⟨rfl, hRw3, hGw3⟩; have hlw3 := rowAt_lt hRw3; have qw3 := rowAt_cell hRw3; have fw3 := rowAt_free hRw3)
    | (go_at_call 70; (with_reducible refine (CE3.out ({ c with was := true, hard := false }) (⟨3, B.noFr, 14⟩) _ ?_).mono ?_); (simp [go_sem, *] <;> rfl); rintro e w4 ⟨rfl, hRw4, hGw4⟩; have hlw4 := rowAt_lt hRw4; have qw4 := rowAt_cell hRw4; have fw4 := rowAt_free hRw4))
  (first | go_end0 | refine bodyPost_ret (results_none Tryz.results93 _ _ _) rfl ?_)
  have e : (c.err 14).1 = B.bareC c.cnt 3 0 true false c.has c.fr := by
    unfold B.Cs.err B.Cs.errCnt
    simp [hs, hp, ho]
  exact ⟨rfl, by rw [e]; exact hRw4, (((((show Below g w _ from by (repeat (first | (with_reducible assumption) | (with_reducible exact Below.refl _ _) | (with_reducible refine Below.drew ?_) | ((with_reducible refine Below.setCell ?_ ?_ _); rotate_left; (focus (first | omega | (simp; done) | (simp; omega)))) | ((with_reducible refine below_row ?_ ?_ _); rotate_left; (focus (first | omega | (simp; done) | (simp; omega)))) | ((with_reducible refine Below.alloc ?_ ?_ _); rotate_left; (focus (first | omega | (simp; done) | (simp; omega))))))).trans hGw1).trans ((show Below g w1 _ from by (repeat (first | (with_reducible assumption) | (with_reducible exact Below.refl _ _) | (with_reducible refine Below.drew ?_) | ((with_reducible refine Below.setCell ?_ ?_ _); rotate_left; (focus (first | omega | (simp; done) | (simp; omega)))) | ((with_reducible refine below_row ?_ ?_ _); rotate_left; (focus (first | omega | (simp; done) | (simp; omega)))) | ((with_reducible refine Below.alloc ?_ ?_ _); rotate_left; (focus (first | omega | (simp; done) | (simp; omega))))))).trans hGw3)).trans ((show Below g w3 _ from by (repeat (first | (with_reducible assumption) | (with_reducible exact Below.refl _ _) | (with_reducible refine Below.drew ?_) | ((with_reducible refine Below.setCell ?_ ?_ _); rotate_left; (focus (first | omega | (simp; done) | (simp; omega)))) | ((with_reducible refine below_row ?_ ?_ _); rotate_left; (focus (first | omega | (simp; done) | (simp; omega)))) | ((with_reducible refine Below.alloc ?_ ?_ _); rotate_left; (focus (first | omega | (simp; done) | (simp; omega))))))).trans hGw4)).trans (show Below g w4 _ from by (repeat (first | (with_reducible assumption) | (with_reducible exact Below.refl _ _) | (with_reducible refine Below.drew ?_) | ((with_reducible refine Below.setCell ?_ ?_ _); rotate_left; (focus (first | omega | (simp; done) | (simp; omega)))) | ((with_reducible refine below_row ?_ ?_ _); rotate_left; (focus (first | omega | (simp; done) | (simp; omega)))) | ((with_reducible refine Below.alloc ?_ ?_ _); rotate_left; (focus (first | omega | (simp; done) | (simp; omega))))))))⟩
set_option maxHeartbeats 1000000 in
set_option maxRecDepth 100000 in
theorem m_fail_np (c : B.Cs) (v : B.Ev) (g : Nat)  (w : World) (hR : rowAt w g = some (mA c v)) (hk : c.cnt.may) (hs : c.sends = false) (hp : c.cnt.state = 2) (ho : c.cnt.o = false) :
    Calls Tryz.prog 93 #[.pointer (some ⟨g, 0, none⟩), .int .i64 14] w fun e w' => e = .returned (.tuple #[]) ∧ (rowAt w' g = some (mA ((c.err 14).1) (⟨3, B.noFr, 14⟩)) ∧ Below g w w') := by
  have CI2 := Lib.hid (fun (c' : B.Cs) (v : B.Ev) (w : World) (h : rowAt w g = some (mA c' v)) (hc : c'.cnt.may) => m_is c' v g 2 2 w h hc rfl)
  have CI1 := Lib.hid (fun (c' : B.Cs) (v : B.Ev) (w : World) (h : rowAt w g = some (mA c' v)) (hc : c'.cnt.may) => m_is c' v g 1 1 w h hc rfl)
  have CE3 := Lib.hid (fun (c : B.Cs) (v : B.Ev) (w : World) (h : rowAt w g = some (mA c v)) => m_enter c v g 3 3 w h rfl)
  have q0 := rowAt_cell hR
  have f0 := rowAt_free hR
  have hl := rowAt_lt hR
  go_enter Tryz.func93, Tryz.ntmps93
  go_wp2_with (first
    | (go_at_call 78; (with_reducible refine (CI2.out ({ c with was := false }) (⟨3, B.noFr, 14⟩) _ ?_ hk).mono ?_); (simp [go_sem, *] <;> rfl); rintro e w1 ⟨rfl, hRw1, hGw1⟩; have hlw1 := rowAt_lt hRw1; have qw1 := rowAt_cell hRw1; have fw1 := rowAt_free hRw1)
    | (go_at_call 78; (with_reducible refine (CI1.out ({ c with was := false }) (⟨3, B.noFr, 14⟩) _ ?_ hk).mono ?_); (simp [go_sem, *] <;> rfl); rintro e w3 ⟨rfl, hRw3, hGw3⟩; have hlw3 := rowAt_lt hRw3; have qw3 := rowAt_cell hRw3; have fw3 := rowAt_free hRw3)
    | (go_at_call 70; (with_reducible refine (CE3.out ({ c with was := false, hard := false }) (⟨3, B.noFr, 14⟩) _ ?_).mono ?_); (simp [go_sem, *] <;> rfl); rintro e w4 ⟨rfl, hRw4, hGw4⟩; have hlw4 := rowAt_lt hRw4; have qw4 := rowAt_cell hRw4; have fw4 := rowAt_free hRw4))
  (first | go_end0 | refine bodyPost_ret (results_none Tryz.results93 _ _ _) rfl ?_)
  have e : (c.err 14).1 = B.bareC c.cnt 3 0 false false c.has c.fr := by
    unfold B.Cs.err B.Cs.errCnt
    simp [hs, hp, ho]
  exact ⟨rfl, by rw [e]; exact hRw4, (((((show Below g w _ from by (repeat (first | (with_reducible assumption) | (with_reducible exact Below.refl _ _) | (with_reducible refine Below.drew ?_) | ((with_reducible refine Below.setCell ?_ ?_ _); rotate_left; (focus (first | omega | (simp; done) | (simp; omega)))) | ((with_reducible refine below_row ?_ ?_ _); rotate_left; (focus (first | omega | (simp; done) | (simp; omega)))) | ((with_reducible refine Below.alloc ?_ ?_ _); rotate_left; (focus (first | omega | (simp; done) | (simp; omega))))))).trans hGw1).trans ((show Below g w1 _ from by (repeat (first | (with_reducible assumption) | (with_reducible exact Below.refl _ _) | (with_reducible refine Below.drew ?_) | ((with_reducible refine Below.setCell ?_ ?_ _); rotate_left; (focus (first | omega | (simp; done) | (simp; omega)))) | ((with_reducible refine below_row ?_ ?_ _); rotate_left; (focus (first | omega | (simp; done) | (simp; omega)))) | ((with_reducible refine Below.alloc ?_ ?_ _); rotate_left; (focus (first | omega | (simp; done) | (simp; omega))))))).trans hGw3)).trans ((show Below g w3 _ from by (repeat (first | (with_reducible assumption) | (with_reducible exact Below.refl _ _) | (with_reducible refine Below.drew ?_) | ((with_reducible refine Below.setCell ?_ ?_ _); rotate_left; (focus (first | omega | (simp; done) | (simp; omega)))) | ((with_reducible refine below_row ?_ ?_ _); rotate_left; (focus (first | omega | (simp; done) | (simp; omega)))) | ((with_reducible refine Below.alloc ?_ ?_ _); rotate_left; (focus (first | omega | (simp; done) | (simp; omega))))))).trans hGw4)).trans (show Below g w4 _ from by (repeat (first | (with_reducible assumption) | (with_reducible exact Below.refl _ _) | (with_reducible refine Below.drew ?_) | ((with_reducible refine Below.setCell ?_ ?_ _); rotate_left; (focus (first | omega | (simp; done) | (simp; omega)))) | ((with_reducible refine below_row ?_ ?_ _); rotate_left; (focus (first | omega | (simp; done) | (simp; omega)))) | ((with_reducible refine Below.alloc ?_ ?_ _); rotate_left; (focus (first | omega | (simp; done) | (simp; omega))))))))⟩
end Go.Proofs.YtcaeobkaoebndaaGreat
