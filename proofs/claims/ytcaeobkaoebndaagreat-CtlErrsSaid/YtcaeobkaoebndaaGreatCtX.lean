/- Layer 7: join, idle, flag, echo, delim, gap, hold, rest. -/
import Derived.Test.YtcaeobkaoebndaaGreatCtV
namespace Go.Proofs.YtcaeobkaoebndaaGreat
open Go.RowKit Go.Lib
attribute [local go_sem ↓] ld_ct st_ct ld_ev st_ev ld_ma st_ma bd_ma
attribute [local go_sem] ldCt_at stCt_at ldEv_at stEv_at ldMa_at stMa_at bdMa_at ldp_ct ldp_ma ldp_ev ldp_mev stp_ct stp_ma stp_ev stp_mev stp_mm zero_ct zero_ev zero_ma ev_err ev_sent
attribute [local go_sem] rowAt_drew rowAt_drewN rowAt_new rowAt_past rowAt_setRow rowAt_setRow_other rowAt_setCell_other rowAt_setCell_map cell_setRow free_setRow cell_setRow_other free_setRow_other setRow_alloc_at setRow_alloc_past
attribute [local go_sem] ctA_0 ctA_1 ctA_2 ctA_3 ctA_4 ctA_5 ctA_6 ctA_7 ctA_8 ctA_9 ctA_10 ctA_11 ctA_12 ctA_13 ctA_14 ctA_15 ctA_16 ctA_17 ctA_18 ctA_19 ctA_20 ctA_21 ctA_22 evA_0 evA_1 evA_2 evA_3 evA_4 evA_5 evA_6 mA_0 mA_1 mA_2 mA_3 mA_4 mA_5 mA_6 mA_7 mA_8 mA_9 mA_10 mA_11 mA_12 mA_13 mA_14 mA_15 mA_16 mA_17 mA_18 mA_19 mA_20 mA_21 mA_22 mA_23 mA_24 mA_25 mA_26 mA_27 mA_28 mA_29
attribute [local go_sem] ctA_set0 ctA_set0_0 ctA_set1_0 ctA_suc0 ctA_set1 ctA_set0_1 ctA_set1_1 ctA_suc1 ctA_set2 ctA_set3 ctA_set0_3 ctA_set1_3 ctA_suc3 ctA_set4 ctA_set0_4 ctA_set1_4 ctA_suc4 ctA_set5 ctA_set0_5 ctA_set1_5 ctA_suc5 ctA_set6 ctA_set7 ctA_set8 ctA_set9 ctA_set0_9 ctA_set1_9 ctA_suc9 ctA_set10 ctA_set11 ctA_set12 ctA_set0_12 ctA_set1_12 ctA_suc12 ctA_set13 ctA_set14 ctA_set15 ctA_set16 ctA_set0_16 ctA_set1_16 ctA_suc16 ctA_set17 ctA_set0_17 ctA_set1_17 ctA_suc17 ctA_set18 ctA_set0_18 ctA_set1_18 ctA_suc18 ctA_set19 ctA_set20 ctA_set21 ctA_set0_21 ctA_set1_21 ctA_suc21 ctA_set22 mA_set0 mA_set0_0 mA_set1_0 mA_suc0 mA_set1 mA_set0_1 mA_set1_1 mA_suc1 mA_set2 mA_set3 mA_set0_3 mA_set1_3 mA_suc3 mA_set4 mA_set0_4 mA_set1_4 mA_suc4 mA_set5 mA_set0_5 mA_set1_5 mA_set1000000000_5 mA_suc5 mA_set6 mA_set7 mA_set8 mA_set9 mA_set0_9 mA_set1_9 mA_suc9 mA_set10 mA_set11 mA_set12 mA_set0_12 mA_set1_12 mA_suc12 mA_set13 mA_set14 mA_set15 mA_set16 mA_set0_16 mA_set1_16 mA_suc16 mA_set17 mA_set0_17 mA_set1_17 mA_set48_17 mA_suc17 mA_set18 mA_set0_18 mA_set1_18 mA_suc18 mA_set19 mA_set20 mA_set21 mA_set0_21 mA_set1_21 mA_suc21 mA_set22 evA_set0 evA_set0_0 evA_set1_0 evA_set2_0 evA_set3_0 evA_set4_0 evA_suc0 evA_set1 evA_set0_1 evA_set1_1 evA_suc1 evA_set2 evA_set3 evA_set4 evA_set0_4 evA_set1_4 evA_suc4 evA_set5 evA_set6 evA_set0_6 evA_set1_6 evA_set14_6 evA_suc6 mA_set23 mA_set0_23 mA_set1_23 mA_set2_23 mA_set3_23 mA_set4_23 mA_suc23 mA_set24 mA_set0_24 mA_set1_24 mA_suc24 mA_set25 mA_set26 mA_set27 mA_set0_27 mA_set1_27 mA_suc27 mA_set28 mA_set29 mA_set0_29 mA_set1_29 mA_suc29
attribute [local go_sem] bareC_cnt bareC_state bareC_n bareC_was bareC_hard bareC_has bareC_fr bareC_sends bareC_out bareC_at_ bareC_st bareC_got bareC_fin bareC_tail bareC_good
set_option maxHeartbeats 1000000 in
set_option maxRecDepth 100000 in
theorem join_a (c : B.Cs) (v : B.Ev) (g : Nat)  (w : World) (hR : rowAt w g = some (mA c v))  :
    Calls Tryz.prog 46 #[.pointer (some ⟨g, 0, none⟩), .int .u8 48] w fun e w' => e = .returned (.tuple #[]) ∧ (rowAt w' g = some (mA ({ c with n := 0 }) (v)) ∧ Below g w w') := by
  have CR := Lib.hid (fun (c' : B.Cs) (v' : B.Ev) (w : World) (h : rowAt w g = some (mA c' v')) => m_rested0 c' v' g w h)
  have q0 := rowAt_cell hR
  have f0 := rowAt_free hR
  have hl := rowAt_lt hR
  go_enter Tryz.func46, Tryz.ntmps46
  go_wp2_with (first
    | (go_at_call 69; (with_reducible refine (CR.out (c) (v) _ ?_).mono ?_); (simp [go_sem, *] <;> rfl); rintro e w1 ⟨rfl, hRw1, hGw1⟩; have hlw1 := rowAt_lt hRw1; have qw1 := rowAt_cell hRw1; have fw1 := rowAt_free hRw1))
  (first | go_end0 | refine bodyPost_ret (results_none Tryz.results46 _ _ _) rfl ?_)
  exact ⟨rfl, hRw1, (((show Below g w _ from by (repeat (first | (with_reducible assumption) | (with_reducible exact Below.refl _ _) | (with_reducible refine Below.drew ?_) | ((with_reducible refine Below.setCell ?_ ?_ _); rotate_left; (focus (first | omega | (simp; done) | (simp; omega)))) | ((with_reducible refine below_row ?_ ?_ _); rotate_left; (focus (first | omega | (simp; done) | (simp; omega)))) | ((with_reducible refine Below.alloc ?_ ?_ _); rotate_left; (focus (first | omega | (simp; done) | (simp; omega))))))).trans hGw1).trans (show Below g w1 _ from by (repeat (first | (with_reducible assumption) | (with_reducible exact Below.refl _ _) | (with_reducible refine Below.drew ?_) | ((with_reducible refine Below.setCell ?_ ?_ _); rotate_left; (focus (first | omega | (simp; done) | (simp; omega)))) | ((with_reducible refine below_row ?_ ?_ _); rotate_left; (focus (first | omega | (simp; done) | (simp; omega)))) | ((with_reducible refine Below.alloc ?_ ?_ _); rotate_left; (focus (first | omega | (simp; done) | (simp; omega))))))))⟩
set_option maxHeartbeats 1000000 in
set_option maxRecDepth 100000 in
theorem join_b (c : B.Cs) (v : B.Ev) (g : Nat)  (w : World) (hR : rowAt w g = some (mA c v)) (hn : ¬ c.n = 10) (h : c.n ≤ 10) :
    Calls Tryz.prog 46 #[.pointer (some ⟨g, 0, none⟩), .int .u8 49] w fun e w' => e = .returned (.tuple #[]) ∧ (rowAt w' g = some (mA ({ c with n := c.n + 1 }) (v)) ∧ Below g w w') := by
  have CR := Lib.hid (fun (c' : B.Cs) (v' : B.Ev) (w : World) (h : rowAt w g = some (mA c' v')) (h1 : c'.n ≤ 1000000) => m_rested1 c' v' g w h h1)
  have q0 := rowAt_cell hR
  have f0 := rowAt_free hR
  have hl := rowAt_lt hR
  go_enter Tryz.func46, Tryz.ntmps46
  go_wp2_with (first
    | (go_at_call 69; (with_reducible refine (CR.out (c) (v) _ ?_ (by omega)).mono ?_); (simp [go_sem, *] <;> rfl); rintro e w1 ⟨rfl, hRw1, hGw1⟩; have hlw1 := rowAt_lt hRw1; have qw1 := rowAt_cell hRw1; have fw1 := rowAt_free hRw1))
  (first | go_end0 | refine bodyPost_ret (results_none Tryz.results46 _ _ _) rfl ?_)
  exact ⟨rfl, hRw1, (((show Below g w _ from by (repeat (first | (with_reducible assumption) | (with_reducible exact Below.refl _ _) | (with_reducible refine Below.drew ?_) | ((with_reducible refine Below.setCell ?_ ?_ _); rotate_left; (focus (first | omega | (simp; done) | (simp; omega)))) | ((with_reducible refine below_row ?_ ?_ _); rotate_left; (focus (first | omega | (simp; done) | (simp; omega)))) | ((with_reducible refine Below.alloc ?_ ?_ _); rotate_left; (focus (first | omega | (simp; done) | (simp; omega))))))).trans hGw1).trans (show Below g w1 _ from by (repeat (first | (with_reducible assumption) | (with_reducible exact Below.refl _ _) | (with_reducible refine Below.drew ?_) | ((with_reducible refine Below.setCell ?_ ?_ _); rotate_left; (focus (first | omega | (simp; done) | (simp; omega)))) | ((with_reducible refine below_row ?_ ?_ _); rotate_left; (focus (first | omega | (simp; done) | (simp; omega)))) | ((with_reducible refine Below.alloc ?_ ?_ _); rotate_left; (focus (first | omega | (simp; done) | (simp; omega))))))))⟩
set_option maxHeartbeats 1000000 in
set_option maxRecDepth 100000 in
theorem join_c (c : B.Cs) (v : B.Ev) (g : Nat)  (w : World) (hR : rowAt w g = some (mA c v)) (hn : c.n = 10) :
    Calls Tryz.prog 46 #[.pointer (some ⟨g, 0, none⟩), .int .u8 49] w fun e w' => e = .returned (.tuple #[]) ∧ (rowAt w' g = some (mA (B.bareC c.cnt 1 0 c.was c.hard c.has c.fr) (v)) ∧ Below g w w') := by
  have CR := Lib.hid (fun (c' : B.Cs) (v' : B.Ev) (w : World) (h : rowAt w g = some (mA c' v')) (h1 : c'.n ≤ 1000000) => m_rested1 c' v' g w h h1)
  have CE := Lib.hid (fun (c : B.Cs) (v : B.Ev) (w : World) (h : rowAt w g = some (mA c v)) => m_enter c v g 1 1 w h rfl)
  have q0 := rowAt_cell hR
  have f0 := rowAt_free hR
  have hl := rowAt_lt hR
  go_enter Tryz.func46, Tryz.ntmps46
  go_wp2_with (first
    | (go_at_call 69; (with_reducible refine (CR.out (c) (v) _ ?_ (by omega)).mono ?_); (simp [go_sem, *] <;> rfl); rintro e w1 ⟨rfl, hRw1, hGw1⟩; have hlw1 := rowAt_lt hRw1; have qw1 := rowAt_cell hRw1; have fw1 := rowAt_free hRw1)
    | (go_at_call 70; (with_reducible refine (CE.out ({ c with n := c.n + 1 }) (v) _ ?_).mono ?_); (simp [go_sem, *] <;> rfl); rintro e w2 ⟨rfl, hRw2, hGw2⟩; have hlw2 := rowAt_lt hRw2; have qw2 := rowAt_cell hRw2; have fw2 := rowAt_free hRw2))
  (first | go_end0 | refine bodyPost_ret (results_none Tryz.results46 _ _ _) rfl ?_)
  exact ⟨rfl, hRw2, ((((show Below g w _ from by (repeat (first | (with_reducible assumption) | (with_reducible exact Below.refl _ _) | (with_reducible refine Below.drew ?_) | ((with_reducible refine Below.setCell ?_ ?_ _); rotate_left; (focus (first | omega | (simp; done) | (simp; omega)))) | ((with_reducible refine below_row ?_ ?_ _); rotate_left; (focus (first | omega | (simp; done) | (simp; omega)))) | ((with_reducible refine Below.alloc ?_ ?_ _); rotate_left; (focus (first | omega | (simp; done) | (simp; omega))))))).trans hGw1).trans ((show Below g w1 _ from by (repeat (first | (with_reducible assumption) | (with_reducible exact Below.refl _ _) | (with_reducible refine Below.drew ?_) | ((with_reducible refine Below.setCell ?_ ?_ _); rotate_left; (focus (first | omega | (simp; done) | (simp; omega)))) | ((with_reducible refine below_row ?_ ?_ _); rotate_left; (focus (first | omega | (simp; done) | (simp; omega)))) | ((with_reducible refine Below.alloc ?_ ?_ _); rotate_left; (focus (first | omega | (simp; done) | (simp; omega))))))).trans hGw2)).trans (show Below g w2 _ from by (repeat (first | (with_reducible assumption) | (with_reducible exact Below.refl _ _) | (with_reducible refine Below.drew ?_) | ((with_reducible refine Below.setCell ?_ ?_ _); rotate_left; (focus (first | omega | (simp; done) | (simp; omega)))) | ((with_reducible refine below_row ?_ ?_ _); rotate_left; (focus (first | omega | (simp; done) | (simp; omega)))) | ((with_reducible refine Below.alloc ?_ ?_ _); rotate_left; (focus (first | omega | (simp; done) | (simp; omega))))))))⟩
set_option maxHeartbeats 1000000 in
set_option maxRecDepth 100000 in
theorem idle_a (c : B.Cs) (v : B.Ev) (g : Nat)  (w : World) (hR : rowAt w g = some (mA c v)) (hh : c.has = false) :
    Calls Tryz.prog 47 #[.pointer (some ⟨g, 0, none⟩), .int .u8 48] w fun e w' => e = .returned (.tuple #[]) ∧ (rowAt w' g = some (mA (c.begin_ false) (v)) ∧ Below g w w') := by
  have CB := Lib.hid (fun (c' : B.Cs) (v' : B.Ev) (w : World) (h : rowAt w g = some (mA c' v')) => m_begin0 c' v' g w h)
  have q0 := rowAt_cell hR
  have f0 := rowAt_free hR
  have hl := rowAt_lt hR
  go_enter Tryz.func47, Tryz.ntmps47
  go_wp2_with (first
    | (go_at_call 71; (with_reducible refine (CB.out (c) (v) _ ?_).mono ?_); (simp [go_sem, *] <;> rfl); rintro e w1 ⟨rfl, hRw1, hGw1⟩; have hlw1 := rowAt_lt hRw1; have qw1 := rowAt_cell hRw1; have fw1 := rowAt_free hRw1))
  (first | go_end0 | refine bodyPost_ret (results_none Tryz.results47 _ _ _) rfl ?_)
  exact ⟨rfl, hRw1, (((show Below g w _ from by (repeat (first | (with_reducible assumption) | (with_reducible exact Below.refl _ _) | (with_reducible refine Below.drew ?_) | ((with_reducible refine Below.setCell ?_ ?_ _); rotate_left; (focus (first | omega | (simp; done) | (simp; omega)))) | ((with_reducible refine below_row ?_ ?_ _); rotate_left; (focus (first | omega | (simp; done) | (simp; omega)))) | ((with_reducible refine Below.alloc ?_ ?_ _); rotate_left; (focus (first | omega | (simp; done) | (simp; omega))))))).trans hGw1).trans (show Below g w1 _ from by (repeat (first | (with_reducible assumption) | (with_reducible exact Below.refl _ _) | (with_reducible refine Below.drew ?_) | ((with_reducible refine Below.setCell ?_ ?_ _); rotate_left; (focus (first | omega | (simp; done) | (simp; omega)))) | ((with_reducible refine below_row ?_ ?_ _); rotate_left; (focus (first | omega | (simp; done) | (simp; omega)))) | ((with_reducible refine Below.alloc ?_ ?_ _); rotate_left; (focus (first | omega | (simp; done) | (simp; omega))))))))⟩
set_option maxHeartbeats 1000000 in
set_option maxRecDepth 100000 in
theorem idle_b (c : B.Cs) (v : B.Ev) (g : Nat)  (w : World) (hR : rowAt w g = some (mA c v)) (hh : c.has = true) (hf : B.FrR c.fr) :
    Calls Tryz.prog 47 #[.pointer (some ⟨g, 0, none⟩), .int .u8 48] w fun e w' => e = .returned (.tuple #[]) ∧ (rowAt w' g = some (mA (c.begin_ true) (v)) ∧ Below g w w') := by
  have CB := Lib.hid (fun (c' : B.Cs) (v' : B.Ev) (w : World) (h : rowAt w g = some (mA c' v')) (hf : B.FrR c'.fr) => m_begin1 c' v' g w h hf)
  have q0 := rowAt_cell hR
  have f0 := rowAt_free hR
  have hl := rowAt_lt hR
  go_enter Tryz.func47, Tryz.ntmps47
  go_wp2_with (first
    | (go_at_call 71; (with_reducible refine (CB.out (c) (v) _ ?_ hf).mono ?_); (simp [go_sem, *] <;> rfl); rintro e w1 ⟨rfl, hRw1, hGw1⟩; have hlw1 := rowAt_lt hRw1; have qw1 := rowAt_cell hRw1; have fw1 := rowAt_free hRw1))
  (first | go_end0 | refine bodyPost_ret (results_none Tryz.results47 _ _ _) rfl ?_)
  exact ⟨rfl, hRw1, (((show Below g w _ from by (repeat (first | (with_reducible assumption) | (with_reducible exact Below.refl _ _) | (with_reducible refine Below.drew ?_) | ((with_reducible refine Below.setCell ?_ ?_ _); rotate_left; (focus (first | omega | (simp; done) | (simp; omega)))) | ((with_reducible refine below_row ?_ ?_ _); rotate_left; (focus (first | omega | (simp; done) | (simp; omega)))) | ((with_reducible refine Below.alloc ?_ ?_ _); rotate_left; (focus (first | omega | (simp; done) | (simp; omega))))))).trans hGw1).trans (show Below g w1 _ from by (repeat (first | (with_reducible assumption) | (with_reducible exact Below.refl _ _) | (with_reducible refine Below.drew ?_) | ((with_reducible refine Below.setCell ?_ ?_ _); rotate_left; (focus (first | omega | (simp; done) | (simp; omega)))) | ((with_reducible refine below_row ?_ ?_ _); rotate_left; (focus (first | omega | (simp; done) | (simp; omega)))) | ((with_reducible refine Below.alloc ?_ ?_ _); rotate_left; (focus (first | omega | (simp; done) | (simp; omega))))))))⟩
set_option maxHeartbeats 1000000 in
set_option maxRecDepth 100000 in
theorem idle_c (c : B.Cs) (v : B.Ev) (g : Nat)  (w : World) (hR : rowAt w g = some (mA c v))  :
    Calls Tryz.prog 47 #[.pointer (some ⟨g, 0, none⟩), .int .u8 49] w fun e w' => e = .returned (.tuple #[]) ∧ (rowAt w' g = some (mA (c) (v)) ∧ Below g w w') := by
  have q0 := rowAt_cell hR
  have f0 := rowAt_free hR
  have hl := rowAt_lt hR
  go_enter Tryz.func47, Tryz.ntmps47
  go_wp2
  (first | go_end0 | refine bodyPost_ret (results_none Tryz.results47 _ _ _) rfl ?_)
  exact ⟨rfl, hR, (show Below g w _ from by (repeat (first | (with_reducible assumption) | (with_reducible exact Below.refl _ _) | (with_reducible refine Below.drew ?_) | ((with_reducible refine Below.setCell ?_ ?_ _); rotate_left; (focus (first | omega | (simp; done) | (simp; omega)))) | ((with_reducible refine below_row ?_ ?_ _); rotate_left; (focus (first | omega | (simp; done) | (simp; omega)))) | ((with_reducible refine Below.alloc ?_ ?_ _); rotate_left; (focus (first | omega | (simp; done) | (simp; omega)))))))⟩
set_option maxHeartbeats 1000000 in
set_option maxRecDepth 100000 in
theorem flag_a48 (c : B.Cs) (v : B.Ev) (g : Nat)  (w : World) (hR : rowAt w g = some (mA c v)) (hn : ¬ c.n = 5) (h : c.n ≤ 5) :
    Calls Tryz.prog 49 #[.pointer (some ⟨g, 0, none⟩), .int .u8 48] w fun e w' => e = .returned (.tuple #[]) ∧ (rowAt w' g = some (mA ({ c with n := c.n + 1 }) (v)) ∧ Below g w w') := by
  have k6 : (((c.n : Nat) : Int) + 1 == 6) = false := by rw [beq_eq_false_iff_ne]; omega
  have q0 := rowAt_cell hR
  have f0 := rowAt_free hR
  have hl := rowAt_lt hR
  go_enter Tryz.func49, Tryz.ntmps49
  go_wp2
  (first | go_end0 | refine bodyPost_ret (results_none Tryz.results49 _ _ _) rfl ?_)
  exact ⟨rfl, by simp [go_sem, *] <;> rfl, (show Below g w _ from by (repeat (first | (with_reducible assumption) | (with_reducible exact Below.refl _ _) | (with_reducible refine Below.drew ?_) | ((with_reducible refine Below.setCell ?_ ?_ _); rotate_left; (focus (first | omega | (simp; done) | (simp; omega)))) | ((with_reducible refine below_row ?_ ?_ _); rotate_left; (focus (first | omega | (simp; done) | (simp; omega)))) | ((with_reducible refine Below.alloc ?_ ?_ _); rotate_left; (focus (first | omega | (simp; done) | (simp; omega)))))))⟩
set_option maxHeartbeats 1000000 in
set_option maxRecDepth 100000 in
theorem flag_b48 (c : B.Cs) (v : B.Ev) (g : Nat)  (w : World) (hR : rowAt w g = some (mA c v)) (hn : c.n = 5) :
    Calls Tryz.prog 49 #[.pointer (some ⟨g, 0, none⟩), .int .u8 48] w fun e w' => e = .returned (.tuple #[]) ∧ (rowAt w' g = some (mA (B.bareC c.cnt 4 0 c.was c.hard c.has c.fr) (v)) ∧ Below g w w') := by
  have CE := Lib.hid (fun (c : B.Cs) (v : B.Ev) (w : World) (h : rowAt w g = some (mA c v)) => m_enter c v g 4 4 w h rfl)
  have HN := Lib.hid hn
  have k6 : (((c.n : Nat) : Int) + 1 == 6) = true := by rw [beq_iff_eq]; omega
  have k7 : c.n ≤ 5 := by omega
  clear hn
  have q0 := rowAt_cell hR
  have f0 := rowAt_free hR
  have hl := rowAt_lt hR
  go_enter Tryz.func49, Tryz.ntmps49
  go_wp2_with (first
    | (go_at_call 70; (with_reducible refine (CE.out ({ c with n := c.n + 1 }) (v) _ ?_).mono ?_); (simp [go_sem, *] <;> rfl); rintro e w1 ⟨rfl, hRw1, hGw1⟩; have hlw1 := rowAt_lt hRw1; have qw1 := rowAt_cell hRw1; have fw1 := rowAt_free hRw1))
  (first | go_end0 | refine bodyPost_ret (results_none Tryz.results49 _ _ _) rfl ?_)
  exact ⟨rfl, hRw1, (((show Below g w _ from by (repeat (first | (with_reducible assumption) | (with_reducible exact Below.refl _ _) | (with_reducible refine Below.drew ?_) | ((with_reducible refine Below.setCell ?_ ?_ _); rotate_left; (focus (first | omega | (simp; done) | (simp; omega)))) | ((with_reducible refine below_row ?_ ?_ _); rotate_left; (focus (first | omega | (simp; done) | (simp; omega)))) | ((with_reducible refine Below.alloc ?_ ?_ _); rotate_left; (focus (first | omega | (simp; done) | (simp; omega))))))).trans hGw1).trans (show Below g w1 _ from by (repeat (first | (with_reducible assumption) | (with_reducible exact Below.refl _ _) | (with_reducible refine Below.drew ?_) | ((with_reducible refine Below.setCell ?_ ?_ _); rotate_left; (focus (first | omega | (simp; done) | (simp; omega)))) | ((with_reducible refine below_row ?_ ?_ _); rotate_left; (focus (first | omega | (simp; done) | (simp; omega)))) | ((with_reducible refine Below.alloc ?_ ?_ _); rotate_left; (focus (first | omega | (simp; done) | (simp; omega))))))))⟩
set_option maxHeartbeats 1000000 in
set_option maxRecDepth 100000 in
theorem flag_a49 (c : B.Cs) (v : B.Ev) (g : Nat)  (w : World) (hR : rowAt w g = some (mA c v)) (hn : ¬ c.n = 5) (h : c.n ≤ 5) :
    Calls Tryz.prog 49 #[.pointer (some ⟨g, 0, none⟩), .int .u8 49] w fun e w' => e = .returned (.tuple #[]) ∧ (rowAt w' g = some (mA ({ c with n := c.n + 1 }) (v)) ∧ Below g w w') := by
  have k6 : (((c.n : Nat) : Int) + 1 == 6) = false := by rw [beq_eq_false_iff_ne]; omega
  have q0 := rowAt_cell hR
  have f0 := rowAt_free hR
  have hl := rowAt_lt hR
  go_enter Tryz.func49, Tryz.ntmps49
  go_wp2
  (first | go_end0 | refine bodyPost_ret (results_none Tryz.results49 _ _ _) rfl ?_)
  exact ⟨rfl, by simp [go_sem, *] <;> rfl, (show Below g w _ from by (repeat (first | (with_reducible assumption) | (with_reducible exact Below.refl _ _) | (with_reducible refine Below.drew ?_) | ((with_reducible refine Below.setCell ?_ ?_ _); rotate_left; (focus (first | omega | (simp; done) | (simp; omega)))) | ((with_reducible refine below_row ?_ ?_ _); rotate_left; (focus (first | omega | (simp; done) | (simp; omega)))) | ((with_reducible refine Below.alloc ?_ ?_ _); rotate_left; (focus (first | omega | (simp; done) | (simp; omega)))))))⟩
set_option maxHeartbeats 1000000 in
set_option maxRecDepth 100000 in
theorem flag_b49 (c : B.Cs) (v : B.Ev) (g : Nat)  (w : World) (hR : rowAt w g = some (mA c v)) (hn : c.n = 5) :
    Calls Tryz.prog 49 #[.pointer (some ⟨g, 0, none⟩), .int .u8 49] w fun e w' => e = .returned (.tuple #[]) ∧ (rowAt w' g = some (mA (B.bareC c.cnt 4 0 c.was c.hard c.has c.fr) (v)) ∧ Below g w w') := by
  have CE := Lib.hid (fun (c : B.Cs) (v : B.Ev) (w : World) (h : rowAt w g = some (mA c v)) => m_enter c v g 4 4 w h rfl)
  have HN := Lib.hid hn
  have k6 : (((c.n : Nat) : Int) + 1 == 6) = true := by rw [beq_iff_eq]; omega
  have k7 : c.n ≤ 5 := by omega
  clear hn
  have q0 := rowAt_cell hR
  have f0 := rowAt_free hR
  have hl := rowAt_lt hR
  go_enter Tryz.func49, Tryz.ntmps49
  go_wp2_with (first
    | (go_at_call 70; (with_reducible refine (CE.out ({ c with n := c.n + 1 }) (v) _ ?_).mono ?_); (simp [go_sem, *] <;> rfl); rintro e w1 ⟨rfl, hRw1, hGw1⟩; have hlw1 := rowAt_lt hRw1; have qw1 := rowAt_cell hRw1; have fw1 := rowAt_free hRw1))
  (first | go_end0 | refine bodyPost_ret (results_none Tryz.results49 _ _ _) rfl ?_)
  exact ⟨rfl, hRw1, (((show Below g w _ from by (repeat (first | (with_reducible assumption) | (with_reducible exact Below.refl _ _) | (with_reducible refine Below.drew ?_) | ((with_reducible refine Below.setCell ?_ ?_ _); rotate_left; (focus (first | omega | (simp; done) | (simp; omega)))) | ((with_reducible refine below_row ?_ ?_ _); rotate_left; (focus (first | omega | (simp; done) | (simp; omega)))) | ((with_reducible refine Below.alloc ?_ ?_ _); rotate_left; (focus (first | omega | (simp; done) | (simp; omega))))))).trans hGw1).trans (show Below g w1 _ from by (repeat (first | (with_reducible assumption) | (with_reducible exact Below.refl _ _) | (with_reducible refine Below.drew ?_) | ((with_reducible refine Below.setCell ?_ ?_ _); rotate_left; (focus (first | omega | (simp; done) | (simp; omega)))) | ((with_reducible refine below_row ?_ ?_ _); rotate_left; (focus (first | omega | (simp; done) | (simp; omega)))) | ((with_reducible refine Below.alloc ?_ ?_ _); rotate_left; (focus (first | omega | (simp; done) | (simp; omega))))))))⟩
set_option maxHeartbeats 1000000 in
set_option maxRecDepth 100000 in
theorem delim_a (c : B.Cs) (v : B.Ev) (g : Nat)  (w : World) (hR : rowAt w g = some (mA c v))  :
    Calls Tryz.prog 51 #[.pointer (some ⟨g, 0, none⟩), .int .u8 48] w fun e w' => e = .returned (.tuple #[]) ∧ (rowAt w' g = some (mA (B.bareC c.cnt 3 0 c.was c.hard c.has c.fr) (v)) ∧ Below g w w') := by
  have CE := Lib.hid (fun (c : B.Cs) (v : B.Ev) (w : World) (h : rowAt w g = some (mA c v)) => m_enter c v g 3 3 w h rfl)
  have q0 := rowAt_cell hR
  have f0 := rowAt_free hR
  have hl := rowAt_lt hR
  go_enter Tryz.func51, Tryz.ntmps51
  go_wp2_with (first
    | (go_at_call 70; (with_reducible refine (CE.out (c) (v) _ ?_).mono ?_); (simp [go_sem, *] <;> rfl); rintro e w1 ⟨rfl, hRw1, hGw1⟩; have hlw1 := rowAt_lt hRw1; have qw1 := rowAt_cell hRw1; have fw1 := rowAt_free hRw1))
  (first | go_end0 | refine bodyPost_ret (results_none Tryz.results51 _ _ _) rfl ?_)
  exact ⟨rfl, hRw1, (((show Below g w _ from by (repeat (first | (with_reducible assumption) | (with_reducible exact Below.refl _ _) | (with_reducible refine Below.drew ?_) | ((with_reducible refine Below.setCell ?_ ?_ _); rotate_left; (focus (first | omega | (simp; done) | (simp; omega)))) | ((with_reducible refine below_row ?_ ?_ _); rotate_left; (focus (first | omega | (simp; done) | (simp; omega)))) | ((with_reducible refine Below.alloc ?_ ?_ _); rotate_left; (focus (first | omega | (simp; done) | (simp; omega))))))).trans hGw1).trans (show Below g w1 _ from by (repeat (first | (with_reducible assumption) | (with_reducible exact Below.refl _ _) | (with_reducible refine Below.drew ?_) | ((with_reducible refine Below.setCell ?_ ?_ _); rotate_left; (focus (first | omega | (simp; done) | (simp; omega)))) | ((with_reducible refine below_row ?_ ?_ _); rotate_left; (focus (first | omega | (simp; done) | (simp; omega)))) | ((with_reducible refine Below.alloc ?_ ?_ _); rotate_left; (focus (first | omega | (simp; done) | (simp; omega))))))))⟩
set_option maxHeartbeats 1000000 in
set_option maxRecDepth 100000 in
theorem delim_b (c : B.Cs) (v : B.Ev) (g : Nat)  (w : World) (hR : rowAt w g = some (mA c v)) (hn : ¬ c.n = 7) (h : c.n ≤ 7) :
    Calls Tryz.prog 51 #[.pointer (some ⟨g, 0, none⟩), .int .u8 49] w fun e w' => e = .returned (.tuple #[]) ∧ (rowAt w' g = some (mA ({ c with n := c.n + 1 }) (v)) ∧ Below g w w') := by
  have k6 : (((c.n : Nat) : Int) + 1 == 8) = false := by rw [beq_eq_false_iff_ne]; omega
  have q0 := rowAt_cell hR
  have f0 := rowAt_free hR
  have hl := rowAt_lt hR
  go_enter Tryz.func51, Tryz.ntmps51
  go_wp2
  (first | go_end0 | refine bodyPost_ret (results_none Tryz.results51 _ _ _) rfl ?_)
  exact ⟨rfl, by simp [go_sem, *] <;> rfl, (show Below g w _ from by (repeat (first | (with_reducible assumption) | (with_reducible exact Below.refl _ _) | (with_reducible refine Below.drew ?_) | ((with_reducible refine Below.setCell ?_ ?_ _); rotate_left; (focus (first | omega | (simp; done) | (simp; omega)))) | ((with_reducible refine below_row ?_ ?_ _); rotate_left; (focus (first | omega | (simp; done) | (simp; omega)))) | ((with_reducible refine Below.alloc ?_ ?_ _); rotate_left; (focus (first | omega | (simp; done) | (simp; omega)))))))⟩
set_option maxHeartbeats 1000000 in
set_option maxRecDepth 100000 in
theorem delim_c (c : B.Cs) (v : B.Ev) (g : Nat)  (w : World) (hR : rowAt w g = some (mA c v)) (hn : c.n = 7) :
    Calls Tryz.prog 51 #[.pointer (some ⟨g, 0, none⟩), .int .u8 49] w fun e w' => e = .returned (.tuple #[]) ∧ (rowAt w' g = some (mA (B.bareC c.cnt 6 0 c.was c.hard c.has c.fr) (v)) ∧ Below g w w') := by
  have CE := Lib.hid (fun (c : B.Cs) (v : B.Ev) (w : World) (h : rowAt w g = some (mA c v)) => m_enter c v g 6 6 w h rfl)
  have k6 : (((c.n : Nat) : Int) + 1 == 8) = true := by rw [beq_iff_eq]; omega
  have k7 : c.n ≤ 7 := by omega
  clear hn
  have q0 := rowAt_cell hR
  have f0 := rowAt_free hR
  have hl := rowAt_lt hR
  go_enter Tryz.func51, Tryz.ntmps51
  go_wp2_with (first
    | (go_at_call 70; (with_reducible refine (CE.out ({ c with n := c.n + 1 }) (v) _ ?_).mono ?_); (simp [go_sem, *] <;> rfl); rintro e w1 ⟨rfl, hRw1, hGw1⟩; have hlw1 := rowAt_lt hRw1; have qw1 := rowAt_cell hRw1; have fw1 := rowAt_free hRw1))
  (first | go_end0 | refine bodyPost_ret (results_none Tryz.results51 _ _ _) rfl ?_)
  exact ⟨rfl, hRw1, (((show Below g w _ from by (repeat (first | (with_reducible assumption) | (with_reducible exact Below.refl _ _) | (with_reducible refine Below.drew ?_) | ((with_reducible refine Below.setCell ?_ ?_ _); rotate_left; (focus (first | omega | (simp; done) | (simp; omega)))) | ((with_reducible refine below_row ?_ ?_ _); rotate_left; (focus (first | omega | (simp; done) | (simp; omega)))) | ((with_reducible refine Below.alloc ?_ ?_ _); rotate_left; (focus (first | omega | (simp; done) | (simp; omega))))))).trans hGw1).trans (show Below g w1 _ from by (repeat (first | (with_reducible assumption) | (with_reducible exact Below.refl _ _) | (with_reducible refine Below.drew ?_) | ((with_reducible refine Below.setCell ?_ ?_ _); rotate_left; (focus (first | omega | (simp; done) | (simp; omega)))) | ((with_reducible refine below_row ?_ ?_ _); rotate_left; (focus (first | omega | (simp; done) | (simp; omega)))) | ((with_reducible refine Below.alloc ?_ ?_ _); rotate_left; (focus (first | omega | (simp; done) | (simp; omega))))))))⟩
set_option maxHeartbeats 1000000 in
set_option maxRecDepth 100000 in
theorem hold_a (c : B.Cs) (v : B.Ev) (g : Nat)  (w : World) (hR : rowAt w g = some (mA c v))  :
    Calls Tryz.prog 53 #[.pointer (some ⟨g, 0, none⟩), .int .u8 48] w fun e w' => e = .returned (.tuple #[]) ∧ (rowAt w' g = some (mA (c.begin_ false) (v)) ∧ Below g w w') := by
  have CB := Lib.hid (fun (c' : B.Cs) (v' : B.Ev) (w : World) (h : rowAt w g = some (mA c' v')) => m_begin0 c' v' g w h)
  have q0 := rowAt_cell hR
  have f0 := rowAt_free hR
  have hl := rowAt_lt hR
  go_enter Tryz.func53, Tryz.ntmps53
  go_wp2_with (first
    | (go_at_call 71; (with_reducible refine (CB.out (c) (v) _ ?_).mono ?_); (simp [go_sem, *] <;> rfl); rintro e w1 ⟨rfl, hRw1, hGw1⟩; have hlw1 := rowAt_lt hRw1; have qw1 := rowAt_cell hRw1; have fw1 := rowAt_free hRw1))
  (first | go_end0 | refine bodyPost_ret (results_none Tryz.results53 _ _ _) rfl ?_)
  exact ⟨rfl, hRw1, (((show Below g w _ from by (repeat (first | (with_reducible assumption) | (with_reducible exact Below.refl _ _) | (with_reducible refine Below.drew ?_) | ((with_reducible refine Below.setCell ?_ ?_ _); rotate_left; (focus (first | omega | (simp; done) | (simp; omega)))) | ((with_reducible refine below_row ?_ ?_ _); rotate_left; (focus (first | omega | (simp; done) | (simp; omega)))) | ((with_reducible refine Below.alloc ?_ ?_ _); rotate_left; (focus (first | omega | (simp; done) | (simp; omega))))))).trans hGw1).trans (show Below g w1 _ from by (repeat (first | (with_reducible assumption) | (with_reducible exact Below.refl _ _) | (with_reducible refine Below.drew ?_) | ((with_reducible refine Below.setCell ?_ ?_ _); rotate_left; (focus (first | omega | (simp; done) | (simp; omega)))) | ((with_reducible refine below_row ?_ ?_ _); rotate_left; (focus (first | omega | (simp; done) | (simp; omega)))) | ((with_reducible refine Below.alloc ?_ ?_ _); rotate_left; (focus (first | omega | (simp; done) | (simp; omega))))))))⟩
set_option maxHeartbeats 1000000 in
set_option maxRecDepth 100000 in
theorem hold_b (c : B.Cs) (v : B.Ev) (g : Nat)  (w : World) (hR : rowAt w g = some (mA c v)) (hn : ¬ c.n = 7) (h : c.n ≤ 7) :
    Calls Tryz.prog 53 #[.pointer (some ⟨g, 0, none⟩), .int .u8 49] w fun e w' => e = .returned (.tuple #[]) ∧ (rowAt w' g = some (mA ({ c with n := c.n + 1 }) (v)) ∧ Below g w w') := by
  have k6 : (((c.n : Nat) : Int) + 1 == 8) = false := by rw [beq_eq_false_iff_ne]; omega
  have q0 := rowAt_cell hR
  have f0 := rowAt_free hR
  have hl := rowAt_lt hR
  go_enter Tryz.func53, Tryz.ntmps53
  go_wp2
  (first | go_end0 | refine bodyPost_ret (results_none Tryz.results53 _ _ _) rfl ?_)
  exact ⟨rfl, by simp [go_sem, *] <;> rfl, (show Below g w _ from by (repeat (first | (with_reducible assumption) | (with_reducible exact Below.refl _ _) | (with_reducible refine Below.drew ?_) | ((with_reducible refine Below.setCell ?_ ?_ _); rotate_left; (focus (first | omega | (simp; done) | (simp; omega)))) | ((with_reducible refine below_row ?_ ?_ _); rotate_left; (focus (first | omega | (simp; done) | (simp; omega)))) | ((with_reducible refine Below.alloc ?_ ?_ _); rotate_left; (focus (first | omega | (simp; done) | (simp; omega)))))))⟩
set_option maxHeartbeats 1000000 in
set_option maxRecDepth 100000 in
theorem hold_c (c : B.Cs) (v : B.Ev) (g : Nat)  (w : World) (hR : rowAt w g = some (mA c v)) (hn : c.n = 7) :
    Calls Tryz.prog 53 #[.pointer (some ⟨g, 0, none⟩), .int .u8 49] w fun e w' => e = .returned (.tuple #[]) ∧ (rowAt w' g = some (mA (B.bareC c.cnt 1 0 c.was c.hard c.has c.fr) (v)) ∧ Below g w w') := by
  have CE := Lib.hid (fun (c : B.Cs) (v : B.Ev) (w : World) (h : rowAt w g = some (mA c v)) => m_enter c v g 1 1 w h rfl)
  have k6 : (((c.n : Nat) : Int) + 1 == 8) = true := by rw [beq_iff_eq]; omega
  have k7 : c.n ≤ 7 := by omega
  clear hn
  have q0 := rowAt_cell hR
  have f0 := rowAt_free hR
  have hl := rowAt_lt hR
  go_enter Tryz.func53, Tryz.ntmps53
  go_wp2_with (first
    | (go_at_call 70; (with_reducible refine (CE.out ({ c with n := c.n + 1 }) (v) _ ?_).mono ?_); (simp [go_sem, *] <;> rfl); rintro e w1 ⟨rfl, hRw1, hGw1⟩; have hlw1 := rowAt_lt hRw1; have qw1 := rowAt_cell hRw1; have fw1 := rowAt_free hRw1))
  (first | go_end0 | refine bodyPost_ret (results_none Tryz.results53 _ _ _) rfl ?_)
  exact ⟨rfl, hRw1, (((show Below g w _ from by (repeat (first | (with_reducible assumption) | (with_reducible exact Below.refl _ _) | (with_reducible refine Below.drew ?_) | ((with_reducible refine Below.setCell ?_ ?_ _); rotate_left; (focus (first | omega | (simp; done) | (simp; omega)))) | ((with_reducible refine below_row ?_ ?_ _); rotate_left; (focus (first | omega | (simp; done) | (simp; omega)))) | ((with_reducible refine Below.alloc ?_ ?_ _); rotate_left; (focus (first | omega | (simp; done) | (simp; omega))))))).trans hGw1).trans (show Below g w1 _ from by (repeat (first | (with_reducible assumption) | (with_reducible exact Below.refl _ _) | (with_reducible refine Below.drew ?_) | ((with_reducible refine Below.setCell ?_ ?_ _); rotate_left; (focus (first | omega | (simp; done) | (simp; omega)))) | ((with_reducible refine below_row ?_ ?_ _); rotate_left; (focus (first | omega | (simp; done) | (simp; omega)))) | ((with_reducible refine Below.alloc ?_ ?_ _); rotate_left; (focus (first | omega | (simp; done) | (simp; omega))))))))⟩
set_option maxHeartbeats 1000000 in
set_option maxRecDepth 100000 in
theorem gap_a (c : B.Cs) (v : B.Ev) (g : Nat)  (w : World) (hR : rowAt w g = some (mA c v)) (hn : c.n < 2) :
    Calls Tryz.prog 52 #[.pointer (some ⟨g, 0, none⟩), .int .u8 48] w fun e w' => e = .returned (.tuple #[]) ∧ (rowAt w' g = some (mA (B.bareC c.cnt 3 0 c.was true c.has c.fr) (v)) ∧ Below g w w') := by
  have CV := Lib.hid (fun (c' : B.Cs) (v' : B.Ev) (w : World) (h : rowAt w g = some (mA c' v')) => m_overload c' v' g w h)
  have k2 : decide (((c.n : Nat) : Int) < 2) = true := by rw [decide_eq_true_eq]; omega
  clear hn
  have q0 := rowAt_cell hR
  have f0 := rowAt_free hR
  have hl := rowAt_lt hR
  go_enter Tryz.func52, Tryz.ntmps52
  go_wp2_with (first
    | (go_at_call 77; (with_reducible refine (CV.out (c) (v) _ ?_).mono ?_); (simp [go_sem, *] <;> rfl); rintro e w1 ⟨rfl, hRw1, hGw1⟩; have hlw1 := rowAt_lt hRw1; have qw1 := rowAt_cell hRw1; have fw1 := rowAt_free hRw1))
  (first | go_end0 | refine bodyPost_ret (results_none Tryz.results52 _ _ _) rfl ?_)
  exact ⟨rfl, hRw1, (((show Below g w _ from by (repeat (first | (with_reducible assumption) | (with_reducible exact Below.refl _ _) | (with_reducible refine Below.drew ?_) | ((with_reducible refine Below.setCell ?_ ?_ _); rotate_left; (focus (first | omega | (simp; done) | (simp; omega)))) | ((with_reducible refine below_row ?_ ?_ _); rotate_left; (focus (first | omega | (simp; done) | (simp; omega)))) | ((with_reducible refine Below.alloc ?_ ?_ _); rotate_left; (focus (first | omega | (simp; done) | (simp; omega))))))).trans hGw1).trans (show Below g w1 _ from by (repeat (first | (with_reducible assumption) | (with_reducible exact Below.refl _ _) | (with_reducible refine Below.drew ?_) | ((with_reducible refine Below.setCell ?_ ?_ _); rotate_left; (focus (first | omega | (simp; done) | (simp; omega)))) | ((with_reducible refine below_row ?_ ?_ _); rotate_left; (focus (first | omega | (simp; done) | (simp; omega)))) | ((with_reducible refine Below.alloc ?_ ?_ _); rotate_left; (focus (first | omega | (simp; done) | (simp; omega))))))))⟩
set_option maxHeartbeats 1000000 in
set_option maxRecDepth 100000 in
theorem gap_b (c : B.Cs) (v : B.Ev) (g : Nat)  (w : World) (hR : rowAt w g = some (mA c v)) (hn : c.n = 2) :
    Calls Tryz.prog 52 #[.pointer (some ⟨g, 0, none⟩), .int .u8 48] w fun e w' => e = .returned (.tuple #[]) ∧ (rowAt w' g = some (mA (c.begin_ false) (v)) ∧ Below g w w') := by
  have CB := Lib.hid (fun (c' : B.Cs) (v' : B.Ev) (w : World) (h : rowAt w g = some (mA c' v')) => m_begin0 c' v' g w h)
  have k2 : decide (((c.n : Nat) : Int) < 2) = false := by rw [decide_eq_false_iff_not]; omega
  clear hn
  have q0 := rowAt_cell hR
  have f0 := rowAt_free hR
  have hl := rowAt_lt hR
  go_enter Tryz.func52, Tryz.ntmps52
  go_wp2_with (first
    | (go_at_call 71; (with_reducible refine (CB.out (c) (v) _ ?_).mono ?_); (simp [go_sem, *] <;> rfl); rintro e w1 ⟨rfl, hRw1, hGw1⟩; have hlw1 := rowAt_lt hRw1; have qw1 := rowAt_cell hRw1; have fw1 := rowAt_free hRw1))
  (first | go_end0 | refine bodyPost_ret (results_none Tryz.results52 _ _ _) rfl ?_)
  exact ⟨rfl, hRw1, (((show Below g w _ from by (repeat (first | (with_reducible assumption) | (with_reducible exact Below.refl _ _) | (with_reducible refine Below.drew ?_) | ((with_reducible refine Below.setCell ?_ ?_ _); rotate_left; (focus (first | omega | (simp; done) | (simp; omega)))) | ((with_reducible refine below_row ?_ ?_ _); rotate_left; (focus (first | omega | (simp; done) | (simp; omega)))) | ((with_reducible refine Below.alloc ?_ ?_ _); rotate_left; (focus (first | omega | (simp; done) | (simp; omega))))))).trans hGw1).trans (show Below g w1 _ from by (repeat (first | (with_reducible assumption) | (with_reducible exact Below.refl _ _) | (with_reducible refine Below.drew ?_) | ((with_reducible refine Below.setCell ?_ ?_ _); rotate_left; (focus (first | omega | (simp; done) | (simp; omega)))) | ((with_reducible refine below_row ?_ ?_ _); rotate_left; (focus (first | omega | (simp; done) | (simp; omega)))) | ((with_reducible refine Below.alloc ?_ ?_ _); rotate_left; (focus (first | omega | (simp; done) | (simp; omega))))))))⟩
set_option maxHeartbeats 1000000 in
set_option maxRecDepth 100000 in
theorem gap_c (c : B.Cs) (v : B.Ev) (g : Nat)  (w : World) (hR : rowAt w g = some (mA c v)) (hn : c.n < 2) :
    Calls Tryz.prog 52 #[.pointer (some ⟨g, 0, none⟩), .int .u8 49] w fun e w' => e = .returned (.tuple #[]) ∧ (rowAt w' g = some (mA ({ c with n := c.n + 1 }) (v)) ∧ Below g w w') := by
  have k2 : decide (((c.n : Nat) : Int) < 2) = true := by rw [decide_eq_true_eq]; omega
  have q0 := rowAt_cell hR
  have f0 := rowAt_free hR
  have hl := rowAt_lt hR
  go_enter Tryz.func52, Tryz.ntmps52
  go_wp2
  (first | go_end0 | refine bodyPost_ret (results_none Tryz.results52 _ _ _) rfl ?_)
  exact ⟨rfl, by simp [go_sem, *] <;> rfl, (show Below g w _ from by (repeat (first | (with_reducible assumption) | (with_reducible exact Below.refl _ _) | (with_reducible refine Below.drew ?_) | ((with_reducible refine Below.setCell ?_ ?_ _); rotate_left; (focus (first | omega | (simp; done) | (simp; omega)))) | ((with_reducible refine below_row ?_ ?_ _); rotate_left; (focus (first | omega | (simp; done) | (simp; omega)))) | ((with_reducible refine Below.alloc ?_ ?_ _); rotate_left; (focus (first | omega | (simp; done) | (simp; omega)))))))⟩
set_option maxHeartbeats 1000000 in
set_option maxRecDepth 100000 in
theorem gap_d (c : B.Cs) (v : B.Ev) (g : Nat)  (w : World) (hR : rowAt w g = some (mA c v)) (hn : c.n = 2) (hw : c.was = true) (hk : c.cnt.may) (hp : c.cnt.state = 2) :
    Calls Tryz.prog 52 #[.pointer (some ⟨g, 0, none⟩), .int .u8 49] w fun e w' => e = .returned (.tuple #[]) ∧ (rowAt w' g = some (mA (B.bareC c.cnt 7 0 c.was c.hard c.has c.fr) (v)) ∧ Below g w w') := by
  have CI := Lib.hid (fun (c' : B.Cs) (v' : B.Ev) (w : World) (h : rowAt w g = some (mA c' v')) (hc : c'.cnt.may) => m_is c' v' g 2 2 w h hc rfl)
  have CE := Lib.hid (fun (c : B.Cs) (v : B.Ev) (w : World) (h : rowAt w g = some (mA c v)) => m_enter c v g 7 7 w h rfl)
  have k2 : decide (((c.n : Nat) : Int) < 2) = false := by rw [decide_eq_false_iff_not]; omega
  clear hn
  have q0 := rowAt_cell hR
  have f0 := rowAt_free hR
  have hl := rowAt_lt hR
  go_enter Tryz.func52, Tryz.ntmps52
  go_wp2_with (first
    | (go_at_call 78; (with_reducible refine (CI.out (c) (v) _ ?_ hk).mono ?_); (simp [go_sem, *] <;> rfl); rintro e w1 ⟨rfl, hRw1, hGw1⟩; have hlw1 := rowAt_lt hRw1; have qw1 := rowAt_cell hRw1; have fw1 := rowAt_free hRw1)
    | (go_at_call 70; (with_reducible refine (CE.out (c) (v) _ ?_).mono ?_); (simp [go_sem, *] <;> rfl); rintro e w2 ⟨rfl, hRw2, hGw2⟩; have hlw2 := rowAt_lt hRw2; have qw2 := rowAt_cell hRw2; have fw2 := rowAt_free hRw2))
  (first | go_end0 | refine bodyPost_ret (results_none Tryz.results52 _ _ _) rfl ?_)
  exact ⟨rfl, hRw2, ((((show Below g w _ from by (repeat (first | (with_reducible assumption) | (with_reducible exact Below.refl _ _) | (with_reducible refine Below.drew ?_) | ((with_reducible refine Below.setCell ?_ ?_ _); rotate_left; (focus (first | omega | (simp; done) | (simp; omega)))) | ((with_reducible refine below_row ?_ ?_ _); rotate_left; (focus (first | omega | (simp; done) | (simp; omega)))) | ((with_reducible refine Below.alloc ?_ ?_ _); rotate_left; (focus (first | omega | (simp; done) | (simp; omega))))))).trans hGw1).trans ((show Below g w1 _ from by (repeat (first | (with_reducible assumption) | (with_reducible exact Below.refl _ _) | (with_reducible refine Below.drew ?_) | ((with_reducible refine Below.setCell ?_ ?_ _); rotate_left; (focus (first | omega | (simp; done) | (simp; omega)))) | ((with_reducible refine below_row ?_ ?_ _); rotate_left; (focus (first | omega | (simp; done) | (simp; omega)))) | ((with_reducible refine Below.alloc ?_ ?_ _); rotate_left; (focus (first | omega | (simp; done) | (simp; omega))))))).trans hGw2)).trans (show Below g w2 _ from by (repeat (first | (with_reducible assumption) | (with_reducible exact Below.refl _ _) | (with_reducible refine Below.drew ?_) | ((with_reducible refine Below.setCell ?_ ?_ _); rotate_left; (focus (first | omega | (simp; done) | (simp; omega)))) | ((with_reducible refine below_row ?_ ?_ _); rotate_left; (focus (first | omega | (simp; done) | (simp; omega)))) | ((with_reducible refine Below.alloc ?_ ?_ _); rotate_left; (focus (first | omega | (simp; done) | (simp; omega))))))))⟩
set_option maxHeartbeats 1000000 in
set_option maxRecDepth 100000 in
theorem gap_e (c : B.Cs) (v : B.Ev) (g : Nat)  (w : World) (hR : rowAt w g = some (mA c v)) (hn : c.n = 2) (hw : c.was = true) (hk : c.cnt.may) (hp : ¬ c.cnt.state = 2) :
    Calls Tryz.prog 52 #[.pointer (some ⟨g, 0, none⟩), .int .u8 49] w fun e w' => e = .returned (.tuple #[]) ∧ (rowAt w' g = some (mA (B.bareC c.cnt 1 0 c.was c.hard c.has c.fr) (v)) ∧ Below g w w') := by
  have CI := Lib.hid (fun (c' : B.Cs) (v' : B.Ev) (w : World) (h : rowAt w g = some (mA c' v')) (hc : c'.cnt.may) => m_is c' v' g 2 2 w h hc rfl)
  have CE := Lib.hid (fun (c : B.Cs) (v : B.Ev) (w : World) (h : rowAt w g = some (mA c v)) => m_enter c v g 1 1 w h rfl)
  have k2 : decide (((c.n : Nat) : Int) < 2) = false := by rw [decide_eq_false_iff_not]; omega
  clear hn
  have q0 := rowAt_cell hR
  have f0 := rowAt_free hR
  have hl := rowAt_lt hR
  go_enter Tryz.func52, Tryz.ntmps52
  go_wp2_with (first
    | (go_at_call 78; (with_reducible refine (CI.out (c) (v) _ ?_ hk).mono ?_); (simp [go_sem, *] <;> rfl); rintro e w1 ⟨rfl, hRw1, hGw1⟩; have hlw1 := rowAt_lt hRw1; have qw1 := rowAt_cell hRw1; have fw1 := rowAt_free hRw1)
    | (go_at_call 70; (with_reducible refine (CE.out (c) (v) _ ?_).mono ?_); (simp [go_sem, *] <;> rfl); rintro e w2 ⟨rfl, hRw2, hGw2⟩; have hlw2 := rowAt_lt hRw2; have qw2 := rowAt_cell hRw2; have fw2 := rowAt_free hRw2))
  (first | go_end0 | refine bodyPost_ret (results_none Tryz.results52 _ _ _) rfl ?_)
  exact ⟨rfl, hRw2, ((((show Below g w _ from by (repeat (first | (with_reducible assumption) | (with_reducible exact Below.refl _ _) | (with_reducible refine Below.drew ?_) | ((with_reducible refine Below.setCell ?_ ?_ _); rotate_left; (focus (first | omega | (simp; done) | (simp; omega)))) | ((with_reducible refine below_row ?_ ?_ _); rotate_left; (focus (first | omega | (simp; done) | (simp; omega)))) | ((with_reducible refine Below.alloc ?_ ?_ _); rotate_left; (focus (first | omega | (simp; done) | (simp; omega))))))).trans hGw1).trans ((show Below g w1 _ from by (repeat (first | (with_reducible assumption) | (with_reducible exact Below.refl _ _) | (with_reducible refine Below.drew ?_) | ((with_reducible refine Below.setCell ?_ ?_ _); rotate_left; (focus (first | omega | (simp; done) | (simp; omega)))) | ((with_reducible refine below_row ?_ ?_ _); rotate_left; (focus (first | omega | (simp; done) | (simp; omega)))) | ((with_reducible refine Below.alloc ?_ ?_ _); rotate_left; (focus (first | omega | (simp; done) | (simp; omega))))))).trans hGw2)).trans (show Below g w2 _ from by (repeat (first | (with_reducible assumption) | (with_reducible exact Below.refl _ _) | (with_reducible refine Below.drew ?_) | ((with_reducible refine Below.setCell ?_ ?_ _); rotate_left; (focus (first | omega | (simp; done) | (simp; omega)))) | ((with_reducible refine below_row ?_ ?_ _); rotate_left; (focus (first | omega | (simp; done) | (simp; omega)))) | ((with_reducible refine Below.alloc ?_ ?_ _); rotate_left; (focus (first | omega | (simp; done) | (simp; omega))))))))⟩
set_option maxHeartbeats 1000000 in
set_option maxRecDepth 100000 in
theorem gap_f (c : B.Cs) (v : B.Ev) (g : Nat)  (w : World) (hR : rowAt w g = some (mA c v)) (hn : c.n = 2) (hw : c.was = false) :
    Calls Tryz.prog 52 #[.pointer (some ⟨g, 0, none⟩), .int .u8 49] w fun e w' => e = .returned (.tuple #[]) ∧ (rowAt w' g = some (mA (B.bareC c.cnt 1 0 c.was c.hard c.has c.fr) (v)) ∧ Below g w w') := by
  have CE := Lib.hid (fun (c : B.Cs) (v : B.Ev) (w : World) (h : rowAt w g = some (mA c v)) => m_enter c v g 1 1 w h rfl)
  have k2 : decide (((c.n : Nat) : Int) < 2) = false := by rw [decide_eq_false_iff_not]; omega
  clear hn
  have q0 := rowAt_cell hR
  have f0 := rowAt_free hR
  have hl := rowAt_lt hR
  go_enter Tryz.func52, Tryz.ntmps52
  go_wp2_with (first
    | (go_at_call 70; (with_reducible refine (CE.out (c) (v) _ ?_).mono ?_); (simp [go_sem, *] <;> rfl); rintro e w1 ⟨rfl, hRw1, hGw1⟩; have hlw1 := rowAt_lt hRw1; have qw1 := rowAt_cell hRw1; have fw1 := rowAt_free hRw1))
  (first | go_end0 | refine bodyPost_ret (results_none Tryz.results52 _ _ _) rfl ?_)
  exact ⟨rfl, hRw1, (((show Below g w _ from by (repeat (first | (with_reducible assumption) | (with_reducible exact Below.refl _ _) | (with_reducible refine Below.drew ?_) | ((with_reducible refine Below.setCell ?_ ?_ _); rotate_left; (focus (first | omega | (simp; done) | (simp; omega)))) | ((with_reducible refine below_row ?_ ?_ _); rotate_left; (focus (first | omega | (simp; done) | (simp; omega)))) | ((with_reducible refine Below.alloc ?_ ?_ _); rotate_left; (focus (first | omega | (simp; done) | (simp; omega))))))).trans hGw1).trans (show Below g w1 _ from by (repeat (first | (with_reducible assumption) | (with_reducible exact Below.refl _ _) | (with_reducible refine Below.drew ?_) | ((with_reducible refine Below.setCell ?_ ?_ _); rotate_left; (focus (first | omega | (simp; done) | (simp; omega)))) | ((with_reducible refine below_row ?_ ?_ _); rotate_left; (focus (first | omega | (simp; done) | (simp; omega)))) | ((with_reducible refine Below.alloc ?_ ?_ _); rotate_left; (focus (first | omega | (simp; done) | (simp; omega))))))))⟩
set_option maxHeartbeats 1000000 in
set_option maxRecDepth 100000 in
theorem rest_a (c : B.Cs) (v : B.Ev) (g : Nat)  (w : World) (hR : rowAt w g = some (mA c v))  :
    Calls Tryz.prog 54 #[.pointer (some ⟨g, 0, none⟩), .int .u8 48] w fun e w' => e = .returned (.tuple #[]) ∧ (rowAt w' g = some (mA ({ c with n := 0 }) (v)) ∧ Below g w w') := by
  have CR := Lib.hid (fun (c' : B.Cs) (v' : B.Ev) (w : World) (h : rowAt w g = some (mA c' v')) => m_rested0 c' v' g w h)
  have q0 := rowAt_cell hR
  have f0 := rowAt_free hR
  have hl := rowAt_lt hR
  go_enter Tryz.func54, Tryz.ntmps54
  go_wp2_with (first
    | (go_at_call 69; (with_reducible refine (CR.out (c) (v) _ ?_).mono ?_); (simp [go_sem, *] <;> rfl); rintro e w1 ⟨rfl, hRw1, hGw1⟩; have hlw1 := rowAt_lt hRw1; have qw1 := rowAt_cell hRw1; have fw1 := rowAt_free hRw1))
  (first | go_end0 | refine bodyPost_ret (results_none Tryz.results54 _ _ _) rfl ?_)
  exact ⟨rfl, hRw1, (((show Below g w _ from by (repeat (first | (with_reducible assumption) | (with_reducible exact Below.refl _ _) | (with_reducible refine Below.drew ?_) | ((with_reducible refine Below.setCell ?_ ?_ _); rotate_left; (focus (first | omega | (simp; done) | (simp; omega)))) | ((with_reducible refine below_row ?_ ?_ _); rotate_left; (focus (first | omega | (simp; done) | (simp; omega)))) | ((with_reducible refine Below.alloc ?_ ?_ _); rotate_left; (focus (first | omega | (simp; done) | (simp; omega))))))).trans hGw1).trans (show Below g w1 _ from by (repeat (first | (with_reducible assumption) | (with_reducible exact Below.refl _ _) | (with_reducible refine Below.drew ?_) | ((with_reducible refine Below.setCell ?_ ?_ _); rotate_left; (focus (first | omega | (simp; done) | (simp; omega)))) | ((with_reducible refine below_row ?_ ?_ _); rotate_left; (focus (first | omega | (simp; done) | (simp; omega)))) | ((with_reducible refine Below.alloc ?_ ?_ _); rotate_left; (focus (first | omega | (simp; done) | (simp; omega))))))))⟩
set_option maxHeartbeats 1000000 in
set_option maxRecDepth 100000 in
theorem rest_b (c : B.Cs) (v : B.Ev) (g : Nat)  (w : World) (hR : rowAt w g = some (mA c v)) (hn : ¬ c.n = 10) (h : c.n ≤ 10) :
    Calls Tryz.prog 54 #[.pointer (some ⟨g, 0, none⟩), .int .u8 49] w fun e w' => e = .returned (.tuple #[]) ∧ (rowAt w' g = some (mA ({ c with n := c.n + 1 }) (v)) ∧ Below g w w') := by
  have CR := Lib.hid (fun (c' : B.Cs) (v' : B.Ev) (w : World) (h : rowAt w g = some (mA c' v')) (h1 : c'.n ≤ 1000000) => m_rested1 c' v' g w h h1)
  have q0 := rowAt_cell hR
  have f0 := rowAt_free hR
  have hl := rowAt_lt hR
  go_enter Tryz.func54, Tryz.ntmps54
  go_wp2_with (first
    | (go_at_call 69; (with_reducible refine (CR.out (c) (v) _ ?_ (by omega)).mono ?_); (simp [go_sem, *] <;> rfl); rintro e w1 ⟨rfl, hRw1, hGw1⟩; have hlw1 := rowAt_lt hRw1; have qw1 := rowAt_cell hRw1; have fw1 := rowAt_free hRw1))
  (first | go_end0 | refine bodyPost_ret (results_none Tryz.results54 _ _ _) rfl ?_)
  exact ⟨rfl, hRw1, (((show Below g w _ from by (repeat (first | (with_reducible assumption) | (with_reducible exact Below.refl _ _) | (with_reducible refine Below.drew ?_) | ((with_reducible refine Below.setCell ?_ ?_ _); rotate_left; (focus (first | omega | (simp; done) | (simp; omega)))) | ((with_reducible refine below_row ?_ ?_ _); rotate_left; (focus (first | omega | (simp; done) | (simp; omega)))) | ((with_reducible refine Below.alloc ?_ ?_ _); rotate_left; (focus (first | omega | (simp; done) | (simp; omega))))))).trans hGw1).trans (show Below g w1 _ from by (repeat (first | (with_reducible assumption) | (with_reducible exact Below.refl _ _) | (with_reducible refine Below.drew ?_) | ((with_reducible refine Below.setCell ?_ ?_ _); rotate_left; (focus (first | omega | (simp; done) | (simp; omega)))) | ((with_reducible refine below_row ?_ ?_ _); rotate_left; (focus (first | omega | (simp; done) | (simp; omega)))) | ((with_reducible refine Below.alloc ?_ ?_ _); rotate_left; (focus (first | omega | (simp; done) | (simp; omega))))))))⟩
set_option maxHeartbeats 1000000 in
set_option maxRecDepth 100000 in
theorem rest_c (c : B.Cs) (v : B.Ev) (g : Nat)  (w : World) (hR : rowAt w g = some (mA c v)) (hn : c.n = 10) (hk : c.cnt.may) (ho : (c.cnt.step 7).o = true) :
    Calls Tryz.prog 54 #[.pointer (some ⟨g, 0, none⟩), .int .u8 49] w fun e w' => e = .returned (.tuple #[]) ∧ (rowAt w' g = some (mA ({ c with cnt := c.cnt.step 7, n := 0 }) (v)) ∧ Below g w w') := by
  have CR := Lib.hid (fun (c' : B.Cs) (v' : B.Ev) (w : World) (h : rowAt w g = some (mA c' v')) (h1 : c'.n ≤ 1000000) => m_rested1 c' v' g w h h1)
  have CC := Lib.hid (fun (c' : B.Cs) (v' : B.Ev) (w : World) (h : rowAt w g = some (mA c' v')) (hc : c'.cnt.may) => m_count c' v' g 7 7 w h hc rfl (by omega))
  have q0 := rowAt_cell hR
  have f0 := rowAt_free hR
  have hl := rowAt_lt hR
  go_enter Tryz.func54, Tryz.ntmps54
  go_wp2_with (first
    | (go_at_call 69; (with_reducible refine (CR.out (c) (v) _ ?_ (by omega)).mono ?_); (simp [go_sem, *] <;> rfl); rintro e w1 ⟨rfl, hRw1, hGw1⟩; have hlw1 := rowAt_lt hRw1; have qw1 := rowAt_cell hRw1; have fw1 := rowAt_free hRw1)
    | (go_at_call 75; (with_reducible refine (CC.out ({ c with n := 0 }) (v) _ ?_ hk).mono ?_); (simp [go_sem, *] <;> rfl); rintro e w2 ⟨rfl, hRw2, hGw2⟩; have hlw2 := rowAt_lt hRw2; have qw2 := rowAt_cell hRw2; have fw2 := rowAt_free hRw2))
  (first | go_end0 | refine bodyPost_ret (results_none Tryz.results54 _ _ _) rfl ?_)
  exact ⟨rfl, hRw2, ((((show Below g w _ from by (repeat (first | (with_reducible assumption) | (with_reducible exact Below.refl _ _) | (with_reducible refine Below.drew ?_) | ((with_reducible refine Below.setCell ?_ ?_ _); rotate_left; (focus (first | omega | (simp; done) | (simp; omega)))) | ((with_reducible refine below_row ?_ ?_ _); rotate_left; (focus (first | omega | (simp; done) | (simp; omega)))) | ((with_reducible refine Below.alloc ?_ ?_ _); rotate_left; (focus (first | omega | (simp; done) | (simp; omega))))))).trans hGw1).trans ((show Below g w1 _ from by (repeat (first | (with_reducible assumption) | (with_reducible exact Below.refl _ _) | (with_reducible refine Below.drew ?_) | ((with_reducible refine Below.setCell ?_ ?_ _); rotate_left; (focus (first | omega | (simp; done) | (simp; omega)))) | ((with_reducible refine below_row ?_ ?_ _); rotate_left; (focus (first | omega | (simp; done) | (simp; omega)))) | ((with_reducible refine Below.alloc ?_ ?_ _); rotate_left; (focus (first | omega | (simp; done) | (simp; omega))))))).trans hGw2)).trans (show Below g w2 _ from by (repeat (first | (with_reducible assumption) | (with_reducible exact Below.refl _ _) | (with_reducible refine Below.drew ?_) | ((with_reducible refine Below.setCell ?_ ?_ _); rotate_left; (focus (first | omega | (simp; done) | (simp; omega)))) | ((with_reducible refine below_row ?_ ?_ _); rotate_left; (focus (first | omega | (simp; done) | (simp; omega)))) | ((with_reducible refine Below.alloc ?_ ?_ _); rotate_left; (focus (first | omega | (simp; done) | (simp; omega))))))))⟩
set_option maxHeartbeats 1000000 in
set_option maxRecDepth 100000 in
theorem rest_d (c : B.Cs) (v : B.Ev) (g : Nat)  (w : World) (hR : rowAt w g = some (mA c v)) (hn : c.n = 10) (hk : c.cnt.may) (ho : (c.cnt.step 7).o = false) :
    Calls Tryz.prog 54 #[.pointer (some ⟨g, 0, none⟩), .int .u8 49] w fun e w' => e = .returned (.tuple #[]) ∧ (rowAt w' g = some (mA (B.bareC (c.cnt.step 7) 1 0 c.was c.hard c.has c.fr) (v)) ∧ Below g w w') := by
  have CR := Lib.hid (fun (c' : B.Cs) (v' : B.Ev) (w : World) (h : rowAt w g = some (mA c' v')) (h1 : c'.n ≤ 1000000) => m_rested1 c' v' g w h h1)
  have CC := Lib.hid (fun (c' : B.Cs) (v' : B.Ev) (w : World) (h : rowAt w g = some (mA c' v')) (hc : c'.cnt.may) => m_count c' v' g 7 7 w h hc rfl (by omega))
  have CE := Lib.hid (fun (c : B.Cs) (v : B.Ev) (w : World) (h : rowAt w g = some (mA c v)) => m_enter c v g 1 1 w h rfl)
  have q0 := rowAt_cell hR
  have f0 := rowAt_free hR
  have hl := rowAt_lt hR
  go_enter Tryz.func54, Tryz.ntmps54
  go_wp2_with (first
    | (go_at_call 69; (with_reducible refine (CR.out (c) (v) _ ?_ (by omega)).mono ?_); (simp [go_sem, *] <;> rfl); rintro e w1 ⟨rfl, hRw1, hGw1⟩; have hlw1 := rowAt_lt hRw1; have qw1 := rowAt_cell hRw1; have fw1 := rowAt_free hRw1)
    | (go_at_call 75; (with_reducible refine (CC.out ({ c with n := 0 }) (v) _ ?_ hk).mono ?_); (simp [go_sem, *] <;> rfl); rintro e w2 ⟨rfl, hRw2, hGw2⟩; have hlw2 := rowAt_lt hRw2; have qw2 := rowAt_cell hRw2; have fw2 := rowAt_free hRw2)
    | (go_at_call 70; (with_reducible refine (CE.out ({ c with cnt := c.cnt.step 7, n := 0 }) (v) _ ?_).mono ?_); (simp [go_sem, *] <;> rfl); rintro e w3 ⟨rfl, hRw3, hGw3⟩; have hlw3 := rowAt_lt hRw3; have qw3 := rowAt_cell hRw3; have fw3 := rowAt_free hRw3))
  (first | go_end0 | refine bodyPost_ret (results_none Tryz.results54 _ _ _) rfl ?_)
  exact ⟨rfl, hRw3, (((((show Below g w _ from by (repeat (first | (with_reducible assumption) | (with_reducible exact Below.refl _ _) | (with_reducible refine Below.drew ?_) | ((with_reducible refine Below.setCell ?_ ?_ _); rotate_left; (focus (first | omega | (simp; done) | (simp; omega)))) | ((with_reducible refine below_row ?_ ?_ _); rotate_left; (focus (first | omega | (simp; done) | (simp; omega)))) | ((with_reducible refine Below.alloc ?_ ?_ _); rotate_left; (focus (first | omega | (simp; done) | (simp; omega))))))).trans hGw1).trans ((show Below g w1 _ from by (repeat (first | (with_reducible assumption) | (with_reducible exact Below.refl _ _) | (with_reducible refine Below.drew ?_) | ((with_reducible refine Below.setCell ?_ ?_ _); rotate_left; (focus (first | omega | (simp; done) | (simp; omega)))) | ((with_reducible refine below_row ?_ ?_ _); rotate_left; (focus (first | omega | (simp; done) | (simp; omega)))) | ((with_reducible refine Below.alloc ?_ ?_ _); rotate_left; (focus (first | omega | (simp; done) | (simp; omega))))))).trans hGw2)).trans ((show Below g w2 _ from by (repeat (first | (with_reducible assumption) | (with_reducible exact Below.refl _ _) | (with_reducible refine Below.drew ?_) | ((with_reducible refine Below.setCell ?_ ?_ _); rotate_left; (focus (first | omega | (simp; done) | (simp; omega)))) | ((with_reducible refine below_row ?_ ?_ _); rotate_left; (focus (first | omega | (simp; done) | (simp; omega)))) | ((with_reducible refine Below.alloc ?_ ?_ _); rotate_left; (focus (first | omega | (simp; done) | (simp; omega))))))).trans hGw3)).trans (show Below g w3 _ from by (repeat (first | (with_reducible assumption) | (with_reducible exact Below.refl _ _) | (with_reducible refine Below.drew ?_) | ((with_reducible refine Below.setCell ?_ ?_ _); rotate_left; (focus (first | omega | (simp; done) | (simp; omega)))) | ((with_reducible refine below_row ?_ ?_ _); rotate_left; (focus (first | omega | (simp; done) | (simp; omega)))) | ((with_reducible refine Below.alloc ?_ ?_ _); rotate_left; (focus (first | omega | (simp; done) | (simp; omega))))))))⟩
set_option maxHeartbeats 1000000 in
set_option maxRecDepth 100000 in
theorem echo_a (c : B.Cs) (v : B.Ev) (g : Nat)  (w : World) (hR : rowAt w g = some (mA c v))  :
    Calls Tryz.prog 50 #[.pointer (some ⟨g, 0, none⟩), .int .u8 49] w fun e w' => e = .returned (.tuple #[]) ∧ (rowAt w' g = some (mA (B.bareC c.cnt 5 1 c.was c.hard c.has c.fr) (v)) ∧ Below g w w') := by
  have CE := Lib.hid (fun (c : B.Cs) (v : B.Ev) (w : World) (h : rowAt w g = some (mA c v)) => m_enter c v g 5 5 w h rfl)
  have q0 := rowAt_cell hR
  have f0 := rowAt_free hR
  have hl := rowAt_lt hR
  go_enter Tryz.func50, Tryz.ntmps50
  go_wp2_with (first
    | (go_at_call 70; (with_reducible refine (CE.out (c) (v) _ ?_).mono ?_); (simp [go_sem, *] <;> rfl); rintro e w1 ⟨rfl, hRw1, hGw1⟩; have hlw1 := rowAt_lt hRw1; have qw1 := rowAt_cell hRw1; have fw1 := rowAt_free hRw1))
  (first | go_end0 | refine bodyPost_ret (results_none Tryz.results50 _ _ _) rfl ?_)
  exact ⟨rfl, by simp [go_sem, *] <;> rfl, (((show Below g w _ from by (repeat (first | (with_reducible assumption) | (with_reducible exact Below.refl _ _) | (with_reducible refine Below.drew ?_) | ((with_reducible refine Below.setCell ?_ ?_ _); rotate_left; (focus (first | omega | (simp; done) | (simp; omega)))) | ((with_reducible refine below_row ?_ ?_ _); rotate_left; (focus (first | omega | (simp; done) | (simp; omega)))) | ((with_reducible refine Below.alloc ?_ ?_ _); rotate_left; (focus (first | omega | (simp; done) | (simp; omega))))))).trans hGw1).trans (show Below g w1 _ from by (repeat (first | (with_reducible assumption) | (with_reducible exact Below.refl _ _) | (with_reducible refine Below.drew ?_) | ((with_reducible refine Below.setCell ?_ ?_ _); rotate_left; (focus (first | omega | (simp; done) | (simp; omega)))) | ((with_reducible refine below_row ?_ ?_ _); rotate_left; (focus (first | omega | (simp; done) | (simp; omega)))) | ((with_reducible refine Below.alloc ?_ ?_ _); rotate_left; (focus (first | omega | (simp; done) | (simp; omega))))))))⟩
set_option maxHeartbeats 1000000 in
set_option maxRecDepth 100000 in
theorem echo_b (c : B.Cs) (v : B.Ev) (g : Nat)  (w : World) (hR : rowAt w g = some (mA c v)) (hk : c.cnt.may) (hn : c.n = 0) (hw : c.was = false) (h6 : (c.cnt.step 6).o = false) :
    Calls Tryz.prog 50 #[.pointer (some ⟨g, 0, none⟩), .int .u8 48] w fun e w' => e = .returned (.tuple #[]) ∧ (rowAt w' g = some (mA ({ c with n := 1, cnt := c.cnt.step 6 }) (v)) ∧ Below g w w') := by
  have CC := Lib.hid (fun (c' : B.Cs) (v' : B.Ev) (w : World) (h : rowAt w g = some (mA c' v')) (hc : c'.cnt.may) => m_count c' v' g 6 6 w h hc rfl (by omega))
  have CP := Lib.hid (fun b x y w => pick_any b x y w)
  have q0 := rowAt_cell hR
  have f0 := rowAt_free hR
  have hl := rowAt_lt hR
  go_enter Tryz.func50, Tryz.ntmps50
  go_wp2_with (first
    | (go_at_call 76; (with_reducible refine (CP.out _ _ _ _).mono ?_); rintro e w' ⟨rfl, rfl⟩)
    | (go_at_call 75; (with_reducible refine (CC.out ({ c with n := 1 }) (v) _ ?_ hk).mono ?_); (simp [go_sem, *] <;> rfl); rintro e w1 ⟨rfl, hRw1, hGw1⟩; have hlw1 := rowAt_lt hRw1; have qw1 := rowAt_cell hRw1; have fw1 := rowAt_free hRw1))
  (first | go_end0 | refine bodyPost_ret (results_none Tryz.results50 _ _ _) rfl ?_)
  exact ⟨rfl, hRw1, (((show Below g w _ from by (repeat (first | (with_reducible assumption) | (with_reducible exact Below.refl _ _) | (with_reducible refine Below.drew ?_) | ((with_reducible refine Below.setCell ?_ ?_ _); rotate_left; (focus (first | omega | (simp; done) | (simp; omega)))) | ((with_reducible refine below_row ?_ ?_ _); rotate_left; (focus (first | omega | (simp; done) | (simp; omega)))) | ((with_reducible refine Below.alloc ?_ ?_ _); rotate_left; (focus (first | omega | (simp; done) | (simp; omega))))))).trans hGw1).trans (show Below g w1 _ from by (repeat (first | (with_reducible assumption) | (with_reducible exact Below.refl _ _) | (with_reducible refine Below.drew ?_) | ((with_reducible refine Below.setCell ?_ ?_ _); rotate_left; (focus (first | omega | (simp; done) | (simp; omega)))) | ((with_reducible refine below_row ?_ ?_ _); rotate_left; (focus (first | omega | (simp; done) | (simp; omega)))) | ((with_reducible refine Below.alloc ?_ ?_ _); rotate_left; (focus (first | omega | (simp; done) | (simp; omega))))))))⟩
set_option maxHeartbeats 1000000 in
set_option maxRecDepth 100000 in
theorem echo_ctt (c : B.Cs) (v : B.Ev) (g : Nat)  (w : World) (hR : rowAt w g = some (mA c v)) (hk : c.cnt.may) (hn : c.n < 1000000000) (h8 : (c.n + 1) % 8 = 0) (hw : c.was = true) (ho : (c.cnt.step 5).o = true) :
    Calls Tryz.prog 50 #[.pointer (some ⟨g, 0, none⟩), .int .u8 48] w fun e w' => e = .returned (.tuple #[]) ∧ (rowAt w' g = some (mA (B.bareC (c.cnt.step 5) 8 0 c.was c.hard c.has c.fr) (v)) ∧ Below g w w') := by
  have CC := Lib.hid (fun (c' : B.Cs) (v' : B.Ev) (w : World) (h : rowAt w g = some (mA c' v')) (hc : c'.cnt.may) => m_count c' v' g 5 5 w h hc rfl (by omega))
  have CP := Lib.hid (fun b x y w => pick_any b x y w)
  have CE := Lib.hid (fun (c : B.Cs) (v : B.Ev) (w : World) (h : rowAt w g = some (mA c v)) => m_enter c v g 8 8 w h rfl)
  have k1 : (((c.n : Nat) : Int) + 1 == 1) = false := by rw [beq_eq_false_iff_ne]; omega
  have k0 : (((c.n : Nat) : Int) == 0) = false := by rw [beq_eq_false_iff_ne]; omega
  have k8 : (((c.n : Nat) : Int) + 1).tmod 8 = 0 := by rw [Int.tmod_eq_emod_of_nonneg (by omega)]; omega
  clear h8
  have q0 := rowAt_cell hR
  have f0 := rowAt_free hR
  have hl := rowAt_lt hR
  go_enter Tryz.func50, Tryz.ntmps50
  go_wp2_with (first
    | (go_at_call 76; (with_reducible refine (CP.out _ _ _ _).mono ?_); rintro e w' ⟨rfl, rfl⟩)
    | (go_at_call 75; (with_reducible refine (CC.out ({ c with n := c.n + 1 }) (v) _ ?_ hk).mono ?_); (simp [go_sem, *] <;> rfl); rintro e w1 ⟨rfl, hRw1, hGw1⟩; have hlw1 := rowAt_lt hRw1; have qw1 := rowAt_cell hRw1; have fw1 := rowAt_free hRw1)
    | (go_at_call 70; (with_reducible refine (CE.out ({ c with n := c.n + 1, cnt := c.cnt.step 5 }) (v) _ ?_).mono ?_); (simp [go_sem, *] <;> rfl); rintro e w2 ⟨rfl, hRw2, hGw2⟩; have hlw2 := rowAt_lt hRw2; have qw2 := rowAt_cell hRw2; have fw2 := rowAt_free hRw2))
  (first | go_end0 | refine bodyPost_ret (results_none Tryz.results50 _ _ _) rfl ?_)
  exact ⟨rfl, hRw2, ((((show Below g w _ from by (repeat (first | (with_reducible assumption) | (with_reducible exact Below.refl _ _) | (with_reducible refine Below.drew ?_) | ((with_reducible refine Below.setCell ?_ ?_ _); rotate_left; (focus (first | omega | (simp; done) | (simp; omega)))) | ((with_reducible refine below_row ?_ ?_ _); rotate_left; (focus (first | omega | (simp; done) | (simp; omega)))) | ((with_reducible refine Below.alloc ?_ ?_ _); rotate_left; (focus (first | omega | (simp; done) | (simp; omega))))))).trans hGw1).trans ((show Below g w1 _ from by (repeat (first | (with_reducible assumption) | (with_reducible exact Below.refl _ _) | (with_reducible refine Below.drew ?_) | ((with_reducible refine Below.setCell ?_ ?_ _); rotate_left; (focus (first | omega | (simp; done) | (simp; omega)))) | ((with_reducible refine below_row ?_ ?_ _); rotate_left; (focus (first | omega | (simp; done) | (simp; omega)))) | ((with_reducible refine Below.alloc ?_ ?_ _); rotate_left; (focus (first | omega | (simp; done) | (simp; omega))))))).trans hGw2)).trans (show Below g w2 _ from by (repeat (first | (with_reducible assumption) | (with_reducible exact Below.refl _ _) | (with_reducible refine Below.drew ?_) | ((with_reducible refine Below.setCell ?_ ?_ _); rotate_left; (focus (first | omega | (simp; done) | (simp; omega)))) | ((with_reducible refine below_row ?_ ?_ _); rotate_left; (focus (first | omega | (simp; done) | (simp; omega)))) | ((with_reducible refine Below.alloc ?_ ?_ _); rotate_left; (focus (first | omega | (simp; done) | (simp; omega))))))))⟩
set_option maxHeartbeats 1000000 in
set_option maxRecDepth 100000 in
theorem echo_ctf (c : B.Cs) (v : B.Ev) (g : Nat)  (w : World) (hR : rowAt w g = some (mA c v)) (hk : c.cnt.may) (hn : c.n < 1000000000) (h8 : (c.n + 1) % 8 = 0) (hw : c.was = true) (ho : (c.cnt.step 5).o = false) :
    Calls Tryz.prog 50 #[.pointer (some ⟨g, 0, none⟩), .int .u8 48] w fun e w' => e = .returned (.tuple #[]) ∧ (rowAt w' g = some (mA ({ c with n := c.n + 1, cnt := c.cnt.step 5 }) (v)) ∧ Below g w w') := by
  have CC := Lib.hid (fun (c' : B.Cs) (v' : B.Ev) (w : World) (h : rowAt w g = some (mA c' v')) (hc : c'.cnt.may) => m_count c' v' g 5 5 w h hc rfl (by omega))
  have CP := Lib.hid (fun b x y w => pick_any b x y w)
  have CE := Lib.hid (fun (c : B.Cs) (v : B.Ev) (w : World) (h : rowAt w g = some (mA c v)) => m_enter c v g 8 8 w h rfl)
  have k1 : (((c.n : Nat) : Int) + 1 == 1) = false := by rw [beq_eq_false_iff_ne]; omega
  have k0 : (((c.n : Nat) : Int) == 0) = false := by rw [beq_eq_false_iff_ne]; omega
  have k8 : (((c.n : Nat) : Int) + 1).tmod 8 = 0 := by rw [Int.tmod_eq_emod_of_nonneg (by omega)]; omega
  clear h8
  have q0 := rowAt_cell hR
  have f0 := rowAt_free hR
  have hl := rowAt_lt hR
  go_enter Tryz.func50, Tryz.ntmps50
  go_wp2_with (first
    | (go_at_call 76; (with_reducible refine (CP.out _ _ _ _).mono ?_); rintro e w' ⟨rfl, rfl⟩)
    | (go_at_call 75; (with_reducible refine (CC.out ({ c with n := c.n + 1 }) (v) _ ?_ hk).mono ?_); (simp [go_sem, *] <;> rfl); rintro e w1 ⟨rfl, hRw1, hGw1⟩; have hlw1 := rowAt_lt hRw1; have qw1 := rowAt_cell hRw1; have fw1 := rowAt_free hRw1))
  (first | go_end0 | refine bodyPost_ret (results_none Tryz.results50 _ _ _) rfl ?_)
  exact ⟨rfl, hRw1, (((show Below g w _ from by (repeat (first | (with_reducible assumption) | (with_reducible exact Below.refl _ _) | (with_reducible refine Below.drew ?_) | ((with_reducible refine Below.setCell ?_ ?_ _); rotate_left; (focus (first | omega | (simp; done) | (simp; omega)))) | ((with_reducible refine below_row ?_ ?_ _); rotate_left; (focus (first | omega | (simp; done) | (simp; omega)))) | ((with_reducible refine Below.alloc ?_ ?_ _); rotate_left; (focus (first | omega | (simp; done) | (simp; omega))))))).trans hGw1).trans (show Below g w1 _ from by (repeat (first | (with_reducible assumption) | (with_reducible exact Below.refl _ _) | (with_reducible refine Below.drew ?_) | ((with_reducible refine Below.setCell ?_ ?_ _); rotate_left; (focus (first | omega | (simp; done) | (simp; omega)))) | ((with_reducible refine below_row ?_ ?_ _); rotate_left; (focus (first | omega | (simp; done) | (simp; omega)))) | ((with_reducible refine Below.alloc ?_ ?_ _); rotate_left; (focus (first | omega | (simp; done) | (simp; omega))))))))⟩
set_option maxHeartbeats 1000000 in
set_option maxRecDepth 100000 in
theorem echo_cft (c : B.Cs) (v : B.Ev) (g : Nat)  (w : World) (hR : rowAt w g = some (mA c v)) (hk : c.cnt.may) (hn : c.n < 1000000000) (h8 : (c.n + 1) % 8 = 0) (hw : c.was = false) (ho : (c.cnt.step 6).o = true) :
    Calls Tryz.prog 50 #[.pointer (some ⟨g, 0, none⟩), .int .u8 48] w fun e w' => e = .returned (.tuple #[]) ∧ (rowAt w' g = some (mA (B.bareC (c.cnt.step 6) 8 0 c.was c.hard c.has c.fr) (v)) ∧ Below g w w') := by
  have CC := Lib.hid (fun (c' : B.Cs) (v' : B.Ev) (w : World) (h : rowAt w g = some (mA c' v')) (hc : c'.cnt.may) => m_count c' v' g 6 6 w h hc rfl (by omega))
  have CP := Lib.hid (fun b x y w => pick_any b x y w)
  have CE := Lib.hid (fun (c : B.Cs) (v : B.Ev) (w : World) (h : rowAt w g = some (mA c v)) => m_enter c v g 8 8 w h rfl)
  have k1 : (((c.n : Nat) : Int) + 1 == 1) = false := by rw [beq_eq_false_iff_ne]; omega
  have k0 : (((c.n : Nat) : Int) == 0) = false := by rw [beq_eq_false_iff_ne]; omega
  have k8 : (((c.n : Nat) : Int) + 1).tmod 8 = 0 := by rw [Int.tmod_eq_emod_of_nonneg (by omega)]; omega
  clear h8
  have q0 := rowAt_cell hR
  have f0 := rowAt_free hR
  have hl := rowAt_lt hR
  go_enter Tryz.func50, Tryz.ntmps50
  go_wp2_with (first
    | (go_at_call 76; (with_reducible refine (CP.out _ _ _ _).mono ?_); rintro e w' ⟨rfl, rfl⟩)
    | (go_at_call 75; (with_reducible refine (CC.out ({ c with n := c.n + 1 }) (v) _ ?_ hk).mono ?_); (simp [go_sem, *] <;> rfl); rintro e w1 ⟨rfl, hRw1, hGw1⟩; have hlw1 := rowAt_lt hRw1; have qw1 := rowAt_cell hRw1; have fw1 := rowAt_free hRw1)
    | (go_at_call 70; (with_reducible refine (CE.out ({ c with n := c.n + 1, cnt := c.cnt.step 6 }) (v) _ ?_).mono ?_); (simp [go_sem, *] <;> rfl); rintro e w2 ⟨rfl, hRw2, hGw2⟩; have hlw2 := rowAt_lt hRw2; have qw2 := rowAt_cell hRw2; have fw2 := rowAt_free hRw2))
  (first | go_end0 | refine bodyPost_ret (results_none Tryz.results50 _ _ _) rfl ?_)
  exact ⟨rfl, hRw2, ((((show Below g w _ from by (repeat (first | (with_reducible assumption) | (with_reducible exact Below.refl _ _) | (with_reducible refine Below.drew ?_) | ((with_reducible refine Below.setCell ?_ ?_ _); rotate_left; (focus (first | omega | (simp; done) | (simp; omega)))) | ((with_reducible refine below_row ?_ ?_ _); rotate_left; (focus (first | omega | (simp; done) | (simp; omega)))) | ((with_reducible refine Below.alloc ?_ ?_ _); rotate_left; (focus (first | omega | (simp; done) | (simp; omega))))))).trans hGw1).trans ((show Below g w1 _ from by (repeat (first | (with_reducible assumption) | (with_reducible exact Below.refl _ _) | (with_reducible refine Below.drew ?_) | ((with_reducible refine Below.setCell ?_ ?_ _); rotate_left; (focus (first | omega | (simp; done) | (simp; omega)))) | ((with_reducible refine below_row ?_ ?_ _); rotate_left; (focus (first | omega | (simp; done) | (simp; omega)))) | ((with_reducible refine Below.alloc ?_ ?_ _); rotate_left; (focus (first | omega | (simp; done) | (simp; omega))))))).trans hGw2)).trans (show Below g w2 _ from by (repeat (first | (with_reducible assumption) | (with_reducible exact Below.refl _ _) | (with_reducible refine Below.drew ?_) | ((with_reducible refine Below.setCell ?_ ?_ _); rotate_left; (focus (first | omega | (simp; done) | (simp; omega)))) | ((with_reducible refine below_row ?_ ?_ _); rotate_left; (focus (first | omega | (simp; done) | (simp; omega)))) | ((with_reducible refine Below.alloc ?_ ?_ _); rotate_left; (focus (first | omega | (simp; done) | (simp; omega))))))))⟩
set_option maxHeartbeats 1000000 in
set_option maxRecDepth 100000 in
theorem echo_cff (c : B.Cs) (v : B.Ev) (g : Nat)  (w : World) (hR : rowAt w g = some (mA c v)) (hk : c.cnt.may) (hn : c.n < 1000000000) (h8 : (c.n + 1) % 8 = 0) (hw : c.was = false) (ho : (c.cnt.step 6).o = false) :
    Calls Tryz.prog 50 #[.pointer (some ⟨g, 0, none⟩), .int .u8 48] w fun e w' => e = .returned (.tuple #[]) ∧ (rowAt w' g = some (mA ({ c with n := c.n + 1, cnt := c.cnt.step 6 }) (v)) ∧ Below g w w') := by
  have CC := Lib.hid (fun (c' : B.Cs) (v' : B.Ev) (w : World) (h : rowAt w g = some (mA c' v')) (hc : c'.cnt.may) => m_count c' v' g 6 6 w h hc rfl (by omega))
  have CP := Lib.hid (fun b x y w => pick_any b x y w)
  have CE := Lib.hid (fun (c : B.Cs) (v : B.Ev) (w : World) (h : rowAt w g = some (mA c v)) => m_enter c v g 8 8 w h rfl)
  have k1 : (((c.n : Nat) : Int) + 1 == 1) = false := by rw [beq_eq_false_iff_ne]; omega
  have k0 : (((c.n : Nat) : Int) == 0) = false := by rw [beq_eq_false_iff_ne]; omega
  have k8 : (((c.n : Nat) : Int) + 1).tmod 8 = 0 := by rw [Int.tmod_eq_emod_of_nonneg (by omega)]; omega
  clear h8
  have q0 := rowAt_cell hR
  have f0 := rowAt_free hR
  have hl := rowAt_lt hR
  go_enter Tryz.func50, Tryz.ntmps50
  go_wp2_with (first
    | (go_at_call 76; (with_reducible refine (CP.out _ _ _ _).mono ?_); rintro e w' ⟨rfl, rfl⟩)
    | (go_at_call 75; (with_reducible refine (CC.out ({ c with n := c.n + 1 }) (v) _ ?_ hk).mono ?_); (simp [go_sem, *] <;> rfl); rintro e w1 ⟨rfl, hRw1, hGw1⟩; have hlw1 := rowAt_lt hRw1; have qw1 := rowAt_cell hRw1; have fw1 := rowAt_free hRw1))
  (first | go_end0 | refine bodyPost_ret (results_none Tryz.results50 _ _ _) rfl ?_)
  exact ⟨rfl, hRw1, (((show Below g w _ from by (repeat (first | (with_reducible assumption) | (with_reducible exact Below.refl _ _) | (with_reducible refine Below.drew ?_) | ((with_reducible refine Below.setCell ?_ ?_ _); rotate_left; (focus (first | omega | (simp; done) | (simp; omega)))) | ((with_reducible refine below_row ?_ ?_ _); rotate_left; (focus (first | omega | (simp; done) | (simp; omega)))) | ((with_reducible refine Below.alloc ?_ ?_ _); rotate_left; (focus (first | omega | (simp; done) | (simp; omega))))))).trans hGw1).trans (show Below g w1 _ from by (repeat (first | (with_reducible assumption) | (with_reducible exact Below.refl _ _) | (with_reducible refine Below.drew ?_) | ((with_reducible refine Below.setCell ?_ ?_ _); rotate_left; (focus (first | omega | (simp; done) | (simp; omega)))) | ((with_reducible refine below_row ?_ ?_ _); rotate_left; (focus (first | omega | (simp; done) | (simp; omega)))) | ((with_reducible refine Below.alloc ?_ ?_ _); rotate_left; (focus (first | omega | (simp; done) | (simp; omega))))))))⟩
set_option maxHeartbeats 1000000 in
set_option maxRecDepth 100000 in
theorem echo_d (c : B.Cs) (v : B.Ev) (g : Nat)  (w : World) (hR : rowAt w g = some (mA c v)) (hn : c.n < 1000000000) (h1 : ¬ c.n = 0) (h8 : ¬ (c.n + 1) % 8 = 0) (hoff : c.cnt.o = false) :
    Calls Tryz.prog 50 #[.pointer (some ⟨g, 0, none⟩), .int .u8 48] w fun e w' => e = .returned (.tuple #[]) ∧ (rowAt w' g = some (mA ({ c with n := c.n + 1 }) (v)) ∧ Below g w w') := by
  have k1 : (((c.n : Nat) : Int) + 1 == 1) = false := by rw [beq_eq_false_iff_ne]; omega
  have k0 : (((c.n : Nat) : Int) == 0) = false := by rw [beq_eq_false_iff_ne]; omega
  have k9 : ((((c.n : Nat) : Int) + 1) % 8 == 0) = false := by rw [beq_eq_false_iff_ne]; omega
  have k8 : ((((c.n : Nat) : Int) + 1).tmod 8 == 0) = false := by rw [Int.tmod_eq_emod_of_nonneg (by omega), beq_eq_false_iff_ne]; omega
  clear h1 h8
  have q0 := rowAt_cell hR
  have f0 := rowAt_free hR
  have hl := rowAt_lt hR
  go_enter Tryz.func50, Tryz.ntmps50
  go_wp2
  (first | go_end0 | refine bodyPost_ret (results_none Tryz.results50 _ _ _) rfl ?_)
  exact ⟨rfl, by simp [go_sem, *] <;> rfl, (show Below g w _ from by (repeat (first | (with_reducible assumption) | (with_reducible exact Below.refl _ _) | (with_reducible refine Below.drew ?_) | ((with_reducible refine Below.setCell ?_ ?_ _); rotate_left; (focus (first | omega | (simp; done) | (simp; omega)))) | ((with_reducible refine below_row ?_ ?_ _); rotate_left; (focus (first | omega | (simp; done) | (simp; omega)))) | ((with_reducible refine Below.alloc ?_ ?_ _); rotate_left; (focus (first | omega | (simp; done) | (simp; omega)))))))⟩
set_option maxHeartbeats 1000000 in
set_option maxRecDepth 100000 in
theorem echo_f (c : B.Cs) (v : B.Ev) (g : Nat)  (w : World) (hR : rowAt w g = some (mA c v)) (hn : c.n = 0) (hw : c.was = true) (hoff : c.cnt.o = false) :
    Calls Tryz.prog 50 #[.pointer (some ⟨g, 0, none⟩), .int .u8 48] w fun e w' => e = .returned (.tuple #[]) ∧ (rowAt w' g = some (mA ({ c with n := 1 }) (v)) ∧ Below g w w') := by
  have q0 := rowAt_cell hR
  have f0 := rowAt_free hR
  have hl := rowAt_lt hR
  go_enter Tryz.func50, Tryz.ntmps50
  go_wp2
  (first | go_end0 | refine bodyPost_ret (results_none Tryz.results50 _ _ _) rfl ?_)
  exact ⟨rfl, by simp [go_sem, *] <;> rfl, (show Below g w _ from by (repeat (first | (with_reducible assumption) | (with_reducible exact Below.refl _ _) | (with_reducible refine Below.drew ?_) | ((with_reducible refine Below.setCell ?_ ?_ _); rotate_left; (focus (first | omega | (simp; done) | (simp; omega)))) | ((with_reducible refine below_row ?_ ?_ _); rotate_left; (focus (first | omega | (simp; done) | (simp; omega)))) | ((with_reducible refine Below.alloc ?_ ?_ _); rotate_left; (focus (first | omega | (simp; done) | (simp; omega)))))))⟩
set_option maxHeartbeats 1000000 in
set_option maxRecDepth 100000 in
theorem echo_ett (c : B.Cs) (v : B.Ev) (g : Nat)  (w : World) (hR : rowAt w g = some (mA c v)) (hk : c.cnt.may) (hn : c.n = 1000000000) (hw : c.was = true) (ho : (c.cnt.step 5).o = true) :
    Calls Tryz.prog 50 #[.pointer (some ⟨g, 0, none⟩), .int .u8 48] w fun e w' => e = .returned (.tuple #[]) ∧ (rowAt w' g = some (mA (B.bareC (c.cnt.step 5) 8 0 c.was c.hard c.has c.fr) (v)) ∧ Below g w w') := by
  have CC := Lib.hid (fun (c' : B.Cs) (v' : B.Ev) (w : World) (h : rowAt w g = some (mA c' v')) (hc : c'.cnt.may) => m_count c' v' g 5 5 w h hc rfl (by omega))
  have CP := Lib.hid (fun b x y w => pick_any b x y w)
  have CE := Lib.hid (fun (c : B.Cs) (v : B.Ev) (w : World) (h : rowAt w g = some (mA c v)) => m_enter c v g 8 8 w h rfl)
  have q0 := rowAt_cell hR
  have f0 := rowAt_free hR
  have hl := rowAt_lt hR
  go_enter Tryz.func50, Tryz.ntmps50
  go_wp2_with (first
    | (go_at_call 76; (with_reducible refine (CP.out _ _ _ _).mono ?_); rintro e w' ⟨rfl, rfl⟩)
    | (go_at_call 75; (with_reducible refine (CC.out ({ c with n := 1000000000 }) (v) _ ?_ hk).mono ?_); (simp [go_sem, *] <;> rfl); rintro e w1 ⟨rfl, hRw1, hGw1⟩; have hlw1 := rowAt_lt hRw1; have qw1 := rowAt_cell hRw1; have fw1 := rowAt_free hRw1)
    | (go_at_call 70; (with_reducible refine (CE.out ({ c with n := 1000000000, cnt := c.cnt.step 5 }) (v) _ ?_).mono ?_); (simp [go_sem, *] <;> rfl); rintro e w2 ⟨rfl, hRw2, hGw2⟩; have hlw2 := rowAt_lt hRw2; have qw2 := rowAt_cell hRw2; have fw2 := rowAt_free hRw2))
  (first | go_end0 | refine bodyPost_ret (results_none Tryz.results50 _ _ _) rfl ?_)
  exact ⟨rfl, hRw2, ((((show Below g w _ from by (repeat (first | (with_reducible assumption) | (with_reducible exact Below.refl _ _) | (with_reducible refine Below.drew ?_) | ((with_reducible refine Below.setCell ?_ ?_ _); rotate_left; (focus (first | omega | (simp; done) | (simp; omega)))) | ((with_reducible refine below_row ?_ ?_ _); rotate_left; (focus (first | omega | (simp; done) | (simp; omega)))) | ((with_reducible refine Below.alloc ?_ ?_ _); rotate_left; (focus (first | omega | (simp; done) | (simp; omega))))))).trans hGw1).trans ((show Below g w1 _ from by (repeat (first | (with_reducible assumption) | (with_reducible exact Below.refl _ _) | (with_reducible refine Below.drew ?_) | ((with_reducible refine Below.setCell ?_ ?_ _); rotate_left; (focus (first | omega | (simp; done) | (simp; omega)))) | ((with_reducible refine below_row ?_ ?_ _); rotate_left; (focus (first | omega | (simp; done) | (simp; omega)))) | ((with_reducible refine Below.alloc ?_ ?_ _); rotate_left; (focus (first | omega | (simp; done) | (simp; omega))))))).trans hGw2)).trans (show Below g w2 _ from by (repeat (first | (with_reducible assumption) | (with_reducible exact Below.refl _ _) | (with_reducible refine Below.drew ?_) | ((with_reducible refine Below.setCell ?_ ?_ _); rotate_left; (focus (first | omega | (simp; done) | (simp; omega)))) | ((with_reducible refine below_row ?_ ?_ _); rotate_left; (focus (first | omega | (simp; done) | (simp; omega)))) | ((with_reducible refine Below.alloc ?_ ?_ _); rotate_left; (focus (first | omega | (simp; done) | (simp; omega))))))))⟩
set_option maxHeartbeats 1000000 in
set_option maxRecDepth 100000 in
theorem echo_etf (c : B.Cs) (v : B.Ev) (g : Nat)  (w : World) (hR : rowAt w g = some (mA c v)) (hk : c.cnt.may) (hn : c.n = 1000000000) (hw : c.was = true) (ho : (c.cnt.step 5).o = false) :
    Calls Tryz.prog 50 #[.pointer (some ⟨g, 0, none⟩), .int .u8 48] w fun e w' => e = .returned (.tuple #[]) ∧ (rowAt w' g = some (mA ({ c with n := 1000000000, cnt := c.cnt.step 5 }) (v)) ∧ Below g w w') := by
  have CC := Lib.hid (fun (c' : B.Cs) (v' : B.Ev) (w : World) (h : rowAt w g = some (mA c' v')) (hc : c'.cnt.may) => m_count c' v' g 5 5 w h hc rfl (by omega))
  have CP := Lib.hid (fun b x y w => pick_any b x y w)
  have CE := Lib.hid (fun (c : B.Cs) (v : B.Ev) (w : World) (h : rowAt w g = some (mA c v)) => m_enter c v g 8 8 w h rfl)
  have q0 := rowAt_cell hR
  have f0 := rowAt_free hR
  have hl := rowAt_lt hR
  go_enter Tryz.func50, Tryz.ntmps50
  go_wp2_with (first
    | (go_at_call 76; (with_reducible refine (CP.out _ _ _ _).mono ?_); rintro e w' ⟨rfl, rfl⟩)
    | (go_at_call 75; (with_reducible refine (CC.out ({ c with n := 1000000000 }) (v) _ ?_ hk).mono ?_); (simp [go_sem, *] <;> rfl); rintro e w1 ⟨rfl, hRw1, hGw1⟩; have hlw1 := rowAt_lt hRw1; have qw1 := rowAt_cell hRw1; have fw1 := rowAt_free hRw1))
  (first | go_end0 | refine bodyPost_ret (results_none Tryz.results50 _ _ _) rfl ?_)
  exact ⟨rfl, hRw1, (((show Below g w _ from by (repeat (first | (with_reducible assumption) | (with_reducible exact Below.refl _ _) | (with_reducible refine Below.drew ?_) | ((with_reducible refine Below.setCell ?_ ?_ _); rotate_left; (focus (first | omega | (simp; done) | (simp; omega)))) | ((with_reducible refine below_row ?_ ?_ _); rotate_left; (focus (first | omega | (simp; done) | (simp; omega)))) | ((with_reducible refine Below.alloc ?_ ?_ _); rotate_left; (focus (first | omega | (simp; done) | (simp; omega))))))).trans hGw1).trans (show Below g w1 _ from by (repeat (first | (with_reducible assumption) | (with_reducible exact Below.refl _ _) | (with_reducible refine Below.drew ?_) | ((with_reducible refine Below.setCell ?_ ?_ _); rotate_left; (focus (first | omega | (simp; done) | (simp; omega)))) | ((with_reducible refine below_row ?_ ?_ _); rotate_left; (focus (first | omega | (simp; done) | (simp; omega)))) | ((with_reducible refine Below.alloc ?_ ?_ _); rotate_left; (focus (first | omega | (simp; done) | (simp; omega))))))))⟩
set_option maxHeartbeats 1000000 in
set_option maxRecDepth 100000 in
theorem echo_eft (c : B.Cs) (v : B.Ev) (g : Nat)  (w : World) (hR : rowAt w g = some (mA c v)) (hk : c.cnt.may) (hn : c.n = 1000000000) (hw : c.was = false) (ho : (c.cnt.step 6).o = true) :
    Calls Tryz.prog 50 #[.pointer (some ⟨g, 0, none⟩), .int .u8 48] w fun e w' => e = .returned (.tuple #[]) ∧ (rowAt w' g = some (mA (B.bareC (c.cnt.step 6) 8 0 c.was c.hard c.has c.fr) (v)) ∧ Below g w w') := by
  have CC := Lib.hid (fun (c' : B.Cs) (v' : B.Ev) (w : World) (h : rowAt w g = some (mA c' v')) (hc : c'.cnt.may) => m_count c' v' g 6 6 w h hc rfl (by omega))
  have CP := Lib.hid (fun b x y w => pick_any b x y w)
  have CE := Lib.hid (fun (c : B.Cs) (v : B.Ev) (w : World) (h : rowAt w g = some (mA c v)) => m_enter c v g 8 8 w h rfl)
  have q0 := rowAt_cell hR
  have f0 := rowAt_free hR
  have hl := rowAt_lt hR
  go_enter Tryz.func50, Tryz.ntmps50
  go_wp2_with (first
    | (go_at_call 76; (with_reducible refine (CP.out _ _ _ _).mono ?_); rintro e w' ⟨rfl, rfl⟩)
    | (go_at_call 75; (with_reducible refine (CC.out ({ c with n := 1000000000 }) (v) _ ?_ hk).mono ?_); (simp [go_sem, *] <;> rfl); rintro e w1 ⟨rfl, hRw1, hGw1⟩; have hlw1 := rowAt_lt hRw1; have qw1 := rowAt_cell hRw1; have fw1 := rowAt_free hRw1)
    | (go_at_call 70; (with_reducible refine (CE.out ({ c with n := 1000000000, cnt := c.cnt.step 6 }) (v) _ ?_).mono ?_); (simp [go_sem, *] <;> rfl); rintro e w2 ⟨rfl, hRw2, hGw2⟩; have hlw2 := rowAt_lt hRw2; have qw2 := rowAt_cell hRw2; have fw2 := rowAt_free hRw2))
  (first | go_end0 | refine bodyPost_ret (results_none Tryz.results50 _ _ _) rfl ?_)
  exact ⟨rfl, hRw2, ((((show Below g w _ from by (repeat (first | (with_reducible assumption) | (with_reducible exact Below.refl _ _) | (with_reducible refine Below.drew ?_) | ((with_reducible refine Below.setCell ?_ ?_ _); rotate_left; (focus (first | omega | (simp; done) | (simp; omega)))) | ((with_reducible refine below_row ?_ ?_ _); rotate_left; (focus (first | omega | (simp; done) | (simp; omega)))) | ((with_reducible refine Below.alloc ?_ ?_ _); rotate_left; (focus (first | omega | (simp; done) | (simp; omega))))))).trans hGw1).trans ((show Below g w1 _ from by (repeat (first | (with_reducible assumption) | (with_reducible exact Below.refl _ _) | (with_reducible refine Below.drew ?_) | ((with_reducible refine Below.setCell ?_ ?_ _); rotate_left; (focus (first | omega | (simp; done) | (simp; omega)))) | ((with_reducible refine below_row ?_ ?_ _); rotate_left; (focus (first | omega | (simp; done) | (simp; omega)))) | ((with_reducible refine Below.alloc ?_ ?_ _); rotate_left; (focus (first | omega | (simp; done) | (simp; omega))))))).trans hGw2)).trans (show Below g w2 _ from by (repeat (first | (with_reducible assumption) | (with_reducible exact Below.refl _ _) | (with_reducible refine Below.drew ?_) | ((with_reducible refine Below.setCell ?_ ?_ _); rotate_left; (focus (first | omega | (simp; done) | (simp; omega)))) | ((with_reducible refine below_row ?_ ?_ _); rotate_left; (focus (first | omega | (simp; done) | (simp; omega)))) | ((with_reducible refine Below.alloc ?_ ?_ _); rotate_left; (focus (first | omega | (simp; done) | (simp; omega))))))))⟩
set_option maxHeartbeats 1000000 in
set_option maxRecDepth 100000 in
theorem echo_eff (c : B.Cs) (v : B.Ev) (g : Nat)  (w : World) (hR : rowAt w g = some (mA c v)) (hk : c.cnt.may) (hn : c.n = 1000000000) (hw : c.was = false) (ho : (c.cnt.step 6).o = false) :
    Calls Tryz.prog 50 #[.pointer (some ⟨g, 0, none⟩), .int .u8 48] w fun e w' => e = .returned (.tuple #[]) ∧ (rowAt w' g = some (mA ({ c with n := 1000000000, cnt := c.cnt.step 6 }) (v)) ∧ Below g w w') := by
  have CC := Lib.hid (fun (c' : B.Cs) (v' : B.Ev) (w : World) (h : rowAt w g = some (mA c' v')) (hc : c'.cnt.may) => m_count c' v' g 6 6 w h hc rfl (by omega))
  have CP := Lib.hid (fun b x y w => pick_any b x y w)
  have CE := Lib.hid (fun (c : B.Cs) (v : B.Ev) (w : World) (h : rowAt w g = some (mA c v)) => m_enter c v g 8 8 w h rfl)
  have q0 := rowAt_cell hR
  have f0 := rowAt_free hR
  have hl := rowAt_lt hR
  go_enter Tryz.func50, Tryz.ntmps50
  go_wp2_with (first
    | (go_at_call 76; (with_reducible refine (CP.out _ _ _ _).mono ?_); rintro e w' ⟨rfl, rfl⟩)
    | (go_at_call 75; (with_reducible refine (CC.out ({ c with n := 1000000000 }) (v) _ ?_ hk).mono ?_); (simp [go_sem, *] <;> rfl); rintro e w1 ⟨rfl, hRw1, hGw1⟩; have hlw1 := rowAt_lt hRw1; have qw1 := rowAt_cell hRw1; have fw1 := rowAt_free hRw1))
  (first | go_end0 | refine bodyPost_ret (results_none Tryz.results50 _ _ _) rfl ?_)
  exact ⟨rfl, hRw1, (((show Below g w _ from by (repeat (first | (with_reducible assumption) | (with_reducible exact Below.refl _ _) | (with_reducible refine Below.drew ?_) | ((with_reducible refine Below.setCell ?_ ?_ _); rotate_left; (focus (first | omega | (simp; done) | (simp; omega)))) | ((with_reducible refine below_row ?_ ?_ _); rotate_left; (focus (first | omega | (simp; done) | (simp; omega)))) | ((with_reducible refine Below.alloc ?_ ?_ _); rotate_left; (focus (first | omega | (simp; done) | (simp; omega))))))).trans hGw1).trans (show Below g w1 _ from by (repeat (first | (with_reducible assumption) | (with_reducible exact Below.refl _ _) | (with_reducible refine Below.drew ?_) | ((with_reducible refine Below.setCell ?_ ?_ _); rotate_left; (focus (first | omega | (simp; done) | (simp; omega)))) | ((with_reducible refine below_row ?_ ?_ _); rotate_left; (focus (first | omega | (simp; done) | (simp; omega)))) | ((with_reducible refine Below.alloc ?_ ?_ _); rotate_left; (focus (first | omega | (simp; done) | (simp; omega))))))))⟩
end Go.Proofs.YtcaeobkaoebndaaGreat
