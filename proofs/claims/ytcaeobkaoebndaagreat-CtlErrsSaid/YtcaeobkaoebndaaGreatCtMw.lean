/- Layer 7: the machine's methods enter, goOn, rested, overload; pick. -/
import Derived.Test.YtcaeobkaoebndaaGreatCtH
namespace Go.Proofs.YtcaeobkaoebndaaGreat
open Go.RowKit Go.Lib
attribute [local go_sem ↓] ld_ct st_ct ld_ev st_ev ld_ma st_ma bd_ma
attribute [local go_sem] ldCt_at stCt_at ldEv_at stEv_at ldMa_at stMa_at bdMa_at ldp_ct ldp_ma ldp_ev ldp_mev stp_ct stp_ma stp_ev stp_mev stp_mm zero_ct zero_ev zero_ma ev_err ev_sent
attribute [local go_sem] rowAt_drew rowAt_drewN rowAt_new rowAt_past rowAt_setRow rowAt_setRow_other rowAt_setCell_other rowAt_setCell_map cell_setRow free_setRow cell_setRow_other free_setRow_other setRow_alloc_at setRow_alloc_past
attribute [local go_sem] ctA_0 ctA_1 ctA_2 ctA_3 ctA_4 ctA_5 ctA_6 ctA_7 ctA_8 ctA_9 ctA_10 ctA_11 ctA_12 ctA_13 ctA_14 ctA_15 ctA_16 ctA_17 ctA_18 ctA_19 ctA_20 ctA_21 ctA_22 evA_0 evA_1 evA_2 evA_3 evA_4 evA_5 evA_6 mA_0 mA_1 mA_2 mA_3 mA_4 mA_5 mA_6 mA_7 mA_8 mA_9 mA_10 mA_11 mA_12 mA_13 mA_14 mA_15 mA_16 mA_17 mA_18 mA_19 mA_20 mA_21 mA_22 mA_23 mA_24 mA_25 mA_26 mA_27 mA_28 mA_29
attribute [local go_sem] ctA_set0 ctA_set0_0 ctA_set1_0 ctA_suc0 ctA_set1 ctA_set0_1 ctA_set1_1 ctA_suc1 ctA_set2 ctA_set3 ctA_set0_3 ctA_set1_3 ctA_suc3 ctA_set4 ctA_set0_4 ctA_set1_4 ctA_suc4 ctA_set5 ctA_set0_5 ctA_set1_5 ctA_suc5 ctA_set6 ctA_set7 ctA_set8 ctA_set9 ctA_set0_9 ctA_set1_9 ctA_suc9 ctA_set10 ctA_set11 ctA_set12 ctA_set0_12 ctA_set1_12 ctA_suc12 ctA_set13 ctA_set14 ctA_set15 ctA_set16 ctA_set0_16 ctA_set1_16 ctA_suc16 ctA_set17 ctA_set0_17 ctA_set1_17 ctA_suc17 ctA_set18 ctA_set0_18 ctA_set1_18 ctA_suc18 ctA_set19 ctA_set20 ctA_set21 ctA_set0_21 ctA_set1_21 ctA_suc21 ctA_set22 mA_set0 mA_set0_0 mA_set1_0 mA_suc0 mA_set1 mA_set0_1 mA_set1_1 mA_suc1 mA_set2 mA_set3 mA_set0_3 mA_set1_3 mA_suc3 mA_set4 mA_set0_4 mA_set1_4 mA_suc4 mA_set5 mA_set0_5 mA_set1_5 mA_set1000000000_5 mA_suc5 mA_set6 mA_set7 mA_set8 mA_set9 mA_set0_9 mA_set1_9 mA_suc9 mA_set10 mA_set11 mA_set12 mA_set0_12 mA_set1_12 mA_suc12 mA_set13 mA_set14 mA_set15 mA_set16 mA_set0_16 mA_set1_16 mA_suc16 mA_set17 mA_set0_17 mA_set1_17 mA_set48_17 mA_suc17 mA_set18 mA_set0_18 mA_set1_18 mA_suc18 mA_set19 mA_set20 mA_set21 mA_set0_21 mA_set1_21 mA_suc21 mA_set22 evA_set0 evA_set0_0 evA_set1_0 evA_set2_0 evA_set3_0 evA_set4_0 evA_suc0 evA_set1 evA_set0_1 evA_set1_1 evA_suc1 evA_set2 evA_set3 evA_set4 evA_set0_4 evA_set1_4 evA_suc4 evA_set5 evA_set6 evA_set0_6 evA_set1_6 evA_set14_6 evA_suc6 mA_set23 mA_set0_23 mA_set1_23 mA_set2_23 mA_set3_23 mA_set4_23 mA_suc23 mA_set24 mA_set0_24 mA_set1_24 mA_suc24 mA_set25 mA_set26 mA_set27 mA_set0_27 mA_set1_27 mA_suc27 mA_set28 mA_set29 mA_set0_29 mA_set1_29 mA_suc29
set_option maxRecDepth 100000 in
theorem m_enter (c : B.Cs) (v : B.Ev) (g : Nat) (s : Int) (k : Nat) (w : World) (hR : rowAt w g = some (mA c v)) (hs : s = (k : Nat)) :
    Calls Tryz.prog 70 #[.pointer (some ⟨g, 0, none⟩), .int .i64 s] w fun e w' => e = .returned (.tuple #[]) ∧ (rowAt w' g = some (mA (B.bareC c.cnt k 0 c.was c.hard c.has c.fr) (v)) ∧ Below g w w') := by
  subst hs
  have q0 := rowAt_cell hR
  have f0 := rowAt_free hR
  have hl := rowAt_lt hR
  have CO := Lib.hid (fun w => outside_any c w)
  go_enter Tryz.func70, Tryz.ntmps70
  go_wp2_with (first
    | (go_at_call 39; (with_reducible refine (CO.out _).mono ?_); rintro e w1 ⟨rfl, hbw1⟩; have hRw1 := (rowAt_below hbw1 g hl).trans hR; have hGw1 : Below g w w1 := hbw1.mono (Nat.le_of_lt hl); have hlw1 := rowAt_lt hRw1; have qw1 := rowAt_cell hRw1; have fw1 := rowAt_free hRw1; clear hbw1))
  (first | go_end0 | refine bodyPost_ret (results_none Tryz.results70 _ _ _) rfl ?_)
  exact ⟨rfl, by simp [go_sem, hRw1] <;> rfl, by (repeat (first | (with_reducible assumption) | (with_reducible exact Below.refl _ _) | (with_reducible refine Below.drew ?_) | ((with_reducible refine Below.setCell ?_ ?_ _); rotate_left; (focus (first | omega | (simp; done) | (simp; omega)))) | ((with_reducible refine below_row ?_ ?_ _); rotate_left; (focus (first | omega | (simp; done) | (simp; omega)))) | ((with_reducible refine Below.alloc ?_ ?_ _); rotate_left; (focus (first | omega | (simp; done) | (simp; omega))))))⟩
set_option maxRecDepth 100000 in
theorem m_goOnY (c : B.Cs) (v : B.Ev) (g : Nat)  (w : World) (hR : rowAt w g = some (mA c v)) (hs : c.sends = true) (ha : c.at_ ≤ 1000) :
    Calls Tryz.prog 96 #[.pointer (some ⟨g, 0, none⟩)] w fun e w' => e = .returned (.tuple #[]) ∧ (rowAt w' g = some (mA ({ c with at_ := c.at_ + 1 }) (v)) ∧ Below g w w') := by
  have q0 := rowAt_cell hR
  have f0 := rowAt_free hR
  have hl := rowAt_lt hR
  go_enter Tryz.func96, Tryz.ntmps96
  go_wp2
  (first | go_end0 | refine bodyPost_ret (results_none Tryz.results96 _ _ _) rfl ?_)
  exact ⟨rfl, by simp [go_sem, hR] <;> rfl, by (repeat (first | (with_reducible assumption) | (with_reducible exact Below.refl _ _) | (with_reducible refine Below.drew ?_) | ((with_reducible refine Below.setCell ?_ ?_ _); rotate_left; (focus (first | omega | (simp; done) | (simp; omega)))) | ((with_reducible refine below_row ?_ ?_ _); rotate_left; (focus (first | omega | (simp; done) | (simp; omega)))) | ((with_reducible refine Below.alloc ?_ ?_ _); rotate_left; (focus (first | omega | (simp; done) | (simp; omega))))))⟩
set_option maxRecDepth 100000 in
theorem m_goOnN (c : B.Cs) (v : B.Ev) (g : Nat)  (w : World) (hR : rowAt w g = some (mA c v)) (hs : c.sends = false) :
    Calls Tryz.prog 96 #[.pointer (some ⟨g, 0, none⟩)] w fun e w' => e = .returned (.tuple #[]) ∧ (rowAt w' g = some (mA (c) (v)) ∧ Below g w w') := by
  have q0 := rowAt_cell hR
  have f0 := rowAt_free hR
  have hl := rowAt_lt hR
  go_enter Tryz.func96, Tryz.ntmps96
  go_wp2
  (first | go_end0 | refine bodyPost_ret (results_none Tryz.results96 _ _ _) rfl ?_)
  exact ⟨rfl, hR, Below.refl _ _⟩
set_option maxRecDepth 100000 in
theorem m_overload (c : B.Cs) (v : B.Ev) (g : Nat)  (w : World) (hR : rowAt w g = some (mA c v))  :
    Calls Tryz.prog 77 #[.pointer (some ⟨g, 0, none⟩)] w fun e w' => e = .returned (.tuple #[]) ∧ (rowAt w' g = some (mA (B.bareC c.cnt 3 0 c.was true c.has c.fr) (v)) ∧ Below g w w') := by
  have q0 := rowAt_cell hR
  have f0 := rowAt_free hR
  have hl := rowAt_lt hR
  have CE := Lib.hid (fun c w (h : rowAt w g = some (mA c v)) => m_enter c v g 3 3 w h rfl)
  go_enter Tryz.func77, Tryz.ntmps77
  go_wp2_with (first
    | (go_at_call 70; (with_reducible refine (CE.out { c with hard := true } _ ?_).mono ?_); (simp [go_sem, hR]); rintro e w1 ⟨rfl, hR1, hG1⟩))
  go_end0
  exact ⟨rfl, hR1, ((Below.refl g w).setCell (Nat.le_refl g) _).trans hG1⟩
set_option maxRecDepth 100000 in
theorem m_rested0 (c : B.Cs) (v : B.Ev) (g : Nat)  (w : World) (hR : rowAt w g = some (mA c v))  :
    Calls Tryz.prog 69 #[.pointer (some ⟨g, 0, none⟩), .int .u8 48] w fun e w' => e = .returned (.bool false) ∧ (rowAt w' g = some (mA ({ c with n := 0 }) (v)) ∧ Below g w w') := by
  have q0 := rowAt_cell hR
  have f0 := rowAt_free hR
  have hl := rowAt_lt hR
  go_enter Tryz.func69, Tryz.ntmps69
  go_wp2
  go_ret
  exact ⟨rfl, by simp [go_sem, hR], by (repeat (first | (with_reducible assumption) | (with_reducible exact Below.refl _ _) | (with_reducible refine Below.drew ?_) | ((with_reducible refine Below.setCell ?_ ?_ _); rotate_left; (focus (first | omega | (simp; done) | (simp; omega)))) | ((with_reducible refine below_row ?_ ?_ _); rotate_left; (focus (first | omega | (simp; done) | (simp; omega)))) | ((with_reducible refine Below.alloc ?_ ?_ _); rotate_left; (focus (first | omega | (simp; done) | (simp; omega))))))⟩
set_option maxRecDepth 100000 in
theorem m_rested1 (c : B.Cs) (v : B.Ev) (g : Nat)  (w : World) (hR : rowAt w g = some (mA c v)) (hn : c.n ≤ 1000000) :
    Calls Tryz.prog 69 #[.pointer (some ⟨g, 0, none⟩), .int .u8 49] w fun e w' => e = .returned (.bool (decide (c.n = 10))) ∧ (rowAt w' g = some (mA ({ c with n := c.n + 1 }) (v)) ∧ Below g w w') := by
  have q0 := rowAt_cell hR
  have f0 := rowAt_free hR
  have hl := rowAt_lt hR
  go_enter Tryz.func69, Tryz.ntmps69
  go_wp2
  go_ret
  exact ⟨ret_bool (by rw [Bool.eq_iff_iff, beq_iff_eq, decide_eq_true_eq]; omega), by simp [go_sem, hR], by (repeat (first | (with_reducible assumption) | (with_reducible exact Below.refl _ _) | (with_reducible refine Below.drew ?_) | ((with_reducible refine Below.setCell ?_ ?_ _); rotate_left; (focus (first | omega | (simp; done) | (simp; omega)))) | ((with_reducible refine below_row ?_ ?_ _); rotate_left; (focus (first | omega | (simp; done) | (simp; omega)))) | ((with_reducible refine Below.alloc ?_ ?_ _); rotate_left; (focus (first | omega | (simp; done) | (simp; omega))))))⟩
theorem pick_any (b : Bool) (x y : Int) (w : World) : Calls Tryz.prog 76 #[.bool b, .int .i64 x, .int .i64 y] w fun e w' => e = .returned (.int .i64 (if b then x else y)) ∧ w = w' := by
  cases b
  · go_enter Tryz.func76, Tryz.ntmps76
    go_wp2
    go_ret
    exact ⟨rfl, rfl⟩
  · go_enter Tryz.func76, Tryz.ntmps76
    go_wp2
    go_ret
    exact ⟨rfl, rfl⟩
end Go.Proofs.YtcaeobkaoebndaaGreat
