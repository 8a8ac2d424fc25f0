/- Layer 7: tail, last, through. -/
import Derived.Test.YtcaeobkaoebndaaGreatCtU
namespace Go.Proofs.YtcaeobkaoebndaaGreat
open Go.RowKit Go.Lib
attribute [local go_sem ↓] ld_ct st_ct ld_ev st_ev ld_ma st_ma bd_ma
attribute [local go_sem] ldCt_at stCt_at ldEv_at stEv_at ldMa_at stMa_at bdMa_at ldp_ct ldp_ma ldp_ev ldp_mev stp_ct stp_ma stp_ev stp_mev stp_mm zero_ct zero_ev zero_ma ev_err ev_sent
attribute [local go_sem] rowAt_drew rowAt_drewN rowAt_new rowAt_past rowAt_setRow rowAt_setRow_other rowAt_setCell_other rowAt_setCell_map cell_setRow free_setRow cell_setRow_other free_setRow_other setRow_alloc_at setRow_alloc_past
attribute [local go_sem] ctA_0 ctA_1 ctA_2 ctA_3 ctA_4 ctA_5 ctA_6 ctA_7 ctA_8 ctA_9 ctA_10 ctA_11 ctA_12 ctA_13 ctA_14 ctA_15 ctA_16 ctA_17 ctA_18 ctA_19 ctA_20 ctA_21 ctA_22 evA_0 evA_1 evA_2 evA_3 evA_4 evA_5 evA_6 mA_0 mA_1 mA_2 mA_3 mA_4 mA_5 mA_6 mA_7 mA_8 mA_9 mA_10 mA_11 mA_12 mA_13 mA_14 mA_15 mA_16 mA_17 mA_18 mA_19 mA_20 mA_21 mA_22 mA_23 mA_24 mA_25 mA_26 mA_27 mA_28 mA_29
attribute [local go_sem] ctA_set0 ctA_set0_0 ctA_set1_0 ctA_suc0 ctA_set1 ctA_set0_1 ctA_set1_1 ctA_suc1 ctA_set2 ctA_set3 ctA_set0_3 ctA_set1_3 ctA_suc3 ctA_set4 ctA_set0_4 ctA_set1_4 ctA_suc4 ctA_set5 ctA_set0_5 ctA_set1_5 ctA_suc5 ctA_set6 ctA_set7 ctA_set8 ctA_set9 ctA_set0_9 ctA_set1_9 ctA_suc9 ctA_set10 ctA_set11 ctA_set12 ctA_set0_12 ctA_set1_12 ctA_suc12 ctA_set13 ctA_set14 ctA_set15 ctA_set16 ctA_set0_16 ctA_set1_16 ctA_suc16 ctA_set17 ctA_set0_17 ctA_set1_17 ctA_suc17 ctA_set18 ctA_set0_18 ctA_set1_18 ctA_suc18 ctA_set19 ctA_set20 ctA_set21 ctA_set0_21 ctA_set1_21 ctA_suc21 ctA_set22 mA_set0 mA_set0_0 mA_set1_0 mA_suc0 mA_set1 mA_set0_1 mA_set1_1 mA_suc1 mA_set2 mA_set3 mA_set0_3 mA_set1_3 mA_suc3 mA_set4 mA_set0_4 mA_set1_4 mA_suc4 mA_set5 mA_set0_5 mA_set1_5 mA_set1000000000_5 mA_suc5 mA_set6 mA_set7 mA_set8 mA_set9 mA_set0_9 mA_set1_9 mA_suc9 mA_set10 mA_set11 mA_set12 mA_set0_12 mA_set1_12 mA_suc12 mA_set13 mA_set14 mA_set15 mA_set16 mA_set0_16 mA_set1_16 mA_suc16 mA_set17 mA_set0_17 mA_set1_17 mA_set48_17 mA_suc17 mA_set18 mA_set0_18 mA_set1_18 mA_suc18 mA_set19 mA_set20 mA_set21 mA_set0_21 mA_set1_21 mA_suc21 mA_set22 evA_set0 evA_set0_0 evA_set1_0 evA_set2_0 evA_set3_0 evA_set4_0 evA_suc0 evA_set1 evA_set0_1 evA_set1_1 evA_suc1 evA_set2 evA_set3 evA_set4 evA_set0_4 evA_set1_4 evA_suc4 evA_set5 evA_set6 evA_set0_6 evA_set1_6 evA_set14_6 evA_suc6 mA_set23 mA_set0_23 mA_set1_23 mA_set2_23 mA_set3_23 mA_set4_23 mA_suc23 mA_set24 mA_set0_24 mA_set1_24 mA_suc24 mA_set25 mA_set26 mA_set27 mA_set0_27 mA_set1_27 mA_suc27 mA_set28 mA_set29 mA_set0_29 mA_set1_29 mA_suc29
attribute [local go_sem] bareC_cnt bareC_state bareC_n bareC_was bareC_hard bareC_has bareC_fr bareC_sends bareC_out bareC_at_ bareC_st bareC_got bareC_fin bareC_tail bareC_good
set_option maxHeartbeats 1000000 in
set_option maxRecDepth 100000 in
theorem tail_e11 (c : B.Cs) (v : B.Ev) (g : Nat) (b : UInt8) (w : World) (hR : rowAt w g = some (mA c v)) (hk : c.cnt.may) (hoff : c.cnt.o = false) (hb : b = 48 ∨ b = 49) (he : c.faultE b = 11) :
    Calls Tryz.prog 73 #[.pointer (some ⟨g, 0, none⟩), .int .u8 (b.toNat : Nat)] w fun e w' => e = .returned (.tuple #[]) ∧ (rowAt w' g = some (mA ((c.err 11).1) (⟨3, B.noFr, 11⟩)) ∧ Below g w w') := by
  have CA0 := fun (w : World) (h : rowAt w g = some (mA c v)) => fault_any c v g b w h hb
  rw [he] at CA0
  have CA : Hid (∀ (c' : B.Cs) (v' : B.Ev) (w : World), rowAt w g = some (mA c v) → Calls Tryz.prog 95 #[.pointer (some ⟨g, 0, none⟩), .int .u8 (b.toNat : Nat)] w fun e w' => e = .returned (.int .i64 11) ∧ w = w') := Lib.hid (fun _ _ w h => CA0 w h)
  clear CA0 he
  have CF := Lib.hid (fun (c' : B.Cs) (v' : B.Ev) (w : World) (hh : rowAt w g = some (mA c' v')) (hc : c'.cnt = c.cnt) => m_fail c' v' g 11 11 w hh rfl (by rw [hc]; exact hk) (by rw [hc]; exact hoff))
  have q0 := rowAt_cell hR
  have f0 := rowAt_free hR
  have hl := rowAt_lt hR
  go_enter Tryz.func73, Tryz.ntmps73
  go_wp2_with (first
    | (go_at_call 95; (with_reducible refine (CA.out c v _ ?_).mono ?_); (simp [go_sem, *] <;> rfl); rintro e w' ⟨rfl, rfl⟩)
    | (go_at_call 93; (with_reducible refine (CF.out (c) (v) _ ?_ rfl).mono ?_); (simp [go_sem, *] <;> rfl); rintro e w1 ⟨rfl, hRw1, hGw1⟩; have hlw1 := rowAt_lt hRw1; have qw1 := rowAt_cell hRw1; have fw1 := rowAt_free hRw1))
  (first | go_end0 | refine bodyPost_ret (results_none Tryz.results73 _ _ _) rfl ?_)
  exact ⟨rfl, hRw1, (((show Below g w _ from by (repeat (first | (with_reducible assumption) | (with_reducible exact Below.refl _ _) | (with_reducible refine Below.drew ?_) | ((with_reducible refine Below.setCell ?_ ?_ _); rotate_left; (focus (first | omega | (simp; done) | (simp; omega)))) | ((with_reducible refine below_row ?_ ?_ _); rotate_left; (focus (first | omega | (simp; done) | (simp; omega)))) | ((with_reducible refine Below.alloc ?_ ?_ _); rotate_left; (focus (first | omega | (simp; done) | (simp; omega))))))).trans hGw1).trans (show Below g w1 _ from by (repeat (first | (with_reducible assumption) | (with_reducible exact Below.refl _ _) | (with_reducible refine Below.drew ?_) | ((with_reducible refine Below.setCell ?_ ?_ _); rotate_left; (focus (first | omega | (simp; done) | (simp; omega)))) | ((with_reducible refine below_row ?_ ?_ _); rotate_left; (focus (first | omega | (simp; done) | (simp; omega)))) | ((with_reducible refine Below.alloc ?_ ?_ _); rotate_left; (focus (first | omega | (simp; done) | (simp; omega))))))))⟩
set_option maxHeartbeats 1000000 in
set_option maxRecDepth 100000 in
theorem tail_e12 (c : B.Cs) (v : B.Ev) (g : Nat) (b : UInt8) (w : World) (hR : rowAt w g = some (mA c v)) (hk : c.cnt.may) (hoff : c.cnt.o = false) (hb : b = 48 ∨ b = 49) (he : c.faultE b = 12) :
    Calls Tryz.prog 73 #[.pointer (some ⟨g, 0, none⟩), .int .u8 (b.toNat : Nat)] w fun e w' => e = .returned (.tuple #[]) ∧ (rowAt w' g = some (mA ((c.err 12).1) (⟨3, B.noFr, 12⟩)) ∧ Below g w w') := by
  have CA0 := fun (w : World) (h : rowAt w g = some (mA c v)) => fault_any c v g b w h hb
  rw [he] at CA0
  have CA : Hid (∀ (c' : B.Cs) (v' : B.Ev) (w : World), rowAt w g = some (mA c v) → Calls Tryz.prog 95 #[.pointer (some ⟨g, 0, none⟩), .int .u8 (b.toNat : Nat)] w fun e w' => e = .returned (.int .i64 12) ∧ w = w') := Lib.hid (fun _ _ w h => CA0 w h)
  clear CA0 he
  have CF := Lib.hid (fun (c' : B.Cs) (v' : B.Ev) (w : World) (hh : rowAt w g = some (mA c' v')) (hc : c'.cnt = c.cnt) => m_fail c' v' g 12 12 w hh rfl (by rw [hc]; exact hk) (by rw [hc]; exact hoff))
  have q0 := rowAt_cell hR
  have f0 := rowAt_free hR
  have hl := rowAt_lt hR
  go_enter Tryz.func73, Tryz.ntmps73
  go_wp2_with (first
    | (go_at_call 95; (with_reducible refine (CA.out c v _ ?_).mono ?_); (simp [go_sem, *] <;> rfl); rintro e w' ⟨rfl, rfl⟩)
    | (go_at_call 93; (with_reducible refine (CF.out (c) (v) _ ?_ rfl).mono ?_); (simp [go_sem, *] <;> rfl); rintro e w1 ⟨rfl, hRw1, hGw1⟩; have hlw1 := rowAt_lt hRw1; have qw1 := rowAt_cell hRw1; have fw1 := rowAt_free hRw1))
  (first | go_end0 | refine bodyPost_ret (results_none Tryz.results73 _ _ _) rfl ?_)
  exact ⟨rfl, hRw1, (((show Below g w _ from by (repeat (first | (with_reducible assumption) | (with_reducible exact Below.refl _ _) | (with_reducible refine Below.drew ?_) | ((with_reducible refine Below.setCell ?_ ?_ _); rotate_left; (focus (first | omega | (simp; done) | (simp; omega)))) | ((with_reducible refine below_row ?_ ?_ _); rotate_left; (focus (first | omega | (simp; done) | (simp; omega)))) | ((with_reducible refine Below.alloc ?_ ?_ _); rotate_left; (focus (first | omega | (simp; done) | (simp; omega))))))).trans hGw1).trans (show Below g w1 _ from by (repeat (first | (with_reducible assumption) | (with_reducible exact Below.refl _ _) | (with_reducible refine Below.drew ?_) | ((with_reducible refine Below.setCell ?_ ?_ _); rotate_left; (focus (first | omega | (simp; done) | (simp; omega)))) | ((with_reducible refine below_row ?_ ?_ _); rotate_left; (focus (first | omega | (simp; done) | (simp; omega)))) | ((with_reducible refine Below.alloc ?_ ?_ _); rotate_left; (focus (first | omega | (simp; done) | (simp; omega))))))))⟩
set_option maxHeartbeats 1000000 in
set_option maxRecDepth 100000 in
theorem tail_e14 (c : B.Cs) (v : B.Ev) (g : Nat) (b : UInt8) (w : World) (hR : rowAt w g = some (mA c v)) (hk : c.cnt.may) (hoff : c.cnt.o = false) (hb : b = 48 ∨ b = 49) (he : c.faultE b = 14) :
    Calls Tryz.prog 73 #[.pointer (some ⟨g, 0, none⟩), .int .u8 (b.toNat : Nat)] w fun e w' => e = .returned (.tuple #[]) ∧ (rowAt w' g = some (mA ((c.err 14).1) (⟨3, B.noFr, 14⟩)) ∧ Below g w w') := by
  have CA0 := fun (w : World) (h : rowAt w g = some (mA c v)) => fault_any c v g b w h hb
  rw [he] at CA0
  have CA : Hid (∀ (c' : B.Cs) (v' : B.Ev) (w : World), rowAt w g = some (mA c v) → Calls Tryz.prog 95 #[.pointer (some ⟨g, 0, none⟩), .int .u8 (b.toNat : Nat)] w fun e w' => e = .returned (.int .i64 14) ∧ w = w') := Lib.hid (fun _ _ w h => CA0 w h)
  clear CA0 he
  have CF := Lib.hid (fun (c' : B.Cs) (v' : B.Ev) (w : World) (hh : rowAt w g = some (mA c' v')) (hc : c'.cnt = c.cnt) => m_fail c' v' g 14 14 w hh rfl (by rw [hc]; exact hk) (by rw [hc]; exact hoff))
  have q0 := rowAt_cell hR
  have f0 := rowAt_free hR
  have hl := rowAt_lt hR
  go_enter Tryz.func73, Tryz.ntmps73
  go_wp2_with (first
    | (go_at_call 95; (with_reducible refine (CA.out c v _ ?_).mono ?_); (simp [go_sem, *] <;> rfl); rintro e w' ⟨rfl, rfl⟩)
    | (go_at_call 93; (with_reducible refine (CF.out (c) (v) _ ?_ rfl).mono ?_); (simp [go_sem, *] <;> rfl); rintro e w1 ⟨rfl, hRw1, hGw1⟩; have hlw1 := rowAt_lt hRw1; have qw1 := rowAt_cell hRw1; have fw1 := rowAt_free hRw1))
  (first | go_end0 | refine bodyPost_ret (results_none Tryz.results73 _ _ _) rfl ?_)
  exact ⟨rfl, hRw1, (((show Below g w _ from by (repeat (first | (with_reducible assumption) | (with_reducible exact Below.refl _ _) | (with_reducible refine Below.drew ?_) | ((with_reducible refine Below.setCell ?_ ?_ _); rotate_left; (focus (first | omega | (simp; done) | (simp; omega)))) | ((with_reducible refine below_row ?_ ?_ _); rotate_left; (focus (first | omega | (simp; done) | (simp; omega)))) | ((with_reducible refine Below.alloc ?_ ?_ _); rotate_left; (focus (first | omega | (simp; done) | (simp; omega))))))).trans hGw1).trans (show Below g w1 _ from by (repeat (first | (with_reducible assumption) | (with_reducible exact Below.refl _ _) | (with_reducible refine Below.drew ?_) | ((with_reducible refine Below.setCell ?_ ?_ _); rotate_left; (focus (first | omega | (simp; done) | (simp; omega)))) | ((with_reducible refine below_row ?_ ?_ _); rotate_left; (focus (first | omega | (simp; done) | (simp; omega)))) | ((with_reducible refine Below.alloc ?_ ?_ _); rotate_left; (focus (first | omega | (simp; done) | (simp; omega))))))))⟩
set_option maxHeartbeats 1000000 in
set_option maxRecDepth 100000 in
theorem tail_yt (c : B.Cs) (v : B.Ev) (g : Nat) (b : UInt8) (w : World) (hR : rowAt w g = some (mA c v)) (hb : b = 48 ∨ b = 49) (he : c.faultE b = 0) (hs : c.sends = true) (h9 : c.tail ≤ 9) (k8 : (((c.tail : Nat) : Int) == 8) = true) (hat : c.at_ ≤ 1000) :
    Calls Tryz.prog 73 #[.pointer (some ⟨g, 0, none⟩), .int .u8 (b.toNat : Nat)] w fun e w' => e = .returned (.tuple #[]) ∧ (rowAt w' g = some (mA (c.adv) (v)) ∧ Below g w w') := by
  have CA0 := fun (w : World) (h : rowAt w g = some (mA c v)) => fault_any c v g b w h hb
  rw [he] at CA0
  have CA : Hid (∀ (c' : B.Cs) (v' : B.Ev) (w : World), rowAt w g = some (mA c v) → Calls Tryz.prog 95 #[.pointer (some ⟨g, 0, none⟩), .int .u8 (b.toNat : Nat)] w fun e w' => e = .returned (.int .i64 0) ∧ w = w') := Lib.hid (fun _ _ w h => CA0 w h)
  clear CA0 he
  have CO := Lib.hid (fun (c' : B.Cs) (v' : B.Ev) (w : World) (h : rowAt w g = some (mA c' v')) (h1 : c'.sends = true) (h2 : c'.at_ ≤ 1000) => m_goOnY c' v' g w h h1 h2)
  have HS := Lib.hid hs
  have q0 := rowAt_cell hR
  have f0 := rowAt_free hR
  have hl := rowAt_lt hR
  go_enter Tryz.func73, Tryz.ntmps73
  go_wp2_with (first
    | (go_at_call 95; (with_reducible refine (CA.out c v _ ?_).mono ?_); (simp [go_sem, *] <;> rfl); rintro e w' ⟨rfl, rfl⟩)
    | (go_at_call 96; (with_reducible refine (CO.out ({ c with tail := c.tail + 1 }) (v) _ ?_ HS.out hat).mono ?_); (simp [go_sem, *] <;> rfl); rintro e w1 ⟨rfl, hRw1, hGw1⟩; have hlw1 := rowAt_lt hRw1; have qw1 := rowAt_cell hRw1; have fw1 := rowAt_free hRw1))
  (first | go_end0 | refine bodyPost_ret (results_none Tryz.results73 _ _ _) rfl ?_)
  exact ⟨rfl, by unfold B.Cs.adv; simp [go_sem, *] <;> rfl, (((show Below g w _ from by (repeat (first | (with_reducible assumption) | (with_reducible exact Below.refl _ _) | (with_reducible refine Below.drew ?_) | ((with_reducible refine Below.setCell ?_ ?_ _); rotate_left; (focus (first | omega | (simp; done) | (simp; omega)))) | ((with_reducible refine below_row ?_ ?_ _); rotate_left; (focus (first | omega | (simp; done) | (simp; omega)))) | ((with_reducible refine Below.alloc ?_ ?_ _); rotate_left; (focus (first | omega | (simp; done) | (simp; omega))))))).trans hGw1).trans (show Below g w1 _ from by (repeat (first | (with_reducible assumption) | (with_reducible exact Below.refl _ _) | (with_reducible refine Below.drew ?_) | ((with_reducible refine Below.setCell ?_ ?_ _); rotate_left; (focus (first | omega | (simp; done) | (simp; omega)))) | ((with_reducible refine below_row ?_ ?_ _); rotate_left; (focus (first | omega | (simp; done) | (simp; omega)))) | ((with_reducible refine Below.alloc ?_ ?_ _); rotate_left; (focus (first | omega | (simp; done) | (simp; omega))))))))⟩
set_option maxHeartbeats 1000000 in
set_option maxRecDepth 100000 in
theorem tail_yf (c : B.Cs) (v : B.Ev) (g : Nat) (b : UInt8) (w : World) (hR : rowAt w g = some (mA c v)) (hb : b = 48 ∨ b = 49) (he : c.faultE b = 0) (hs : c.sends = true) (h9 : c.tail ≤ 9) (k8 : (((c.tail : Nat) : Int) == 8) = false) (hat : c.at_ ≤ 1000) :
    Calls Tryz.prog 73 #[.pointer (some ⟨g, 0, none⟩), .int .u8 (b.toNat : Nat)] w fun e w' => e = .returned (.tuple #[]) ∧ (rowAt w' g = some (mA (c.adv) (v)) ∧ Below g w w') := by
  have CA0 := fun (w : World) (h : rowAt w g = some (mA c v)) => fault_any c v g b w h hb
  rw [he] at CA0
  have CA : Hid (∀ (c' : B.Cs) (v' : B.Ev) (w : World), rowAt w g = some (mA c v) → Calls Tryz.prog 95 #[.pointer (some ⟨g, 0, none⟩), .int .u8 (b.toNat : Nat)] w fun e w' => e = .returned (.int .i64 0) ∧ w = w') := Lib.hid (fun _ _ w h => CA0 w h)
  clear CA0 he
  have CO := Lib.hid (fun (c' : B.Cs) (v' : B.Ev) (w : World) (h : rowAt w g = some (mA c' v')) (h1 : c'.sends = true) (h2 : c'.at_ ≤ 1000) => m_goOnY c' v' g w h h1 h2)
  have HS := Lib.hid hs
  have q0 := rowAt_cell hR
  have f0 := rowAt_free hR
  have hl := rowAt_lt hR
  go_enter Tryz.func73, Tryz.ntmps73
  go_wp2_with (first
    | (go_at_call 95; (with_reducible refine (CA.out c v _ ?_).mono ?_); (simp [go_sem, *] <;> rfl); rintro e w' ⟨rfl, rfl⟩)
    | (go_at_call 96; (with_reducible refine (CO.out ({ c with tail := c.tail + 1 }) (v) _ ?_ HS.out hat).mono ?_); (simp [go_sem, *] <;> rfl); rintro e w1 ⟨rfl, hRw1, hGw1⟩; have hlw1 := rowAt_lt hRw1; have qw1 := rowAt_cell hRw1; have fw1 := rowAt_free hRw1))
  (first | go_end0 | refine bodyPost_ret (results_none Tryz.results73 _ _ _) rfl ?_)
  exact ⟨rfl, by unfold B.Cs.adv; simp [go_sem, *] <;> rfl, (((show Below g w _ from by (repeat (first | (with_reducible assumption) | (with_reducible exact Below.refl _ _) | (with_reducible refine Below.drew ?_) | ((with_reducible refine Below.setCell ?_ ?_ _); rotate_left; (focus (first | omega | (simp; done) | (simp; omega)))) | ((with_reducible refine below_row ?_ ?_ _); rotate_left; (focus (first | omega | (simp; done) | (simp; omega)))) | ((with_reducible refine Below.alloc ?_ ?_ _); rotate_left; (focus (first | omega | (simp; done) | (simp; omega))))))).trans hGw1).trans (show Below g w1 _ from by (repeat (first | (with_reducible assumption) | (with_reducible exact Below.refl _ _) | (with_reducible refine Below.drew ?_) | ((with_reducible refine Below.setCell ?_ ?_ _); rotate_left; (focus (first | omega | (simp; done) | (simp; omega)))) | ((with_reducible refine below_row ?_ ?_ _); rotate_left; (focus (first | omega | (simp; done) | (simp; omega)))) | ((with_reducible refine Below.alloc ?_ ?_ _); rotate_left; (focus (first | omega | (simp; done) | (simp; omega))))))))⟩
set_option maxHeartbeats 1000000 in
set_option maxRecDepth 100000 in
theorem tail_nf (c : B.Cs) (v : B.Ev) (g : Nat) (b : UInt8) (w : World) (hR : rowAt w g = some (mA c v)) (hb : b = 48 ∨ b = 49) (he : c.faultE b = 0) (hs : c.sends = false) (h9 : c.tail ≤ 9) (k8 : (((c.tail : Nat) : Int) == 8) = false) :
    Calls Tryz.prog 73 #[.pointer (some ⟨g, 0, none⟩), .int .u8 (b.toNat : Nat)] w fun e w' => e = .returned (.tuple #[]) ∧ (rowAt w' g = some (mA (c.adv) (v)) ∧ Below g w w') := by
  have CA0 := fun (w : World) (h : rowAt w g = some (mA c v)) => fault_any c v g b w h hb
  rw [he] at CA0
  have CA : Hid (∀ (c' : B.Cs) (v' : B.Ev) (w : World), rowAt w g = some (mA c v) → Calls Tryz.prog 95 #[.pointer (some ⟨g, 0, none⟩), .int .u8 (b.toNat : Nat)] w fun e w' => e = .returned (.int .i64 0) ∧ w = w') := Lib.hid (fun _ _ w h => CA0 w h)
  clear CA0 he
  have CO := Lib.hid (fun (c' : B.Cs) (v' : B.Ev) (w : World) (h : rowAt w g = some (mA c' v')) (h1 : c'.sends = false) => m_goOnN c' v' g w h h1)
  have HS := Lib.hid hs
  have q0 := rowAt_cell hR
  have f0 := rowAt_free hR
  have hl := rowAt_lt hR
  go_enter Tryz.func73, Tryz.ntmps73
  go_wp2_with (first
    | (go_at_call 95; (with_reducible refine (CA.out c v _ ?_).mono ?_); (simp [go_sem, *] <;> rfl); rintro e w' ⟨rfl, rfl⟩)
    | (go_at_call 96; (with_reducible refine (CO.out ({ c with tail := c.tail + 1 }) (v) _ ?_ HS.out).mono ?_); (simp [go_sem, *] <;> rfl); rintro e w1 ⟨rfl, hRw1, hGw1⟩; have hlw1 := rowAt_lt hRw1; have qw1 := rowAt_cell hRw1; have fw1 := rowAt_free hRw1))
  (first | go_end0 | refine bodyPost_ret (results_none Tryz.results73 _ _ _) rfl ?_)
  exact ⟨rfl, by unfold B.Cs.adv; simp [go_sem, *] <;> rfl, (((show Below g w _ from by (repeat (first | (with_reducible assumption) | (with_reducible exact Below.refl _ _) | (with_reducible refine Below.drew ?_) | ((with_reducible refine Below.setCell ?_ ?_ _); rotate_left; (focus (first | omega | (simp; done) | (simp; omega)))) | ((with_reducible refine below_row ?_ ?_ _); rotate_left; (focus (first | omega | (simp; done) | (simp; omega)))) | ((with_reducible refine Below.alloc ?_ ?_ _); rotate_left; (focus (first | omega | (simp; done) | (simp; omega))))))).trans hGw1).trans (show Below g w1 _ from by (repeat (first | (with_reducible assumption) | (with_reducible exact Below.refl _ _) | (with_reducible refine Below.drew ?_) | ((with_reducible refine Below.setCell ?_ ?_ _); rotate_left; (focus (first | omega | (simp; done) | (simp; omega)))) | ((with_reducible refine below_row ?_ ?_ _); rotate_left; (focus (first | omega | (simp; done) | (simp; omega)))) | ((with_reducible refine Below.alloc ?_ ?_ _); rotate_left; (focus (first | omega | (simp; done) | (simp; omega))))))))⟩
set_option maxHeartbeats 1000000 in
set_option maxRecDepth 100000 in
theorem tail_c (c : B.Cs) (v : B.Ev) (g : Nat) (b : UInt8) (w : World) (hR : rowAt w g = some (mA c v)) (hv : v = B.ev0) (hb : b = 48 ∨ b = 49) (he : c.faultE b = 0) (hs : c.sends = false) (h8 : c.tail = 8) (hk : c.cnt.may) (ha : c.got.all B.okc = true) (hl : c.got.length ≤ 250) (hfin : (B.sizeL c.got).2 = 0 ∧ c.got.length = (B.sizeL c.got).1 + 15) (hg : B.goodB c.got = true) :
    Calls Tryz.prog 73 #[.pointer (some ⟨g, 0, none⟩), .int .u8 (b.toNat : Nat)] w fun e w' => e = .returned (.tuple #[]) ∧ (rowAt w' g = some (mA ({ c.adv with cnt := c.cnt.step 2 }) (⟨2, (B.decode (c.got.take (c.got.length - 15))), 0⟩)) ∧ Below g w w') := by
  have CA0 := fun (w : World) (h : rowAt w g = some (mA c v)) => fault_any c v g b w h hb
  rw [he] at CA0
  have CA : Hid (∀ (c' : B.Cs) (v' : B.Ev) (w : World), rowAt w g = some (mA c v) → Calls Tryz.prog 95 #[.pointer (some ⟨g, 0, none⟩), .int .u8 (b.toNat : Nat)] w fun e w' => e = .returned (.int .i64 0) ∧ w = w') := Lib.hid (fun _ _ w h => CA0 w h)
  clear CA0 he
  have CO := Lib.hid (fun (c' : B.Cs) (v' : B.Ev) (w : World) (h : rowAt w g = some (mA c' v')) (h1 : c'.sends = false) => m_goOnN c' v' g w h h1)
  subst hv
  have h15 : 15 ≤ c.got.length := by omega
  have hsz : B.sizeL (c.got.take (c.got.length - 15)) = ((c.got.take (c.got.length - 15)).length, 0) := by
    have e := B.size_take7 hfin.1 (by omega)
    have e2 : c.got.length - 15 = (B.sizeL c.got).1 := by omega
    rw [e2, e, List.length_take, Nat.min_eq_left (by omega), ← hfin.1]
  have hh : B.headL (B.decode (c.got.take (c.got.length - 15))) = c.got.take (c.got.length - 15) := by
    unfold B.goodB at hg
    simp only [Bool.and_eq_true, decide_eq_true_eq] at hg
    exact hg.2
  have CM0 := fun (c' : B.Cs) (w : World) (e : c'.got = c.got) => came_yes c' w (c.got.take (c.got.length - 15)) (by rw [e]; exact ha) (by rw [e]; omega) (by rw [e]; exact h15) (by rw [e]) hsz hh
  have CM := Lib.hid CM0
  have CC := Lib.hid (fun (c' : B.Cs) (v' : B.Ev) (w : World) (h : rowAt w g = some (mA c' v')) (hc : c'.cnt.may) => m_count c' v' g 2 2 w h hc rfl (by omega))
  obtain ⟨D, hD⟩ : ∃ D, D = (B.decode (c.got.take (c.got.length - 15))) := ⟨_, rfl⟩
  rw [← hD] at CM ⊢
  have HS := Lib.hid hs
  have HT := Lib.hid h8
  clear CM0 hD hh hsz hg hfin ha
  have q0 := rowAt_cell hR
  have f0 := rowAt_free hR
  have hl := rowAt_lt hR
  go_enter Tryz.func73, Tryz.ntmps73
  go_wp2_with (first
    | (go_at_call 95; (with_reducible refine (CA.out c B.ev0 _ ?_).mono ?_); (simp [go_sem, *] <;> rfl); rintro e w' ⟨rfl, rfl⟩)
    | (go_at_call 87; (with_reducible refine (CM.out c _ rfl).mono ?_); rintro e w1 ⟨rfl, hbw1⟩; have hRw1 := (rowAt_below hbw1 g (by first | omega | (simp; done) | (simp; omega))).trans (by simp [go_sem, *] <;> rfl : _ = some (mA (c) ({ B.ev0 with kind := 2 }))); have hGw1 := (show Below g w _ from by (repeat (first | (with_reducible assumption) | (with_reducible exact Below.refl _ _) | (with_reducible refine Below.drew ?_) | ((with_reducible refine Below.setCell ?_ ?_ _); rotate_left; (focus (first | omega | (simp; done) | (simp; omega)))) | ((with_reducible refine below_row ?_ ?_ _); rotate_left; (focus (first | omega | (simp; done) | (simp; omega)))) | ((with_reducible refine Below.alloc ?_ ?_ _); rotate_left; (focus (first | omega | (simp; done) | (simp; omega))))))).trans (hbw1.mono (by first | omega | (simp; done) | (simp; omega))); have hlw1 := rowAt_lt hRw1; have qw1 := rowAt_cell hRw1; have fw1 := rowAt_free hRw1; clear hbw1)
    | (go_at_call 75; (with_reducible refine (CC.out (c) (⟨2, D, 0⟩) _ ?_ hk).mono ?_); (simp [go_sem, *] <;> rfl); rintro e w2 ⟨rfl, hRw2, hGw2⟩; have hlw2 := rowAt_lt hRw2; have qw2 := rowAt_cell hRw2; have fw2 := rowAt_free hRw2)
    | (go_at_call 96; (with_reducible refine (CO.out ({ c with cnt := c.cnt.step 2, tail := c.tail + 1 }) (⟨2, D, 0⟩) _ ?_ HS.out).mono ?_); (simp [go_sem, *] <;> rfl); rintro e w3 ⟨rfl, hRw3, hGw3⟩; have hlw3 := rowAt_lt hRw3; have qw3 := rowAt_cell hRw3; have fw3 := rowAt_free hRw3))
  (first | go_end0 | refine bodyPost_ret (results_none Tryz.results73 _ _ _) rfl ?_)
  exact ⟨rfl, by have hs := HS.out; have h8 := HT.out; unfold B.Cs.adv; simp [go_sem, *] <;> rfl, (((((show Below g w _ from by (repeat (first | (with_reducible assumption) | (with_reducible exact Below.refl _ _) | (with_reducible refine Below.drew ?_) | ((with_reducible refine Below.setCell ?_ ?_ _); rotate_left; (focus (first | omega | (simp; done) | (simp; omega)))) | ((with_reducible refine below_row ?_ ?_ _); rotate_left; (focus (first | omega | (simp; done) | (simp; omega)))) | ((with_reducible refine Below.alloc ?_ ?_ _); rotate_left; (focus (first | omega | (simp; done) | (simp; omega))))))).trans hGw1).trans ((show Below g w1 _ from by (repeat (first | (with_reducible assumption) | (with_reducible exact Below.refl _ _) | (with_reducible refine Below.drew ?_) | ((with_reducible refine Below.setCell ?_ ?_ _); rotate_left; (focus (first | omega | (simp; done) | (simp; omega)))) | ((with_reducible refine below_row ?_ ?_ _); rotate_left; (focus (first | omega | (simp; done) | (simp; omega)))) | ((with_reducible refine Below.alloc ?_ ?_ _); rotate_left; (focus (first | omega | (simp; done) | (simp; omega))))))).trans hGw2)).trans ((show Below g w2 _ from by (repeat (first | (with_reducible assumption) | (with_reducible exact Below.refl _ _) | (with_reducible refine Below.drew ?_) | ((with_reducible refine Below.setCell ?_ ?_ _); rotate_left; (focus (first | omega | (simp; done) | (simp; omega)))) | ((with_reducible refine below_row ?_ ?_ _); rotate_left; (focus (first | omega | (simp; done) | (simp; omega)))) | ((with_reducible refine Below.alloc ?_ ?_ _); rotate_left; (focus (first | omega | (simp; done) | (simp; omega))))))).trans hGw3)).trans (show Below g w3 _ from by (repeat (first | (with_reducible assumption) | (with_reducible exact Below.refl _ _) | (with_reducible refine Below.drew ?_) | ((with_reducible refine Below.setCell ?_ ?_ _); rotate_left; (focus (first | omega | (simp; done) | (simp; omega)))) | ((with_reducible refine below_row ?_ ?_ _); rotate_left; (focus (first | omega | (simp; done) | (simp; omega)))) | ((with_reducible refine Below.alloc ?_ ?_ _); rotate_left; (focus (first | omega | (simp; done) | (simp; omega))))))))⟩
set_option maxHeartbeats 1000000 in
set_option maxRecDepth 100000 in
theorem last_a (c : B.Cs) (v : B.Ev) (g : Nat)  (w : World) (hR : rowAt w g = some (mA c v)) (hk : c.cnt.may) (hoff : c.cnt.o = false) (hs : c.sends = true) :
    Calls Tryz.prog 74 #[.pointer (some ⟨g, 0, none⟩), .int .u8 48] w fun e w' => e = .returned (.tuple #[]) ∧ (rowAt w' g = some (mA ((c.err 12).1) (⟨3, B.noFr, 12⟩)) ∧ Below g w w') := by
  have CF := Lib.hid (fun (c' : B.Cs) (v' : B.Ev) (w : World) (hh : rowAt w g = some (mA c' v')) (hc : c'.cnt = c.cnt) => m_fail c' v' g 12 12 w hh rfl (by rw [hc]; exact hk) (by rw [hc]; exact hoff))
  have q0 := rowAt_cell hR
  have f0 := rowAt_free hR
  have hl := rowAt_lt hR
  go_enter Tryz.func74, Tryz.ntmps74
  go_wp2_with (first
    | (go_at_call 93; (with_reducible refine (CF.out (c) (v) _ ?_ rfl).mono ?_); (simp [go_sem, *] <;> rfl); rintro e w1 ⟨rfl, hRw1, hGw1⟩; have hlw1 := rowAt_lt hRw1; have qw1 := rowAt_cell hRw1; have fw1 := rowAt_free hRw1))
  (first | go_end0 | refine bodyPost_ret (results_none Tryz.results74 _ _ _) rfl ?_)
  exact ⟨rfl, hRw1, (((show Below g w _ from by (repeat (first | (with_reducible assumption) | (with_reducible exact Below.refl _ _) | (with_reducible refine Below.drew ?_) | ((with_reducible refine Below.setCell ?_ ?_ _); rotate_left; (focus (first | omega | (simp; done) | (simp; omega)))) | ((with_reducible refine below_row ?_ ?_ _); rotate_left; (focus (first | omega | (simp; done) | (simp; omega)))) | ((with_reducible refine Below.alloc ?_ ?_ _); rotate_left; (focus (first | omega | (simp; done) | (simp; omega))))))).trans hGw1).trans (show Below g w1 _ from by (repeat (first | (with_reducible assumption) | (with_reducible exact Below.refl _ _) | (with_reducible refine Below.drew ?_) | ((with_reducible refine Below.setCell ?_ ?_ _); rotate_left; (focus (first | omega | (simp; done) | (simp; omega)))) | ((with_reducible refine below_row ?_ ?_ _); rotate_left; (focus (first | omega | (simp; done) | (simp; omega)))) | ((with_reducible refine Below.alloc ?_ ?_ _); rotate_left; (focus (first | omega | (simp; done) | (simp; omega))))))))⟩
set_option maxHeartbeats 1000000 in
set_option maxRecDepth 100000 in
theorem last_b (c : B.Cs) (v : B.Ev) (g : Nat)  (w : World) (hR : rowAt w g = some (mA c v)) (hs : c.sends = false) :
    Calls Tryz.prog 74 #[.pointer (some ⟨g, 0, none⟩), .int .u8 48] w fun e w' => e = .returned (.tuple #[]) ∧ (rowAt w' g = some (mA (B.bareC c.cnt 3 0 c.was true c.has c.fr) (v)) ∧ Below g w w') := by
  have CV := Lib.hid (fun (c' : B.Cs) (v' : B.Ev) (w : World) (h : rowAt w g = some (mA c' v')) => m_overload c' v' g w h)
  have q0 := rowAt_cell hR
  have f0 := rowAt_free hR
  have hl := rowAt_lt hR
  go_enter Tryz.func74, Tryz.ntmps74
  go_wp2_with (first
    | (go_at_call 77; (with_reducible refine (CV.out (c) (v) _ ?_).mono ?_); (simp [go_sem, *] <;> rfl); rintro e w1 ⟨rfl, hRw1, hGw1⟩; have hlw1 := rowAt_lt hRw1; have qw1 := rowAt_cell hRw1; have fw1 := rowAt_free hRw1))
  (first | go_end0 | refine bodyPost_ret (results_none Tryz.results74 _ _ _) rfl ?_)
  exact ⟨rfl, hRw1, (((show Below g w _ from by (repeat (first | (with_reducible assumption) | (with_reducible exact Below.refl _ _) | (with_reducible refine Below.drew ?_) | ((with_reducible refine Below.setCell ?_ ?_ _); rotate_left; (focus (first | omega | (simp; done) | (simp; omega)))) | ((with_reducible refine below_row ?_ ?_ _); rotate_left; (focus (first | omega | (simp; done) | (simp; omega)))) | ((with_reducible refine Below.alloc ?_ ?_ _); rotate_left; (focus (first | omega | (simp; done) | (simp; omega))))))).trans hGw1).trans (show Below g w1 _ from by (repeat (first | (with_reducible assumption) | (with_reducible exact Below.refl _ _) | (with_reducible refine Below.drew ?_) | ((with_reducible refine Below.setCell ?_ ?_ _); rotate_left; (focus (first | omega | (simp; done) | (simp; omega)))) | ((with_reducible refine below_row ?_ ?_ _); rotate_left; (focus (first | omega | (simp; done) | (simp; omega)))) | ((with_reducible refine Below.alloc ?_ ?_ _); rotate_left; (focus (first | omega | (simp; done) | (simp; omega))))))))⟩
set_option maxHeartbeats 1000000 in
set_option maxRecDepth 100000 in
theorem last_c (c : B.Cs) (v : B.Ev) (g : Nat)  (w : World) (hR : rowAt w g = some (mA c v)) (hv : v = B.ev0) (hs : c.sends = true) (hk : c.cnt.may) :
    Calls Tryz.prog 74 #[.pointer (some ⟨g, 0, none⟩), .int .u8 49] w fun e w' => e = .returned (.tuple #[]) ∧ (rowAt w' g = some (mA (B.bareC (c.cnt.step 1) 6 0 c.was c.hard false B.noFr) (⟨1, c.fr, 0⟩)) ∧ Below g w w') := by
  subst hv
  have CE := Lib.hid (fun (c : B.Cs) (v : B.Ev) (w : World) (h : rowAt w g = some (mA c v)) => m_enter c v g 6 6 w h rfl)
  have CC := Lib.hid (fun (c' : B.Cs) (v' : B.Ev) (w : World) (h : rowAt w g = some (mA c' v')) (hc : c'.cnt.may) => m_count c' v' g 1 1 w h hc rfl (by omega))
  have q0 := rowAt_cell hR
  have f0 := rowAt_free hR
  have hl := rowAt_lt hR
  go_enter Tryz.func74, Tryz.ntmps74
  go_wp2_with (first
    | (go_at_call 75; (with_reducible refine (CC.out (c) (⟨1, c.fr, 0⟩) _ ?_ hk).mono ?_); (simp [go_sem, *] <;> rfl); rintro e w1 ⟨rfl, hRw1, hGw1⟩; have hlw1 := rowAt_lt hRw1; have qw1 := rowAt_cell hRw1; have fw1 := rowAt_free hRw1)
    | (go_at_call 70; (with_reducible refine (CE.out ({ c with cnt := c.cnt.step 1, has := false, fr := B.noFr }) (⟨1, c.fr, 0⟩) _ ?_).mono ?_); (simp [go_sem, *] <;> rfl); rintro e w2 ⟨rfl, hRw2, hGw2⟩; have hlw2 := rowAt_lt hRw2; have qw2 := rowAt_cell hRw2; have fw2 := rowAt_free hRw2))
  (first | go_end0 | refine bodyPost_ret (results_none Tryz.results74 _ _ _) rfl ?_)
  exact ⟨rfl, hRw2, ((((show Below g w _ from by (repeat (first | (with_reducible assumption) | (with_reducible exact Below.refl _ _) | (with_reducible refine Below.drew ?_) | ((with_reducible refine Below.setCell ?_ ?_ _); rotate_left; (focus (first | omega | (simp; done) | (simp; omega)))) | ((with_reducible refine below_row ?_ ?_ _); rotate_left; (focus (first | omega | (simp; done) | (simp; omega)))) | ((with_reducible refine Below.alloc ?_ ?_ _); rotate_left; (focus (first | omega | (simp; done) | (simp; omega))))))).trans hGw1).trans ((show Below g w1 _ from by (repeat (first | (with_reducible assumption) | (with_reducible exact Below.refl _ _) | (with_reducible refine Below.drew ?_) | ((with_reducible refine Below.setCell ?_ ?_ _); rotate_left; (focus (first | omega | (simp; done) | (simp; omega)))) | ((with_reducible refine below_row ?_ ?_ _); rotate_left; (focus (first | omega | (simp; done) | (simp; omega)))) | ((with_reducible refine Below.alloc ?_ ?_ _); rotate_left; (focus (first | omega | (simp; done) | (simp; omega))))))).trans hGw2)).trans (show Below g w2 _ from by (repeat (first | (with_reducible assumption) | (with_reducible exact Below.refl _ _) | (with_reducible refine Below.drew ?_) | ((with_reducible refine Below.setCell ?_ ?_ _); rotate_left; (focus (first | omega | (simp; done) | (simp; omega)))) | ((with_reducible refine below_row ?_ ?_ _); rotate_left; (focus (first | omega | (simp; done) | (simp; omega)))) | ((with_reducible refine Below.alloc ?_ ?_ _); rotate_left; (focus (first | omega | (simp; done) | (simp; omega))))))))⟩
set_option maxHeartbeats 1000000 in
set_option maxRecDepth 100000 in
theorem last_d (c : B.Cs) (v : B.Ev) (g : Nat)  (w : World) (hR : rowAt w g = some (mA c v)) (hs : c.sends = false) :
    Calls Tryz.prog 74 #[.pointer (some ⟨g, 0, none⟩), .int .u8 49] w fun e w' => e = .returned (.tuple #[]) ∧ (rowAt w' g = some (mA (B.bareC c.cnt 6 0 c.was c.hard c.has c.fr) (v)) ∧ Below g w w') := by
  have CE := Lib.hid (fun (c : B.Cs) (v : B.Ev) (w : World) (h : rowAt w g = some (mA c v)) => m_enter c v g 6 6 w h rfl)
  have q0 := rowAt_cell hR
  have f0 := rowAt_free hR
  have hl := rowAt_lt hR
  go_enter Tryz.func74, Tryz.ntmps74
  go_wp2_with (first
    | (go_at_call 70; (with_reducible refine (CE.out (c) (v) _ ?_).mono ?_); (simp [go_sem, *] <;> rfl); rintro e w1 ⟨rfl, hRw1, hGw1⟩; have hlw1 := rowAt_lt hRw1; have qw1 := rowAt_cell hRw1; have fw1 := rowAt_free hRw1))
  (first | go_end0 | refine bodyPost_ret (results_none Tryz.results74 _ _ _) rfl ?_)
  exact ⟨rfl, hRw1, (((show Below g w _ from by (repeat (first | (with_reducible assumption) | (with_reducible exact Below.refl _ _) | (with_reducible refine Below.drew ?_) | ((with_reducible refine Below.setCell ?_ ?_ _); rotate_left; (focus (first | omega | (simp; done) | (simp; omega)))) | ((with_reducible refine below_row ?_ ?_ _); rotate_left; (focus (first | omega | (simp; done) | (simp; omega)))) | ((with_reducible refine Below.alloc ?_ ?_ _); rotate_left; (focus (first | omega | (simp; done) | (simp; omega))))))).trans hGw1).trans (show Below g w1 _ from by (repeat (first | (with_reducible assumption) | (with_reducible exact Below.refl _ _) | (with_reducible refine Below.drew ?_) | ((with_reducible refine Below.setCell ?_ ?_ _); rotate_left; (focus (first | omega | (simp; done) | (simp; omega)))) | ((with_reducible refine below_row ?_ ?_ _); rotate_left; (focus (first | omega | (simp; done) | (simp; omega)))) | ((with_reducible refine Below.alloc ?_ ?_ _); rotate_left; (focus (first | omega | (simp; done) | (simp; omega))))))))⟩
end Go.Proofs.YtcaeobkaoebndaaGreat
