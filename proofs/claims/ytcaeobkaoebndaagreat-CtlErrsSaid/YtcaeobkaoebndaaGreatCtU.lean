/- Layer 7: take whole, contend. -/
import Derived.Test.YtcaeobkaoebndaaGreatCtT
namespace Go.Proofs.YtcaeobkaoebndaaGreat
open Go.RowKit Go.Lib
attribute [local go_sem ↓] ld_ct st_ct ld_ev st_ev ld_ma st_ma bd_ma
attribute [local go_sem] ldCt_at stCt_at ldEv_at stEv_at ldMa_at stMa_at bdMa_at ldp_ct ldp_ma ldp_ev ldp_mev stp_ct stp_ma stp_ev stp_mev stp_mm zero_ct zero_ev zero_ma ev_err ev_sent
attribute [local go_sem] rowAt_drew rowAt_drewN rowAt_new rowAt_past rowAt_setRow rowAt_setRow_other rowAt_setCell_other rowAt_setCell_map cell_setRow free_setRow cell_setRow_other free_setRow_other setRow_alloc_at setRow_alloc_past
attribute [local go_sem] ctA_0 ctA_1 ctA_2 ctA_3 ctA_4 ctA_5 ctA_6 ctA_7 ctA_8 ctA_9 ctA_10 ctA_11 ctA_12 ctA_13 ctA_14 ctA_15 ctA_16 ctA_17 ctA_18 ctA_19 ctA_20 ctA_21 ctA_22 evA_0 evA_1 evA_2 evA_3 evA_4 evA_5 evA_6 mA_0 mA_1 mA_2 mA_3 mA_4 mA_5 mA_6 mA_7 mA_8 mA_9 mA_10 mA_11 mA_12 mA_13 mA_14 mA_15 mA_16 mA_17 mA_18 mA_19 mA_20 mA_21 mA_22 mA_23 mA_24 mA_25 mA_26 mA_27 mA_28 mA_29
attribute [local go_sem] ctA_set0 ctA_set0_0 ctA_set1_0 ctA_suc0 ctA_set1 ctA_set0_1 ctA_set1_1 ctA_suc1 ctA_set2 ctA_set3 ctA_set0_3 ctA_set1_3 ctA_suc3 ctA_set4 ctA_set0_4 ctA_set1_4 ctA_suc4 ctA_set5 ctA_set0_5 ctA_set1_5 ctA_suc5 ctA_set6 ctA_set7 ctA_set8 ctA_set9 ctA_set0_9 ctA_set1_9 ctA_suc9 ctA_set10 ctA_set11 ctA_set12 ctA_set0_12 ctA_set1_12 ctA_suc12 ctA_set13 ctA_set14 ctA_set15 ctA_set16 ctA_set0_16 ctA_set1_16 ctA_suc16 ctA_set17 ctA_set0_17 ctA_set1_17 ctA_suc17 ctA_set18 ctA_set0_18 ctA_set1_18 ctA_suc18 ctA_set19 ctA_set20 ctA_set21 ctA_set0_21 ctA_set1_21 ctA_suc21 ctA_set22 mA_set0 mA_set0_0 mA_set1_0 mA_suc0 mA_set1 mA_set0_1 mA_set1_1 mA_suc1 mA_set2 mA_set3 mA_set0_3 mA_set1_3 mA_suc3 mA_set4 mA_set0_4 mA_set1_4 mA_suc4 mA_set5 mA_set0_5 mA_set1_5 mA_set1000000000_5 mA_suc5 mA_set6 mA_set7 mA_set8 mA_set9 mA_set0_9 mA_set1_9 mA_suc9 mA_set10 mA_set11 mA_set12 mA_set0_12 mA_set1_12 mA_suc12 mA_set13 mA_set14 mA_set15 mA_set16 mA_set0_16 mA_set1_16 mA_suc16 mA_set17 mA_set0_17 mA_set1_17 mA_set48_17 mA_suc17 mA_set18 mA_set0_18 mA_set1_18 mA_suc18 mA_set19 mA_set20 mA_set21 mA_set0_21 mA_set1_21 mA_suc21 mA_set22 evA_set0 evA_set0_0 evA_set1_0 evA_set2_0 evA_set3_0 evA_set4_0 evA_suc0 evA_set1 evA_set0_1 evA_set1_1 evA_suc1 evA_set2 evA_set3 evA_set4 evA_set0_4 evA_set1_4 evA_suc4 evA_set5 evA_set6 evA_set0_6 evA_set1_6 evA_set14_6 evA_suc6 mA_set23 mA_set0_23 mA_set1_23 mA_set2_23 mA_set3_23 mA_set4_23 mA_suc23 mA_set24 mA_set0_24 mA_set1_24 mA_suc24 mA_set25 mA_set26 mA_set27 mA_set0_27 mA_set1_27 mA_suc27 mA_set28 mA_set29 mA_set0_29 mA_set1_29 mA_suc29
attribute [local go_sem] bareC_cnt bareC_state bareC_n bareC_was bareC_hard bareC_has bareC_fr bareC_sends bareC_out bareC_at_ bareC_st bareC_got bareC_fin bareC_tail bareC_good

/-- what take asks of a controller -/
structure TkH (c : B.Cs) : Prop where
  all : c.got.all B.okc = true
  len : c.got.length ≤ 250
  may : B.may c.st
  cnt : c.cnt.may
  off : c.cnt.o = false
  size : (B.sizeL c.got).2 ≠ 12
  tail : c.tail = 0
  at_ : c.at_ ≤ 1000
theorem m_take (c : B.Cs) (v : B.Ev) (g : Nat) (b : UInt8) (l : Bool) (w : World) (hR : rowAt w g = some (mA c v)) (hv : v = if l then ⟨4, B.noFr, 0⟩ else B.ev0) (h : TkH c) (hb : B.okc b = true) :
    Calls Tryz.prog 94 #[.pointer (some ⟨g, 0, none⟩), .int .u8 (b.toNat : Nat)] w fun x w' => x = .returned (.tuple #[]) ∧ (rowAt w' g = some (mA (c.stuffed l b).1 (c.stuffed l b).2) ∧ Below g w w') := by
  rcases B.kind_le c.st b.toNat with hq | hq | hq
  · have hn : B.nextB c.st c.got b = c.got ++ [b] := by unfold B.nextB; rw [if_pos hq]
    by_cases hz : (B.sizeL (c.got ++ [b])).2 = 12
    · have e : c.stuffed l b = c.err 12 := by unfold B.Cs.stuffed; rw [if_neg (by omega), hn, if_pos hz]
      rw [e]
      exact mtake_form c v g b w hR h.all h.len h.may h.cnt h.off hb hq hz
    · have e : (c.stuffed l b).2 = v := by unfold B.Cs.stuffed; rw [if_neg (by omega), hn, if_neg hz, hv]
      rw [e]
      cases hs : c.sends
      · exact mtake_dn c v g b l w hR h.all h.len h.may hb hq hz hs h.tail
      · exact mtake_dy c v g b l w hR h.all h.len h.may hb hq hz hs h.tail h.at_
  · have hn : B.nextB c.st c.got b = c.got := by unfold B.nextB; rw [if_neg (by omega)]
    have e : (c.stuffed l b).2 = v := by unfold B.Cs.stuffed; rw [if_neg (by omega), hn, if_neg h.size, hv]
    rw [e]
    cases hs : c.sends
    · exact mtake_sn c v g b l w hR h.all h.len h.may hb hq h.size hs h.tail
    · exact mtake_sy c v g b l w hR h.all h.len h.may hb hq h.size hs h.tail h.at_
  · have e : c.stuffed l b = c.err 10 := by unfold B.Cs.stuffed; rw [if_pos hq]
    rw [e]
    exact mtake_err c v g b w hR h.may h.cnt h.off hb hq
set_option maxHeartbeats 1000000 in
set_option maxRecDepth 100000 in
theorem contend_n (c : B.Cs) (v : B.Ev) (g : Nat) (b : UInt8) (w : World) (hR : rowAt w g = some (mA c v)) (hs : c.sends = false) (hv : v = B.ev0) (h : TkH c) (hb : B.okc b = true) :
    Calls Tryz.prog 72 #[.pointer (some ⟨g, 0, none⟩), .int .u8 (b.toNat : Nat)] w fun e w' => e = .returned (.tuple #[]) ∧ (rowAt w' g = some (mA ((c.stuffed false b).1) ((c.stuffed false b).2)) ∧ Below g w w') := by
  have CT := Lib.hid (fun (c' : B.Cs) (v' : B.Ev) (w : World) (h : rowAt w g = some (mA c' v')) (h1 : v' = if false then ⟨4, B.noFr, 0⟩ else B.ev0) (h2 : TkH c') => m_take c' v' g b false w h h1 h2 hb)
  have HH := Lib.hid h
  have HV := Lib.hid (show v = if (false = true) then (⟨4, B.noFr, 0⟩ : B.Ev) else B.ev0 from hv)
  clear h hv
  have q0 := rowAt_cell hR
  have f0 := rowAt_free hR
  have hl := rowAt_lt hR
  go_enter Tryz.func72, Tryz.ntmps72
  go_wp2_with fail
  go_quiet (fail)
  rename_i nq
  have hR1 : rowAt (w.drewN nq) g = some (mA c v) := hR
  have hG1 := bel_drewN (Below.refl g w) nq
  generalize w.drewN nq = w1 at *
  have hl1 := rowAt_lt hR1
  have q1 := rowAt_cell hR1
  have f1 := rowAt_free hR1
  go_wp2_with (first
    | (go_at_call 94; (with_reducible refine (CT.out (c) (v) _ ?_ HV.out HH.out).mono ?_); (simp [go_sem, *] <;> rfl); rintro e w2 ⟨rfl, hRw2, hGw2⟩; have hlw2 := rowAt_lt hRw2; have qw2 := rowAt_cell hRw2; have fw2 := rowAt_free hRw2))
  (first | go_end0 | refine bodyPost_ret (results_none Tryz.results72 _ _ _) rfl ?_)
  exact ⟨rfl, hRw2, hG1.trans (((show Below g w1 _ from by (repeat (first | (with_reducible assumption) | (with_reducible exact Below.refl _ _) | (with_reducible refine Below.drew ?_) | ((with_reducible refine Below.setCell ?_ ?_ _); rotate_left; (focus (first | omega | (simp; done) | (simp; omega)))) | ((with_reducible refine below_row ?_ ?_ _); rotate_left; (focus (first | omega | (simp; done) | (simp; omega)))) | ((with_reducible refine Below.alloc ?_ ?_ _); rotate_left; (focus (first | omega | (simp; done) | (simp; omega))))))).trans hGw2).trans (show Below g w2 _ from by (repeat (first | (with_reducible assumption) | (with_reducible exact Below.refl _ _) | (with_reducible refine Below.drew ?_) | ((with_reducible refine Below.setCell ?_ ?_ _); rotate_left; (focus (first | omega | (simp; done) | (simp; omega)))) | ((with_reducible refine below_row ?_ ?_ _); rotate_left; (focus (first | omega | (simp; done) | (simp; omega)))) | ((with_reducible refine Below.alloc ?_ ?_ _); rotate_left; (focus (first | omega | (simp; done) | (simp; omega))))))))⟩
set_option maxHeartbeats 1000000 in
set_option maxRecDepth 100000 in
theorem contend_s (c : B.Cs) (v : B.Ev) (g : Nat) (b : UInt8) (w : World) (hR : rowAt w g = some (mA c v)) (hs : c.sends = true) (hlt : c.at_ < c.out.length) (hv : v = B.ev0) (h : TkH c) (hb : B.okc b = true) (hx : c.out[c.at_] = b) :
    Calls Tryz.prog 72 #[.pointer (some ⟨g, 0, none⟩), .int .u8 (b.toNat : Nat)] w fun e w' => e = .returned (.tuple #[]) ∧ (rowAt w' g = some (mA ((c.stuffed false b).1) ((c.stuffed false b).2)) ∧ Below g w w') := by
  have CT := Lib.hid (fun (c' : B.Cs) (v' : B.Ev) (w : World) (h : rowAt w g = some (mA c' v')) (h1 : v' = if false then ⟨4, B.noFr, 0⟩ else B.ev0) (h2 : TkH c') => m_take c' v' g b false w h h1 h2 hb)
  have HH := Lib.hid h
  have HV := Lib.hid (show v = if (false = true) then (⟨4, B.noFr, 0⟩ : B.Ev) else B.ev0 from hv)
  clear h hv
  obtain ⟨y, hy⟩ : ∃ y, (strB c.out)[c.at_]'(by rw [strB_size]; exact hlt) = y := ⟨_, rfl⟩
  have i0 : (0 : Int) ≤ ((c.at_ : Nat) : Int) := by omega
  have i1 : ((c.at_ : Nat) : Int) < ((c.out.length : Nat) : Int) := by omega
  have hyx : c.out[c.at_] = y := by rw [← hy, strB_at]
  rw [hyx] at hx
  subst hx
  clear hyx
  have q0 := rowAt_cell hR
  have f0 := rowAt_free hR
  have hl := rowAt_lt hR
  go_enter Tryz.func72, Tryz.ntmps72
  go_wp2_with fail
  go_quiet (fail)
  rename_i nq
  have hR1 : rowAt (w.drewN nq) g = some (mA c v) := hR
  have hG1 := bel_drewN (Below.refl g w) nq
  generalize w.drewN nq = w1 at *
  have hl1 := rowAt_lt hR1
  have q1 := rowAt_cell hR1
  have f1 := rowAt_free hR1
  go_wp2_with (first
    | (go_at_call 94; (with_reducible refine (CT.out (c) (v) _ ?_ HV.out HH.out).mono ?_); (simp [go_sem, *] <;> rfl); rintro e w2 ⟨rfl, hRw2, hGw2⟩; have hlw2 := rowAt_lt hRw2; have qw2 := rowAt_cell hRw2; have fw2 := rowAt_free hRw2))
  (first | go_end0 | refine bodyPost_ret (results_none Tryz.results72 _ _ _) rfl ?_)
  exact ⟨rfl, hRw2, hG1.trans (((show Below g w1 _ from by (repeat (first | (with_reducible assumption) | (with_reducible exact Below.refl _ _) | (with_reducible refine Below.drew ?_) | ((with_reducible refine Below.setCell ?_ ?_ _); rotate_left; (focus (first | omega | (simp; done) | (simp; omega)))) | ((with_reducible refine below_row ?_ ?_ _); rotate_left; (focus (first | omega | (simp; done) | (simp; omega)))) | ((with_reducible refine Below.alloc ?_ ?_ _); rotate_left; (focus (first | omega | (simp; done) | (simp; omega))))))).trans hGw2).trans (show Below g w2 _ from by (repeat (first | (with_reducible assumption) | (with_reducible exact Below.refl _ _) | (with_reducible refine Below.drew ?_) | ((with_reducible refine Below.setCell ?_ ?_ _); rotate_left; (focus (first | omega | (simp; done) | (simp; omega)))) | ((with_reducible refine below_row ?_ ?_ _); rotate_left; (focus (first | omega | (simp; done) | (simp; omega)))) | ((with_reducible refine Below.alloc ?_ ?_ _); rotate_left; (focus (first | omega | (simp; done) | (simp; omega))))))))⟩
set_option maxHeartbeats 1000000 in
set_option maxRecDepth 100000 in
theorem contend_e (c : B.Cs) (v : B.Ev) (g : Nat) (b : UInt8) (w : World) (hR : rowAt w g = some (mA c v)) (hs : c.sends = true) (hlt : c.at_ < c.out.length) (hv : v = B.ev0) (h : TkH c) (hx : ¬ c.out[c.at_] = b) (hf : B.FrR c.fr) (ho : c.out[c.at_] = 48 ∨ c.out[c.at_] = 49) (hq : ¬ (c.out[c.at_] = 49 ∧ c.got.length ≤ B.flen c.fr ∧ c.st.2 < 5)) :
    Calls Tryz.prog 72 #[.pointer (some ⟨g, 0, none⟩), .int .u8 (b.toNat : Nat)] w fun e w' => e = .returned (.tuple #[]) ∧ (rowAt w' g = some (mA ((c.err 13).1) (⟨3, B.noFr, 13⟩)) ∧ Below g w w') := by
  have CL0 := fun (w : World) (h : rowAt w g = some (mA c v)) => maylose_any c v g w h hf hlt ho
  rw [decide_eq_false hq] at CL0
  have CL := Lib.hid (fun (c' : B.Cs) (v' : B.Ev) (w : World) (h : rowAt w g = some (mA c v)) => CL0 w h)
  clear CL0
  have CF := Lib.hid (fun (c' : B.Cs) (v' : B.Ev) (w : World) (hh : rowAt w g = some (mA c' v')) (hc : c'.cnt = c.cnt) => m_fail c' v' g 13 13 w hh rfl (by rw [hc]; exact h.cnt) (by rw [hc]; exact h.off))
  clear hq hf ho
  obtain ⟨y, hy⟩ : ∃ y, (strB c.out)[c.at_]'(by rw [strB_size]; exact hlt) = y := ⟨_, rfl⟩
  have i0 : (0 : Int) ≤ ((c.at_ : Nat) : Int) := by omega
  have i1 : ((c.at_ : Nat) : Int) < ((c.out.length : Nat) : Int) := by omega
  have hyx : c.out[c.at_] = y := by rw [← hy, strB_at]
  have hne : (((y.toNat : Nat) : Int) != ((b.toNat : Nat) : Int)) = true := by
    rw [hyx] at hx
    have : y.toNat ≠ b.toNat := fun e => hx (UInt8.toNat_inj.1 e)
    simp; omega
  clear hx hyx
  have q0 := rowAt_cell hR
  have f0 := rowAt_free hR
  have hl := rowAt_lt hR
  go_enter Tryz.func72, Tryz.ntmps72
  go_wp2_with fail
  go_quiet (fail)
  rename_i nq
  have hR1 : rowAt (w.drewN nq) g = some (mA c v) := hR
  have hG1 := bel_drewN (Below.refl g w) nq
  generalize w.drewN nq = w1 at *
  have hl1 := rowAt_lt hR1
  have q1 := rowAt_cell hR1
  have f1 := rowAt_free hR1
  clear hv h
  go_wp2_with (first
    | (go_at_call 92; (with_reducible refine (CL.out (c) (v) _ ?_).mono ?_); (simp [go_sem, *] <;> rfl); rintro e w2 ⟨rfl, hRw2, hGw2⟩; have hlw2 := rowAt_lt hRw2; have qw2 := rowAt_cell hRw2; have fw2 := rowAt_free hRw2)
    | (go_at_call 93; (with_reducible refine (CF.out (c) (v) _ ?_ rfl).mono ?_); (simp [go_sem, *] <;> rfl); rintro e w3 ⟨rfl, hRw3, hGw3⟩; have hlw3 := rowAt_lt hRw3; have qw3 := rowAt_cell hRw3; have fw3 := rowAt_free hRw3))
  (first | go_end0 | refine bodyPost_ret (results_none Tryz.results72 _ _ _) rfl ?_)
  exact ⟨rfl, hRw3, hG1.trans ((((show Below g w1 _ from by (repeat (first | (with_reducible assumption) | (with_reducible exact Below.refl _ _) | (with_reducible refine Below.drew ?_) | ((with_reducible refine Below.setCell ?_ ?_ _); rotate_left; (focus (first | omega | (simp; done) | (simp; omega)))) | ((with_reducible refine below_row ?_ ?_ _); rotate_left; (focus (first | omega | (simp; done) | (simp; omega)))) | ((with_reducible refine Below.alloc ?_ ?_ _); rotate_left; (focus (first | omega | (simp; done) | (simp; omega))))))).trans hGw2).trans ((show Below g w2 _ from by (repeat (first | (with_reducible assumption) | (with_reducible exact Below.refl _ _) | (with_reducible refine Below.drew ?_) | ((with_reducible refine Below.setCell ?_ ?_ _); rotate_left; (focus (first | omega | (simp; done) | (simp; omega)))) | ((with_reducible refine below_row ?_ ?_ _); rotate_left; (focus (first | omega | (simp; done) | (simp; omega)))) | ((with_reducible refine Below.alloc ?_ ?_ _); rotate_left; (focus (first | omega | (simp; done) | (simp; omega))))))).trans hGw3)).trans (show Below g w3 _ from by (repeat (first | (with_reducible assumption) | (with_reducible exact Below.refl _ _) | (with_reducible refine Below.drew ?_) | ((with_reducible refine Below.setCell ?_ ?_ _); rotate_left; (focus (first | omega | (simp; done) | (simp; omega)))) | ((with_reducible refine below_row ?_ ?_ _); rotate_left; (focus (first | omega | (simp; done) | (simp; omega)))) | ((with_reducible refine Below.alloc ?_ ?_ _); rotate_left; (focus (first | omega | (simp; done) | (simp; omega))))))))⟩
theorem lose_tkh {c : B.Cs} (h : TkH c) : TkH c.lose := ⟨h.all, h.len, h.may, h.cnt, h.off, h.size, h.tail, Nat.zero_le _⟩
set_option maxHeartbeats 1000000 in
set_option maxRecDepth 100000 in
theorem contend_l (c : B.Cs) (v : B.Ev) (g : Nat) (b : UInt8) (w : World) (hR : rowAt w g = some (mA c v)) (hs : c.sends = true) (hlt : c.at_ < c.out.length) (hv : v = B.ev0) (h : TkH c) (hb : B.okc b = true) (hx : ¬ c.out[c.at_] = b) (hf : B.FrR c.fr) (ho : c.out[c.at_] = 48 ∨ c.out[c.at_] = 49) (hq : c.out[c.at_] = 49 ∧ c.got.length ≤ B.flen c.fr ∧ c.st.2 < 5) :
    Calls Tryz.prog 72 #[.pointer (some ⟨g, 0, none⟩), .int .u8 (b.toNat : Nat)] w fun e w' => e = .returned (.tuple #[]) ∧ (rowAt w' g = some (mA ((c.lose.stuffed true b).1) ((c.lose.stuffed true b).2)) ∧ Below g w w') := by
  subst hv
  have CL0 := fun (w : World) (h : rowAt w g = some (mA c B.ev0)) => maylose_any c B.ev0 g w h hf hlt ho
  rw [decide_eq_true hq] at CL0
  have CL := Lib.hid (fun (c' : B.Cs) (v' : B.Ev) (w : World) (h : rowAt w g = some (mA c B.ev0)) => CL0 w h)
  clear CL0
  have CT := Lib.hid (fun (c' : B.Cs) (v' : B.Ev) (w : World) (h : rowAt w g = some (mA c' v')) (h1 : v' = if true then ⟨4, B.noFr, 0⟩ else B.ev0) (h2 : TkH c') => m_take c' v' g b true w h h1 h2 hb)
  have HV := Lib.hid (show (⟨4, B.noFr, 0⟩ : B.Ev) = if (true = true) then (⟨4, B.noFr, 0⟩ : B.Ev) else B.ev0 from rfl)
  have HH := Lib.hid (show TkH { c with sends := false, out := [], at_ := 0, was := false } from lose_tkh h)
  clear hq hf ho h
  obtain ⟨y, hy⟩ : ∃ y, (strB c.out)[c.at_]'(by rw [strB_size]; exact hlt) = y := ⟨_, rfl⟩
  have i0 : (0 : Int) ≤ ((c.at_ : Nat) : Int) := by omega
  have i1 : ((c.at_ : Nat) : Int) < ((c.out.length : Nat) : Int) := by omega
  have hyx : c.out[c.at_] = y := by rw [← hy, strB_at]
  have hne : (((y.toNat : Nat) : Int) != ((b.toNat : Nat) : Int)) = true := by
    rw [hyx] at hx
    have : y.toNat ≠ b.toNat := fun e => hx (UInt8.toNat_inj.1 e)
    simp; omega
  clear hx hyx hb
  have q0 := rowAt_cell hR
  have f0 := rowAt_free hR
  have hl := rowAt_lt hR
  go_enter Tryz.func72, Tryz.ntmps72
  go_wp2_with fail
  go_quiet (fail)
  rename_i nq
  have hR1 : rowAt (w.drewN nq) g = some (mA c B.ev0) := hR
  have hG1 := bel_drewN (Below.refl g w) nq
  generalize w.drewN nq = w1 at *
  have hl1 := rowAt_lt hR1
  have q1 := rowAt_cell hR1
  have f1 := rowAt_free hR1
  go_wp2_with (first
    | (go_at_call 92; (with_reducible refine (CL.out (c) (B.ev0) _ ?_).mono ?_); (simp [go_sem, *] <;> rfl); rintro e w2 ⟨rfl, hRw2, hGw2⟩; have hlw2 := rowAt_lt hRw2; have qw2 := rowAt_cell hRw2; have fw2 := rowAt_free hRw2)
    | (go_at_call 94; (with_reducible refine (CT.out ({ c with sends := false, out := [], at_ := 0, was := false }) (⟨4, B.noFr, 0⟩) _ ?_ HV.out HH.out).mono ?_); (simp [go_sem, *] <;> rfl); rintro e w3 ⟨rfl, hRw3, hGw3⟩; have hlw3 := rowAt_lt hRw3; have qw3 := rowAt_cell hRw3; have fw3 := rowAt_free hRw3))
  (first | go_end0 | refine bodyPost_ret (results_none Tryz.results72 _ _ _) rfl ?_)
  exact ⟨rfl, hRw3, hG1.trans ((((show Below g w1 _ from by (repeat (first | (with_reducible assumption) | (with_reducible exact Below.refl _ _) | (with_reducible refine Below.drew ?_) | ((with_reducible refine Below.setCell ?_ ?_ _); rotate_left; (focus (first | omega | (simp; done) | (simp; omega)))) | ((with_reducible refine below_row ?_ ?_ _); rotate_left; (focus (first | omega | (simp; done) | (simp; omega)))) | ((with_reducible refine Below.alloc ?_ ?_ _); rotate_left; (focus (first | omega | (simp; done) | (simp; omega))))))).trans hGw2).trans ((show Below g w2 _ from by (repeat (first | (with_reducible assumption) | (with_reducible exact Below.refl _ _) | (with_reducible refine Below.drew ?_) | ((with_reducible refine Below.setCell ?_ ?_ _); rotate_left; (focus (first | omega | (simp; done) | (simp; omega)))) | ((with_reducible refine below_row ?_ ?_ _); rotate_left; (focus (first | omega | (simp; done) | (simp; omega)))) | ((with_reducible refine Below.alloc ?_ ?_ _); rotate_left; (focus (first | omega | (simp; done) | (simp; omega))))))).trans hGw3)).trans (show Below g w3 _ from by (repeat (first | (with_reducible assumption) | (with_reducible exact Below.refl _ _) | (with_reducible refine Below.drew ?_) | ((with_reducible refine Below.setCell ?_ ?_ _); rotate_left; (focus (first | omega | (simp; done) | (simp; omega)))) | ((with_reducible refine below_row ?_ ?_ _); rotate_left; (focus (first | omega | (simp; done) | (simp; omega)))) | ((with_reducible refine Below.alloc ?_ ?_ _); rotate_left; (focus (first | omega | (simp; done) | (simp; omega))))))))⟩
end Go.Proofs.YtcaeobkaoebndaaGreat
