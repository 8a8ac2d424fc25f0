/- Own texts joined: CtZ CtSm. -/
import Derived.Test.YtcaeobkaoebndaaGreatCtY
import Derived.Laws.EntriesVeiled
/- CtZ -/
namespace Go.Proofs.YtcaeobkaoebndaaGreat
open Go.RowKit Go.Lib

theorem st_echo (c : B.Cs) (g : Nat) (b : UInt8) (w : World) (hR : rowAt w g = some (mA c B.ev0)) (h : B.RightM c) (hst : c.state = 4) (hb : B.okc b = true) :
    Calls Tryz.prog 50 #[.pointer (some ⟨g, 0, none⟩), .int .u8 (b.toNat : Nat)] w fun x w' => x = .returned (.tuple #[]) ∧ (rowAt w' g = some (mA (c.sample b).1 (c.sample b).2) ∧ Below g w w') := by
  have HB := h.bare (by omega)
  obtain ⟨n0, n1, n3, n4, n5, n6, n7⟩ := h.num
  have hn9 := n4 hst
  have hoff : c.cnt.o = false := by
    cases ho : c.cnt.o
    · rfl
    · have := h.off.2 ho; omega
  have h6 : (c.cnt.step 6).o = false := by unfold B.Cn.step; rw [if_neg (by rw [hoff]; simp)]; rfl
  rw [B.sample_4 hst]
  rcases B.okc_cases hb with rfl | rfl
  · unfold B.Cs.echo
    rw [if_neg (show ¬ (48 : UInt8) = 49 by decide)]
    by_cases h0 : c.n = 0
    · have hm : min (c.n + 1) 1000000000 = 1 := by omega
      rw [hm]
      by_cases hw : c.was = true
      · rw [if_neg (by rw [hw]; simp), if_neg (by decide)]
        exact echo_f c B.ev0 g w hR h0 hw hoff
      · have hw' : c.was = false := by simpa using hw
        rw [if_pos ⟨rfl, hw'⟩]
        exact echo_b c B.ev0 g w hR h.cnt h0 hw' h6
    · by_cases hl : c.n < 1000000000
      · have hm : min (c.n + 1) 1000000000 = c.n + 1 := by omega
        rw [hm, if_neg (by omega)]
        by_cases h8 : (c.n + 1) % 8 = 0
        · rw [if_pos h8]
          by_cases hw : c.was = true
          · rw [if_pos hw]
            by_cases ho : (c.cnt.step 5).o = true
            · have := echo_ctt c B.ev0 g w hR h.cnt hl h8 hw ho
              rw [if_pos ho]
              rw [← bw HB] at this
              exact this
            · rw [if_neg ho]
              exact echo_ctf c B.ev0 g w hR h.cnt hl h8 hw (by simpa using ho)
          · rw [if_neg hw, if_neg (by rw [h6]; simp)]
            exact echo_cff c B.ev0 g w hR h.cnt hl h8 (by simpa using hw) h6
        · rw [if_neg h8]
          exact echo_d c B.ev0 g w hR hl h0 h8 hoff
      · have hn : c.n = 1000000000 := by omega
        have hm : min (c.n + 1) 1000000000 = 1000000000 := by omega
        rw [hm, if_neg (by omega), if_pos (by decide)]
        by_cases hw : c.was = true
        · rw [if_pos hw]
          by_cases ho : (c.cnt.step 5).o = true
          · have := echo_ett c B.ev0 g w hR h.cnt hn hw ho
            rw [if_pos ho]
            rw [← bw HB] at this
            exact this
          · rw [if_neg ho]
            exact echo_etf c B.ev0 g w hR h.cnt hn hw (by simpa using ho)
        · rw [if_neg hw, if_neg (by rw [h6]; simp)]
          exact echo_eff c B.ev0 g w hR h.cnt hn (by simpa using hw) h6
  · have e : c.echo 49 = B.bareC c.cnt 5 1 c.was c.hard c.has c.fr := by unfold B.Cs.echo; rw [if_pos rfl]; exact bw HB c.cnt 5 1 c.was c.hard
    rw [e]
    exact echo_a c B.ev0 g w hR
theorem late_fault {c : B.Cs} {b : UInt8} (ht : c.tail ≤ 8) (hb : b = 48 ∨ b = 49) : c.late b = if c.faultE b ≠ 0 then c.err (c.faultE b) else if c.tail = 8 ∧ c.sends = false then ({ c.adv with cnt := c.cnt.step 2 }, ⟨2, B.decode (c.got.take (c.got.length - 15)), 0⟩) else (c.adv, B.ev0) := by
  rcases (by omega : c.tail = 0 ∨ c.tail = 1 ∨ c.tail = 2 ∨ (3 ≤ c.tail ∧ c.tail < 8) ∨ c.tail = 8) with h | h | h | h | h
  · rcases hb with rfl | rfl <;> simp [B.Cs.late, B.Cs.faultE, h]
  · rcases hb with rfl | rfl <;> cases hs : c.sends <;> simp [B.Cs.late, B.Cs.faultE, h, hs]
  · rcases hb with rfl | rfl <;> cases hs : c.sends <;> cases hg : c.good <;> simp [B.Cs.late, B.Cs.faultE, h, hs, hg]
  · have h1 : ¬ c.tail = 0 := by omega
    have h2 : ¬ c.tail = 1 := by omega
    have h3 : ¬ c.tail = 2 := by omega
    have h4 : ¬ c.tail = 8 := by omega
    rcases hb with rfl | rfl <;> simp [B.Cs.late, B.Cs.faultE, h1, h2, h3, h4, h.2]
  · rcases hb with rfl | rfl <;> cases hs : c.sends <;> simp [B.Cs.late, B.Cs.faultE, h, hs]
theorem fault_vals (c : B.Cs) (b : UInt8) : c.faultE b = 0 ∨ c.faultE b = 11 ∨ c.faultE b = 12 ∨ c.faultE b = 14 := by
  unfold B.Cs.faultE
  split
  · simp
  · split
    · simp
    · split <;> simp
theorem frame_tkh {c : B.Cs} (h : B.RightM c) (h2 : c.state = 2) (hf : c.fin = false) : TkH c := by
  have F := h.frm h2
  have hoff : c.cnt.o = false := by
    cases ho : c.cnt.o
    · rfl
    · have := h.off.2 ho; omega
  refine ⟨F.all, by have := B.got_len F.fit F.size; omega, F.may, h.cnt, hoff, F.size, F.tail0 hf, ?_⟩
  cases hs : c.sends
  · have := (F.sendsN hs).2; omega
  · have := (F.going hs hf).2.1; have := B.stfF_length (h.has (F.sendsY hs).1); omega
theorem m_contend (c : B.Cs) (g : Nat) (b : UInt8) (w : World) (hR : rowAt w g = some (mA c B.ev0)) (h : B.RightM c) (h2 : c.state = 2) (hf : c.fin = false) (hb : B.okc b = true) :
    Calls Tryz.prog 72 #[.pointer (some ⟨g, 0, none⟩), .int .u8 (b.toNat : Nat)] w fun x w' => x = .returned (.tuple #[]) ∧ (rowAt w' g = some (mA (c.mid b).1 (c.mid b).2) ∧ Below g w w') := by
  have F := h.frm h2
  have T := frame_tkh h h2 hf
  by_cases hs : c.sends = true
  · have hlt := at_lt F hs
    have hd : c.drive = c.out[c.at_] := by
      unfold B.Cs.drive
      rw [if_neg (by omega), if_pos h2, if_pos hs, List.getD_eq_getElem?_getD, List.getElem?_eq_getElem hlt]; rfl
    have ho : c.out[c.at_] = 48 ∨ c.out[c.at_] = 49 := by rw [← hd]; exact B.drive_bit h
    have hfr := h.has (F.sendsY hs).1
    unfold B.Cs.mid
    rw [hd]
    by_cases hx : c.out[c.at_] = b
    · rw [if_neg (fun e => e.2 hx)]
      exact contend_s c B.ev0 g b w hR hs hlt rfl T hb hx
    · rw [if_pos ⟨hs, hx⟩]
      by_cases hq : c.out[c.at_] = 49 ∧ c.got.length ≤ B.flen c.fr ∧ c.st.2 < 5
      · rw [if_pos hq]
        exact contend_l c B.ev0 g b w hR hs hlt rfl T hb hx hfr ho hq
      · rw [if_neg hq]
        exact contend_e c B.ev0 g b w hR hs hlt rfl T hx hfr ho hq
  · have hs' : c.sends = false := by simpa using hs
    unfold B.Cs.mid
    rw [if_neg (fun e => hs e.1)]
    exact contend_n c B.ev0 g b w hR hs' rfl T hb
theorem m_tail (c : B.Cs) (g : Nat) (b : UInt8) (w : World) (hR : rowAt w g = some (mA c B.ev0)) (h : B.RightM c) (h2 : c.state = 2) (hf : c.fin = true) (h8 : c.tail ≤ 8) (hb : b = 48 ∨ b = 49) :
    Calls Tryz.prog 73 #[.pointer (some ⟨g, 0, none⟩), .int .u8 (b.toNat : Nat)] w fun x w' => x = .returned (.tuple #[]) ∧ (rowAt w' g = some (mA (c.late b).1 (c.late b).2) ∧ Below g w w') := by
  have F := h.frm h2
  have hoff : c.cnt.o = false := by
    cases ho : c.cnt.o
    · rfl
    · have := h.off.2 ho; omega
  have hgl := B.got_len F.fit F.size
  rw [late_fault h8 hb]
  rcases fault_vals c b with e | e | e | e
  · rw [if_neg (by rw [e]; simp)]
    by_cases hs : c.sends = true
    · rw [if_neg (fun x => by rw [x.2] at hs; cases hs)]
      have hat : c.at_ ≤ 1000 := by
        have := (F.gone hs hf).1; have := B.stfF_length (h.has (F.sendsY hs).1); have := F.tail; omega
      cases hq : (((c.tail : Nat) : Int) == 8)
      · exact tail_yf c B.ev0 g b w hR hb e hs (by omega) hq hat
      · exact tail_yt c B.ev0 g b w hR hb e hs (by omega) hq hat
    · have hs' : c.sends = false := by simpa using hs
      by_cases h9 : c.tail = 8
      · rw [if_pos ⟨h9, hs'⟩]
        have hgd := F.late (by omega) hs'
        have hG : B.goodB c.got = true := by have := F.good; rw [hgd, hf] at this; simpa using this.symm
        have hfin : (B.sizeL c.got).2 = 0 ∧ c.got.length = (B.sizeL c.got).1 + 15 := by
          have := F.fin; rw [hf] at this; unfold B.stopB at this; have := of_decide_eq_true this.symm; exact ⟨this.1, this.2.1⟩
        exact tail_c c B.ev0 g b w hR rfl hb e hs' h9 h.cnt F.all (by omega) hfin hG
      · rw [if_neg (fun x => h9 x.1)]
        exact tail_nf c B.ev0 g b w hR hb e hs' (by omega) (by rw [beq_eq_false_iff_ne]; omega)
  · rw [if_pos (by rw [e]; simp), e]
    exact tail_e11 c B.ev0 g b w hR h.cnt hoff hb e
  · rw [if_pos (by rw [e]; simp), e]
    exact tail_e12 c B.ev0 g b w hR h.cnt hoff hb e
  · rw [if_pos (by rw [e]; simp), e]
    exact tail_e14 c B.ev0 g b w hR h.cnt hoff hb e
theorem m_last (c : B.Cs) (g : Nat) (b : UInt8) (w : World) (hR : rowAt w g = some (mA c B.ev0)) (h : B.RightM c) (h2 : c.state = 2) (h9 : c.tail = 9) (hb : b = 48 ∨ b = 49) :
    Calls Tryz.prog 74 #[.pointer (some ⟨g, 0, none⟩), .int .u8 (b.toNat : Nat)] w fun x w' => x = .returned (.tuple #[]) ∧ (rowAt w' g = some (mA (c.late b).1 (c.late b).2) ∧ Below g w w') := by
  have hoff : c.cnt.o = false := by
    cases ho : c.cnt.o
    · rfl
    · have := h.off.2 ho; omega
  rcases hb with rfl | rfl
  · by_cases hs : c.sends = true
    · have e : c.late 48 = c.err 12 := by simp [B.Cs.late, h9, hs]
      rw [e]
      exact last_a c B.ev0 g w hR h.cnt hoff hs
    · have hs' : c.sends = false := by simpa using hs
      have e : c.late 48 = (B.bareC c.cnt 3 0 c.was true c.has c.fr, B.ev0) := by simp [B.Cs.late, h9, hs']
      rw [e]
      exact last_b c B.ev0 g w hR hs'
  · by_cases hs : c.sends = true
    · rw [B.late_9 h9, if_pos hs]
      exact last_c c B.ev0 g w hR rfl hs h.cnt
    · have hs' : c.sends = false := by simpa using hs
      rw [B.late_9 h9, if_neg hs]
      exact last_d c B.ev0 g w hR hs'
end Go.Proofs.YtcaeobkaoebndaaGreat

/- CtSm -/
namespace Go.Proofs.YtcaeobkaoebndaaGreat
open Go.RowKit Go.Lib
attribute [local go_sem ↓] ld_ct st_ct ld_ev st_ev ld_ma st_ma bd_ma
attribute [local go_sem] ldCt_at stCt_at ldEv_at stEv_at ldMa_at stMa_at bdMa_at ldp_ct ldp_ma ldp_ev ldp_mev stp_ct stp_ma stp_ev stp_mev stp_mm zero_ct zero_ev zero_ma ev_err ev_sent
attribute [local go_sem] rowAt_drew rowAt_drewN rowAt_new rowAt_past rowAt_setRow rowAt_setRow_other rowAt_setCell_other rowAt_setCell_map cell_setRow free_setRow cell_setRow_other free_setRow_other setRow_alloc_at setRow_alloc_past
attribute [local go_sem] ctA_0 ctA_1 ctA_2 ctA_3 ctA_4 ctA_5 ctA_6 ctA_7 ctA_8 ctA_9 ctA_10 ctA_11 ctA_12 ctA_13 ctA_14 ctA_15 ctA_16 ctA_17 ctA_18 ctA_19 ctA_20 ctA_21 ctA_22 evA_0 evA_1 evA_2 evA_3 evA_4 evA_5 evA_6 mA_0 mA_1 mA_2 mA_3 mA_4 mA_5 mA_6 mA_7 mA_8 mA_9 mA_10 mA_11 mA_12 mA_13 mA_14 mA_15 mA_16 mA_17 mA_18 mA_19 mA_20 mA_21 mA_22 mA_23 mA_24 mA_25 mA_26 mA_27 mA_28 mA_29
attribute [local go_sem] ctA_set0 ctA_set0_0 ctA_set1_0 ctA_suc0 ctA_set1 ctA_set0_1 ctA_set1_1 ctA_suc1 ctA_set2 ctA_set3 ctA_set0_3 ctA_set1_3 ctA_suc3 ctA_set4 ctA_set0_4 ctA_set1_4 ctA_suc4 ctA_set5 ctA_set0_5 ctA_set1_5 ctA_suc5 ctA_set6 ctA_set7 ctA_set8 ctA_set9 ctA_set0_9 ctA_set1_9 ctA_suc9 ctA_set10 ctA_set11 ctA_set12 ctA_set0_12 ctA_set1_12 ctA_suc12 ctA_set13 ctA_set14 ctA_set15 ctA_set16 ctA_set0_16 ctA_set1_16 ctA_suc16 ctA_set17 ctA_set0_17 ctA_set1_17 ctA_suc17 ctA_set18 ctA_set0_18 ctA_set1_18 ctA_suc18 ctA_set19 ctA_set20 ctA_set21 ctA_set0_21 ctA_set1_21 ctA_suc21 ctA_set22 mA_set0 mA_set0_0 mA_set1_0 mA_suc0 mA_set1 mA_set0_1 mA_set1_1 mA_suc1 mA_set2 mA_set3 mA_set0_3 mA_set1_3 mA_suc3 mA_set4 mA_set0_4 mA_set1_4 mA_suc4 mA_set5 mA_set0_5 mA_set1_5 mA_set1000000000_5 mA_suc5 mA_set6 mA_set7 mA_set8 mA_set9 mA_set0_9 mA_set1_9 mA_suc9 mA_set10 mA_set11 mA_set12 mA_set0_12 mA_set1_12 mA_suc12 mA_set13 mA_set14 mA_set15 mA_set16 mA_set0_16 mA_set1_16 mA_suc16 mA_set17 mA_set0_17 mA_set1_17 mA_set48_17 mA_suc17 mA_set18 mA_set0_18 mA_set1_18 mA_suc18 mA_set19 mA_set20 mA_set21 mA_set0_21 mA_set1_21 mA_suc21 mA_set22 evA_set0 evA_set0_0 evA_set1_0 evA_set2_0 evA_set3_0 evA_set4_0 evA_suc0 evA_set1 evA_set0_1 evA_set1_1 evA_suc1 evA_set2 evA_set3 evA_set4 evA_set0_4 evA_set1_4 evA_suc4 evA_set5 evA_set6 evA_set0_6 evA_set1_6 evA_set14_6 evA_suc6 mA_set23 mA_set0_23 mA_set1_23 mA_set2_23 mA_set3_23 mA_set4_23 mA_suc23 mA_set24 mA_set0_24 mA_set1_24 mA_suc24 mA_set25 mA_set26 mA_set27 mA_set0_27 mA_set1_27 mA_suc27 mA_set28 mA_set29 mA_set0_29 mA_set1_29 mA_suc29
attribute [local go_sem] bareC_cnt bareC_state bareC_n bareC_was bareC_hard bareC_has bareC_fr bareC_sends bareC_out bareC_at_ bareC_st bareC_got bareC_fin bareC_tail bareC_good
set_option maxRecDepth 100000 in
theorem through_a (c : B.Cs) (g : Nat) (b : UInt8) (w : World) (hR : rowAt w g = some (mA c B.ev0)) (hf : c.fin = false)
    (CC : Hid (∀ w, rowAt w g = some (mA c B.ev0) → Calls Tryz.prog 72 #[.pointer (some ⟨g, 0, none⟩), .int .u8 (b.toNat : Nat)] w fun x w' => x = .returned (.tuple #[]) ∧ (rowAt w' g = some (mA (c.mid b).1 (c.mid b).2) ∧ Below g w w'))) :
    Calls Tryz.prog 48 #[.pointer (some ⟨g, 0, none⟩), .int .u8 (b.toNat : Nat)] w fun x w' => x = .returned (.tuple #[]) ∧ (rowAt w' g = some (mA (c.mid b).1 (c.mid b).2) ∧ Below g w w') := by
  have q0 := rowAt_cell hR
  have f0 := rowAt_free hR
  have hl := rowAt_lt hR
  go_enter Tryz.func48, Tryz.ntmps48
  go_wp2_with (go_at_call 72; (with_reducible refine (CC.out _ ?_).mono ?_); (simp [go_sem, *] <;> rfl); rintro e w1 ⟨rfl, hR1, hG1⟩)
  (first | go_end0 | refine bodyPost_ret (results_none Tryz.results48 _ _ _) rfl ?_)
  exact ⟨rfl, hR1, hG1⟩
set_option maxRecDepth 100000 in
theorem through_b (c : B.Cs) (g : Nat) (b : UInt8) (w : World) (hR : rowAt w g = some (mA c B.ev0)) (hf : c.fin = true) (k9 : decide (((c.tail : Nat) : Int) < 9) = true)
    (CC : Hid (∀ w, rowAt w g = some (mA c B.ev0) → Calls Tryz.prog 73 #[.pointer (some ⟨g, 0, none⟩), .int .u8 (b.toNat : Nat)] w fun x w' => x = .returned (.tuple #[]) ∧ (rowAt w' g = some (mA (c.late b).1 (c.late b).2) ∧ Below g w w'))) :
    Calls Tryz.prog 48 #[.pointer (some ⟨g, 0, none⟩), .int .u8 (b.toNat : Nat)] w fun x w' => x = .returned (.tuple #[]) ∧ (rowAt w' g = some (mA (c.late b).1 (c.late b).2) ∧ Below g w w') := by
  have q0 := rowAt_cell hR
  have f0 := rowAt_free hR
  have hl := rowAt_lt hR
  go_enter Tryz.func48, Tryz.ntmps48
  go_wp2_with (go_at_call 73; (with_reducible refine (CC.out _ ?_).mono ?_); (simp [go_sem, *] <;> rfl); rintro e w1 ⟨rfl, hR1, hG1⟩)
  (first | go_end0 | refine bodyPost_ret (results_none Tryz.results48 _ _ _) rfl ?_)
  exact ⟨rfl, hR1, hG1⟩
set_option maxRecDepth 100000 in
theorem through_c (c : B.Cs) (g : Nat) (b : UInt8) (w : World) (hR : rowAt w g = some (mA c B.ev0)) (hf : c.fin = true) (k9 : decide (((c.tail : Nat) : Int) < 9) = false)
    (CC : Hid (∀ w, rowAt w g = some (mA c B.ev0) → Calls Tryz.prog 74 #[.pointer (some ⟨g, 0, none⟩), .int .u8 (b.toNat : Nat)] w fun x w' => x = .returned (.tuple #[]) ∧ (rowAt w' g = some (mA (c.late b).1 (c.late b).2) ∧ Below g w w'))) :
    Calls Tryz.prog 48 #[.pointer (some ⟨g, 0, none⟩), .int .u8 (b.toNat : Nat)] w fun x w' => x = .returned (.tuple #[]) ∧ (rowAt w' g = some (mA (c.late b).1 (c.late b).2) ∧ Below g w w') := by
  have q0 := rowAt_cell hR
  have f0 := rowAt_free hR
  have hl := rowAt_lt hR
  go_enter Tryz.func48, Tryz.ntmps48
  go_wp2_with (go_at_call 74; (with_reducible refine (CC.out _ ?_).mono ?_); (simp [go_sem, *] <;> rfl); rintro e w1 ⟨rfl, hR1, hG1⟩)
  (first | go_end0 | refine bodyPost_ret (results_none Tryz.results48 _ _ _) rfl ?_)
  exact ⟨rfl, hR1, hG1⟩
theorem st_through (c : B.Cs) (g : Nat) (b : UInt8) (w : World) (hR : rowAt w g = some (mA c B.ev0)) (h : B.RightM c) (hst : c.state = 2) (hb : B.okc b = true) :
    Calls Tryz.prog 48 #[.pointer (some ⟨g, 0, none⟩), .int .u8 (b.toNat : Nat)] w fun x w' => x = .returned (.tuple #[]) ∧ (rowAt w' g = some (mA (c.sample b).1 (c.sample b).2) ∧ Below g w w') := by
  by_cases hf : c.fin = true
  · rw [B.sample_late hst hf]
    have ht := (h.frm hst).tail
    by_cases h9 : c.tail = 9
    · exact through_c c g b w hR hf (by rw [decide_eq_false_iff_not]; omega) (Lib.hid (fun w hR => m_last c g b w hR h hst h9 (B.okc_cases hb)))
    · exact through_b c g b w hR hf (by rw [decide_eq_true_eq]; omega) (Lib.hid (fun w hR => m_tail c g b w hR h hst hf (by omega) (B.okc_cases hb)))
  · have hf' : c.fin = false := by simpa using hf
    rw [B.sample_mid hst hf']
    exact through_a c g b w hR hf' (Lib.hid (fun w hR => m_contend c g b w hR h hst hf' hb))
set_option maxRecDepth 100000 in
theorem ctsteps_any (w : World) : Calls Tryz.prog 26 #[] w fun e w' => e = .returned (.agg #[.func (.func 46) #[] #[], .func (.func 47) #[] #[], .func (.func 48) #[] #[], .func (.func 49) #[] #[], .func (.func 50) #[] #[], .func (.func 51) #[] #[], .func (.func 52) #[] #[], .func (.func 53) #[] #[], .func (.func 54) #[] #[]]) ∧ Below w.heap.size w w' := by
  go_enter Tryz.func26, Tryz.ntmps26
  go_wp2
  refine bodyPost_ret (results_cell_row Tryz.results26 _ _ w.heap.size _ _ _ _ rfl (heap_alloc_new _ _) Tryz.underlying58 rfl (by kernel_rfl)) rfl ⟨rfl, ?_⟩
  (repeat (first | (with_reducible assumption) | (with_reducible exact Below.refl _ _) | (with_reducible refine Below.drew ?_) | ((with_reducible refine Below.setCell ?_ ?_ _); rotate_left; (focus (first | omega | (simp; done) | (simp; omega)))) | ((with_reducible refine below_row ?_ ?_ _); rotate_left; (focus (first | omega | (simp; done) | (simp; omega)))) | ((with_reducible refine Below.alloc ?_ ?_ _); rotate_left; (focus (first | omega | (simp; done) | (simp; omega))))))
end Go.Proofs.YtcaeobkaoebndaaGreat
