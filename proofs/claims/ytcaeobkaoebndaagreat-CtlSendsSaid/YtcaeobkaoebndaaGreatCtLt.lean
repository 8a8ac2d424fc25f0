/- Layer 7: the law CtlSends. -/
import Derived.Test.YtcaeobkaoebndaaGreatCtL4
import Derived.Deep.CutRange
namespace Go.Proofs.YtcaeobkaoebndaaGreat
open Go.RowKit Go.Lib
attribute [local go_sem ↓] ld_ct st_ct ld_ev st_ev ld_ma st_ma bd_ma
attribute [local go_sem] ldCt_at stCt_at ldEv_at stEv_at ldMa_at stMa_at bdMa_at ldp_ct ldp_ma ldp_ev ldp_mev stp_ct stp_ma stp_ev stp_mev stp_mm zero_ct zero_ev zero_ma ev_err ev_sent
attribute [local go_sem] rowAt_drew rowAt_drewN rowAt_new rowAt_past rowAt_setRow rowAt_setRow_other rowAt_setCell_other rowAt_setCell_map cell_setRow free_setRow cell_setRow_other free_setRow_other setRow_alloc_at setRow_alloc_past
attribute [local go_sem] ctA_0 ctA_1 ctA_2 ctA_3 ctA_4 ctA_5 ctA_6 ctA_7 ctA_8 ctA_9 ctA_10 ctA_11 ctA_12 ctA_13 ctA_14 ctA_15 ctA_16 ctA_17 ctA_18 ctA_19 ctA_20 ctA_21 ctA_22 evA_0 evA_1 evA_2 evA_3 evA_4 evA_5 evA_6 mA_0 mA_1 mA_2 mA_3 mA_4 mA_5 mA_6 mA_7 mA_8 mA_9 mA_10 mA_11 mA_12 mA_13 mA_14 mA_15 mA_16 mA_17 mA_18 mA_19 mA_20 mA_21 mA_22 mA_23 mA_24 mA_25 mA_26 mA_27 mA_28 mA_29
attribute [local go_sem] ctA_set0 ctA_set0_0 ctA_set1_0 ctA_suc0 ctA_set1 ctA_set0_1 ctA_set1_1 ctA_suc1 ctA_set2 ctA_set3 ctA_set0_3 ctA_set1_3 ctA_suc3 ctA_set4 ctA_set0_4 ctA_set1_4 ctA_suc4 ctA_set5 ctA_set0_5 ctA_set1_5 ctA_suc5 ctA_set6 ctA_set7 ctA_set8 ctA_set9 ctA_set0_9 ctA_set1_9 ctA_suc9 ctA_set10 ctA_set11 ctA_set12 ctA_set0_12 ctA_set1_12 ctA_suc12 ctA_set13 ctA_set14 ctA_set15 ctA_set16 ctA_set0_16 ctA_set1_16 ctA_suc16 ctA_set17 ctA_set0_17 ctA_set1_17 ctA_suc17 ctA_set18 ctA_set0_18 ctA_set1_18 ctA_suc18 ctA_set19 ctA_set20 ctA_set21 ctA_set0_21 ctA_set1_21 ctA_suc21 ctA_set22 mA_set0 mA_set0_0 mA_set1_0 mA_suc0 mA_set1 mA_set0_1 mA_set1_1 mA_suc1 mA_set2 mA_set3 mA_set0_3 mA_set1_3 mA_suc3 mA_set4 mA_set0_4 mA_set1_4 mA_suc4 mA_set5 mA_set0_5 mA_set1_5 mA_set1000000000_5 mA_suc5 mA_set6 mA_set7 mA_set8 mA_set9 mA_set0_9 mA_set1_9 mA_suc9 mA_set10 mA_set11 mA_set12 mA_set0_12 mA_set1_12 mA_suc12 mA_set13 mA_set14 mA_set15 mA_set16 mA_set0_16 mA_set1_16 mA_suc16 mA_set17 mA_set0_17 mA_set1_17 mA_set48_17 mA_suc17 mA_set18 mA_set0_18 mA_set1_18 mA_suc18 mA_set19 mA_set20 mA_set21 mA_set0_21 mA_set1_21 mA_suc21 mA_set22 evA_set0 evA_set0_0 evA_set1_0 evA_set2_0 evA_set3_0 evA_set4_0 evA_suc0 evA_set1 evA_set0_1 evA_set1_1 evA_suc1 evA_set2 evA_set3 evA_set4 evA_set0_4 evA_set1_4 evA_suc4 evA_set5 evA_set6 evA_set0_6 evA_set1_6 evA_set14_6 evA_suc6 mA_set23 mA_set0_23 mA_set1_23 mA_set2_23 mA_set3_23 mA_set4_23 mA_suc23 mA_set24 mA_set0_24 mA_set1_24 mA_suc24 mA_set25 mA_set26 mA_set27 mA_set0_27 mA_set1_27 mA_suc27 mA_set28 mA_set29 mA_set0_29 mA_set1_29 mA_suc29
attribute [local go_sem ↓] ld_fr st_fr
attribute [local go_sem] ldFr_at stFr_at ldp_fr ldp_ctf ldp_evf stp_fr zero_fr frA_0 frA_1 frA_2 frA_3 frA_4 frA_set4 neq_fr eql_fr
set_option maxRecDepth 100000 in
set_option maxHeartbeats 4000000 in
theorem sends_no (f : FX) (w : World) (h : FX) (hh : f.cut = h) (hm : h.may = false) : Calls Tryz.prog 4 #[.agg (frA f)] w fun e w' => e = .returned (.bool true) ∧ Below w.heap.size w w' := by
  have CW := Lib.hid (fun w => few7 f w)
  rw [hh] at CW
  have CY := Lib.hid (fun w => ready_any w)
  have CA := Lib.hid (fun w => alive7 w)
  have CS := Lib.hid (fun w => submit_no7 B.rdy rdy_right hm w)
  have CR := Lib.hid (fun w => refr7_no hm w)
  clear hh hm
  go_enter Tryz.func4, Tryz.ntmps4
  go_upto_region 2 with (go_at_call 8; (with_reducible refine (CW.out _).mono ?_); rintro e w1 ⟨rfl, hbw1⟩; have hK1 := ((Kept.nil w).new (frA f) 24 w.heap.size rfl).keep hbw1; have rf1 := hK1.head)
  have hK2 := hK1.set (frA h) (Nat.le_refl _) (by simp)
  generalize w1.setRow w.heap.size (frA h) = W at *
  clear hK1 rf1 hbw1
  have rf := hK2.head
  have hlf := rowAt_lt rf
  go_upto_region 3 with (go_at_call 11; (with_reducible refine (CY.out _).mono ?_); rintro e w1 ⟨rfl, hbw1⟩; have hK3 := hK2.keep hbw1; have rf := hK3.head; have hlf := rowAt_lt rf)
  have hK4 : Kept w [(w1.heap.size, ctA B.rdy), (w.heap.size, frA h)] _ := hK3.new (ctA B.rdy) 33 w1.heap.size rfl
  generalize w1.alloc (.cells (ctA B.rdy) 33) = W3 at *
  clear hK2 hK3 hbw1 rf CW CY
  generalize w1.heap.size = gc at *
  have rc := hK4.head
  have rf := hK4.tail.head
  have hlc := rowAt_lt rc
  go_upto_region 4 with (go_at_call 16; (with_reducible refine (CS.out _).mono ?_); rintro e w2 ⟨rfl, hbw2⟩; have hK5 := hK4.keep hbw2; have rc := hK5.head; have hlc := rowAt_lt rc)
  have hK6 := hK5.set (ctA B.cs0) (by omega) (by simp; omega)
  generalize w2.setRow gc (ctA B.cs0) = W5 at *
  clear hK4 hK5 hbw2 rc rf CS
  have rc := hK6.head
  have rf := hK6.tail.head
  have hlc := rowAt_lt rc
  have hlf := rowAt_lt rf
  go_wp2_with (first
    | (go_at_call 9; (with_reducible refine (CR.out _).mono ?_); rintro e w3 ⟨rfl, hbw3⟩; have hK6 := hK6.keep hbw3; have hB := hK6.2; have hzB := hB.size)
    | (go_at_call 10; (with_reducible refine (CA.out _).mono ?_); rintro e w4 ⟨rfl, hbw4⟩; have hB := hB.trans (hbw4.mono hzB)))
  go_ret
  exact ⟨rfl, by (repeat (first | (with_reducible assumption) | (with_reducible exact Below.refl _ _) | (with_reducible refine Below.drew ?_) | ((with_reducible refine Below.setCell ?_ ?_ _); rotate_left; (focus (first | omega | (simp; done) | (simp; omega)))) | ((with_reducible refine below_row ?_ ?_ _); rotate_left; (focus (first | omega | (simp; done) | (simp; omega)))) | ((with_reducible refine Below.alloc ?_ ?_ _); rotate_left; (focus (first | omega | (simp; done) | (simp; omega))))))⟩
set_option maxRecDepth 100000 in
set_option maxHeartbeats 4000000 in
theorem sends_yes (f : FX) (w : World) (F : B.Fr) (hF : f.cut = FXo F) (hf : B.FrR F) : Calls Tryz.prog 4 #[.agg (frA f)] w fun e w' => e = .returned (.bool true) ∧ Below w.heap.size w w' := by
  have CW := Lib.hid (fun w => few7 f w)
  rw [hF] at CW
  have CY := Lib.hid (fun w => ready_any w)
  have CA := Lib.hid (fun w => alive7 w)
  have CS := Lib.hid (show ∀ w : World, Calls Tryz.prog 16 #[.agg (ctA B.rdy), .agg (frA (FXo F))] w (fun e w' => e = .returned (.tuple #[.agg (ctA (B.sendC B.cn0 false false F 0)), .int .i64 0]) ∧ Below w.heap.size w w') from fun w => submit_ok B.rdy F w rdy_right hf rfl)
  have CR := Lib.hid (fun w => refr7_yes hf w)
  obtain ⟨S, hS⟩ : ∃ S, bsA F = S := ⟨_, rfl⟩
  have CB0 := fun w => refbits7 hf w
  rw [hS] at CB0
  have CB := Lib.hid CB0
  clear CB0 hF
  obtain ⟨n, hn⟩ : ∃ n, (B.stfF F).length = n := ⟨_, rfl⟩
  have hSz : S.size = n + 10 := by rw [← hS, bsA_size, hn]
  have hnl := B.stfF_length hf
  rw [hn] at hnl
  go_enter Tryz.func4, Tryz.ntmps4
  go_upto_region 2 with (go_at_call 8; (with_reducible refine (CW.out _).mono ?_); rintro e w1 ⟨rfl, hbw1⟩; have hK1 := ((Kept.nil w).new (frA f) 24 w.heap.size rfl).keep hbw1; have rf1 := hK1.head)
  have hK2 := hK1.set (frA (FXo F)) (Nat.le_refl _) (by simp)
  generalize w1.setRow w.heap.size (frA (FXo F)) = W at *
  clear hK1 rf1 hbw1
  have rf := hK2.head
  have hlf := rowAt_lt rf
  go_upto_region 3 with (go_at_call 11; (with_reducible refine (CY.out _).mono ?_); rintro e w1 ⟨rfl, hbw1⟩; have hK3 := hK2.keep hbw1; have rf := hK3.head; have hlf := rowAt_lt rf)
  have hK4 : Kept w [(w1.heap.size, ctA B.rdy), (w.heap.size, frA (FXo F))] _ := hK3.new (ctA B.rdy) 33 w1.heap.size rfl
  generalize w1.alloc (.cells (ctA B.rdy) 33) = W3 at *
  clear hK2 hK3 hbw1 rf CW CY
  generalize w1.heap.size = gc at *
  have rc := hK4.head
  have rf := hK4.tail.head
  have hlc := rowAt_lt rc
  go_upto_region 4 with (go_at_call 16; (with_reducible refine (CS.out _).mono ?_); rintro e w2 ⟨rfl, hbw2⟩; have hK5 := hK4.keep hbw2; have rc := hK5.head; have hlc := rowAt_lt rc)
  have hK6 := hK5.set (ctA (B.sendC B.cn0 false false F 0)) (by omega) (by simp; omega)
  generalize w2.setRow gc (ctA (B.sendC B.cn0 false false F 0)) = W5 at *
  clear hK4 hK5 hbw2 rc rf CS
  have rc := hK6.head
  have rf := hK6.tail.head
  have hlc := rowAt_lt rc
  have hlf := rowAt_lt rf
  go_upto_region 9 with (first
    | (go_at_call 9; (with_reducible refine (CR.out _).mono ?_); rintro e w3 ⟨rfl, hbw3⟩; have hK := hK6.keep hbw3; have rc := hK.head; have rf := hK.tail.head; have hlc := rowAt_lt rc)
    | (go_at_call 12; (with_reducible refine (CB.out _).mono ?_); rintro e w4 ⟨rfl, hbw4⟩; have hK := hK.keep hbw4; have rc := hK.head; have rf := hK.tail.head; have hlc := rowAt_lt rc)
    | (go_at_call 10; (with_reducible refine (CA.out _).mono ?_); rintro e w5 ⟨rfl, hbw5⟩; have hK := hK.keep hbw5; have rc := hK.head; have rf := hK.tail.head; have hlc := rowAt_lt rc))
  clear CR CB CA
  have hK7 := hK
  clear hK hK6 rc rf
  go_wp2
  go_loopw [47] (fun i wr => ∃ k : Nat, k ≤ n + 10 ∧ i = .int .i64 k ∧ Kept w [(gc, ctA (B.sendC B.cn0 false false F k)), (w.heap.size, frA (FXo F))] wr) (fun i _ => n + 10 - (intOf i).toNat)
  case atStart => exact ⟨0, by omega, rfl, hK7⟩
  case round =>
    obtain ⟨k, hk, rfl, hK⟩ := hrel
    clear hK7
    by_cases hlt : k < n + 10
    · have hltS : k < S.size := by omega
      have hltF : k < (B.stfF F).length + 10 := by omega
      obtain ⟨hdr, hok, hsm⟩ := send_rd F hf k hltF
      have hab := ak_bs F k hltF
      have hr := sendC_right hf (idleF_right hf) k (by omega)
      obtain ⟨c, hc⟩ : ∃ c, B.sendC B.cn0 false false F k = c := ⟨_, rfl⟩
      obtain ⟨d, hd⟩ : ∃ d, B.sendC B.cn0 false false F (k + 1) = d := ⟨_, rfl⟩
      obtain ⟨ab, ha⟩ : ∃ ab, (akA F)[k]'(by rw [akA_size]; exact hltF) = ab := ⟨_, rfl⟩
      obtain ⟨bb, hb⟩ : ∃ bb, (bsA F)[k]'(by rw [bsA_size]; exact hltF) = bb := ⟨_, rfl⟩
      obtain ⟨v, hv⟩ : ∃ v : B.Ev, (if k = (B.stfF F).length + 9 then (⟨1, F, 0⟩ : B.Ev) else B.ev0) = v := ⟨_, rfl⟩
      rw [hc] at hdr hsm hr hK
      rw [ha] at hok hsm hab
      rw [hb] at hdr hab
      rw [hd, hv] at hsm
      rw [hn] at hab hv
      have hbS : S[k] = bb := by rw [← hb]; congr 1; exact hS.symm
      have CD0 := fun w => drive7 c w hr
      rw [hdr] at CD0
      have CP0 := fun w => sample7 c ab w hr hok
      rw [hsm] at CP0
      have CD := Lib.hid CD0
      have CP := Lib.hid CP0
      have hv2 := Lib.hid hv
      have hab2 := Lib.hid hab
      clear CD0 CP0 hdr hsm hok hr hc ha hb hv hab
      have rc := hK.head
      have hlc := rowAt_lt rc
      have q0 : (0 : Int) ≤ (k : Int) := by omega
      have q1 : (k : Int) < (S.size : Int) := by omega
      go_upto_if 63 with (go_at_call 13; (with_reducible refine (CD.out _).mono ?_); rintro e w3 ⟨rfl, hbw3⟩; have hK := hK.keep hbw3; have rc := hK.head; have rf := hK.tail.head; have hlc := rowAt_lt rc)
      go_upto_if 68 with fail
      go_cut [8] from 48 to 106 (fun a wc => a = .int .u8 (ab.toNat : Nat) ∧ Kept w [(gc, ctA c), (w.heap.size, frA (FXo F))] wc)
      case first =>
        by_cases hk1 : k = n + 1
        · have e := hab2.out
          rw [if_pos hk1] at e
          have hz : S.size = k + 9 := by omega
          go_wp2
          go_meet
          case rel => exact ⟨by rw [e]; rfl, hK⟩
        · have e := hab2.out
          rw [if_neg hk1] at e
          have hz : ¬ S.size = k + 9 := by omega
          go_wp2
          go_meet
          case rel => exact ⟨by rw [e], hK⟩
      obtain ⟨rfl, hK⟩ := hcut
      have rc := hK.head
      have rf := hK.tail.head
      have hlc := rowAt_lt rc
      have hlf := rowAt_lt rf
      go_upto_region 18 with (go_at_call 14; (with_reducible refine (CP.out _).mono ?_); rintro e w4 ⟨rfl, hbw4⟩; have hK := hK.keep hbw4; have rc := hK.head; have rf := hK.tail.head; have hlc := rowAt_lt rc)
      have hK8 := (hK.new (ctA d) 33 w4.heap.size rfl).new (evA v) 42 (w4.heap.size + 1) (by simp)
      generalize (w4.alloc (.cells (ctA d) 33)).alloc (.cells (evA v) 42) = W9 at *
      clear hK CP CD rc rf
      generalize w4.heap.size = gx at *
      have e3 : gx ≠ gc := by omega
      have e4 : gx + 1 ≠ gc := by omega
      go_cut [104] from 48 to 106 (fun a wc => a = .bool false ∧ Kept w [(gx + 1, evA v), (gx, ctA d), (gc, ctA c), (w.heap.size, frA (FXo F))] wc)
      case first =>
        have rv := hK8.head
        have rf := hK8.tail.tail.tail.head
        have qv := rowAt_cell rv
        have fv := rowAt_free rv
        by_cases hk9 : k = n + 9
        · have hve := hv2.out
          rw [if_pos hk9] at hve
          have hvk : v.kind = 1 := by rw [← hve]
          have hvf : v.fr = F := by rw [← hve]
          have hkb : (((k : Nat) : Int) == ((n : Nat) : Int) + 10 - 1) = true := by rw [beq_iff_eq]; omega
          clear hve hk9
          go_wp2
          go_meet
          case rel => exact ⟨by first | rfl | (simp; done) | (simp; omega), hK8⟩
        · have hve := hv2.out
          rw [if_neg hk9] at hve
          have hvk : v.kind = 0 := by rw [← hve]; rfl
          clear hve
          go_wp2
          go_meet
          case rel => exact ⟨by first | rfl | (simp; done) | (simp; omega), hK8⟩
      obtain ⟨rfl, hK8⟩ := hcut
      have rd := hK8.tail.head
      have rc := hK8.tail.tail.head
      have hK9 := hK8.tail.tail.set (ctA d) (by omega) (by simp; omega)
      go_wp2
      go_roundw
      case rel => exact ⟨k + 1, by omega, by go_num, by rw [hd]; exact hK9⟩
      case measure => simp [intOf]; omega
    · have hks : k = n + 10 := by omega
      subst hks
      have rc := hK.head
      have hB := hK.2
      obtain ⟨c, hc⟩ : ∃ c, B.sendC B.cn0 false false F (n + 10) = c := ⟨_, rfl⟩
      rw [hc] at rc
      have he : B.sendC B.cn0 false false F (n + 10) = B.bareC (B.cn0.step 1) 6 0 true false false B.noFr := by rw [← hn]; exact B.sendC_end hf
      rw [hc] at he
      have hst : c.state = 6 := by rw [he]; rfl
      have hct : c.cnt = ⟨0, 0, false, 0⟩ := by rw [he]; rfl
      have hch : c.has = false := by rw [he]; rfl
      clear hc he
      have qc := rowAt_cell rc
      have fc := rowAt_free rc
      go_wp2
      go_ret
      exact ⟨rfl, by (repeat (first | (with_reducible assumption) | (with_reducible exact Below.refl _ _) | (with_reducible refine Below.drew ?_) | ((with_reducible refine Below.setCell ?_ ?_ _); rotate_left; (focus (first | omega | (simp; done) | (simp; omega)))) | ((with_reducible refine below_row ?_ ?_ _); rotate_left; (focus (first | omega | (simp; done) | (simp; omega)))) | ((with_reducible refine Below.alloc ?_ ?_ _); rotate_left; (focus (first | omega | (simp; done) | (simp; omega))))))⟩
theorem sends_any (f : FX) (w : World) : Calls Tryz.prog 4 #[.agg (frA f)] w fun e w' => e = .returned (.bool true) ∧ Below w.heap.size w w' := by
  cases hm : f.cut.may
  · exact sends_no f w f.cut rfl hm
  · obtain ⟨F, hf, hF⟩ := FX.of_may hm
    exact sends_yes f w F hF hf
end Go.Proofs.YtcaeobkaoebndaaGreat
