/- Layer 7: the law CtlErrs, where a bit of the last ones is turned. -/
import Derived.Test.YtcaeobkaoebndaaGreatCtL6
import Derived.Test.YtcaeobkaoebndaaGreatShelf
import Derived.Deep.CutRange
namespace Go.Proofs.YtcaeobkaoebndaaGreat
open Go.RowKit Go.Lib
attribute [local go_sem ↓] ld_ct st_ct ld_ev st_ev ld_ma st_ma bd_ma
attribute [local go_sem] ldCt_at stCt_at ldEv_at stEv_at ldMa_at stMa_at bdMa_at ldp_ct ldp_ma ldp_ev ldp_mev stp_ct stp_ma stp_ev stp_mev stp_mm zero_ct zero_ev zero_ma ev_err ev_sent
attribute [local go_sem] rowAt_drew rowAt_drewN rowAt_new rowAt_past rowAt_setRow rowAt_setRow_other rowAt_setCell_other rowAt_setCell_map cell_setRow free_setRow cell_setRow_other free_setRow_other setRow_alloc_at setRow_alloc_past
attribute [local go_sem] ctA_0 ctA_1 ctA_2 ctA_3 ctA_4 ctA_5 ctA_6 ctA_7 ctA_8 ctA_9 ctA_10 ctA_11 ctA_12 ctA_13 ctA_14 ctA_15 ctA_16 ctA_17 ctA_18 ctA_19 ctA_20 ctA_21 ctA_22 evA_0 evA_1 evA_2 evA_3 evA_4 evA_5 evA_6 mA_0 mA_1 mA_2 mA_3 mA_4 mA_5 mA_6 mA_7 mA_8 mA_9 mA_10 mA_11 mA_12 mA_13 mA_14 mA_15 mA_16 mA_17 mA_18 mA_19 mA_20 mA_21 mA_22 mA_23 mA_24 mA_25 mA_26 mA_27 mA_28 mA_29
attribute [local go_sem] ctA_set0 ctA_set0_0 ctA_set1_0 ctA_suc0 ctA_set1 ctA_set0_1 ctA_set1_1 ctA_suc1 ctA_set2 ctA_set3 ctA_set0_3 ctA_set1_3 ctA_suc3 ctA_set4 ctA_set0_4 ctA_set1_4 ctA_suc4 ctA_set5 ctA_set0_5 ctA_set1_5 ctA_suc5 ctA_set6 ctA_set7 ctA_set8 ctA_set9 ctA_set0_9 ctA_set1_9 ctA_suc9 ctA_set10 ctA_set11 ctA_set12 ctA_set0_12 ctA_set1_12 ctA_suc12 ctA_set13 ctA_set14 ctA_set15 ctA_set16 ctA_set0_16 ctA_set1_16 ctA_suc16 ctA_set17 ctA_set0_17 ctA_set1_17 ctA_suc17 ctA_set18 ctA_set0_18 ctA_set1_18 ctA_suc18 ctA_set19 ctA_set20 ctA_set21 ctA_set0_21 ctA_set1_21 ctA_suc21 ctA_set22 mA_set0 mA_set0_0 mA_set1_0 mA_suc0 mA_set1 mA_set0_1 mA_set1_1 mA_suc1 mA_set2 mA_set3 mA_set0_3 mA_set1_3 mA_suc3 mA_set4 mA_set0_4 mA_set1_4 mA_suc4 mA_set5 mA_set0_5 mA_set1_5 mA_set1000000000_5 mA_suc5 mA_set6 mA_set7 mA_set8 mA_set9 mA_set0_9 mA_set1_9 mA_suc9 mA_set10 mA_set11 mA_set12 mA_set0_12 mA_set1_12 mA_suc12 mA_set13 mA_set14 mA_set15 mA_set16 mA_set0_16 mA_set1_16 mA_suc16 mA_set17 mA_set0_17 mA_set1_17 mA_set48_17 mA_suc17 mA_set18 mA_set0_18 mA_set1_18 mA_suc18 mA_set19 mA_set20 mA_set21 mA_set0_21 mA_set1_21 mA_suc21 mA_set22 evA_set0 evA_set0_0 evA_set1_0 evA_set2_0 evA_set3_0 evA_set4_0 evA_suc0 evA_set1 evA_set0_1 evA_set1_1 evA_suc1 evA_set2 evA_set3 evA_set4 evA_set0_4 evA_set1_4 evA_suc4 evA_set5 evA_set6 evA_set0_6 evA_set1_6 evA_set14_6 evA_suc6 mA_set23 mA_set0_23 mA_set1_23 mA_set2_23 mA_set3_23 mA_set4_23 mA_suc23 mA_set24 mA_set0_24 mA_set1_24 mA_suc24 mA_set25 mA_set26 mA_set27 mA_set0_27 mA_set1_27 mA_suc27 mA_set28 mA_set29 mA_set0_29 mA_set1_29 mA_suc29
attribute [local go_sem ↓] ld_fr st_fr
attribute [local go_sem] ldFr_at stFr_at ldp_fr ldp_ctf ldp_evf stp_fr zero_fr frA_0 frA_1 frA_2 frA_3 frA_4 frA_set4 neq_fr eql_fr
attribute [local go_sem ↓] eql_fr neq_fr
set_option maxRecDepth 100000 in
set_option maxHeartbeats 8000000 in
theorem errs_pos (f f1 : FX) (z : Int) (w : World) (F : B.Fr) (hf1 : f.cut = f1) (hF : f1 = FXo F) (hf : B.FrR F) (a : Nat) (ha : (wrap64 (z.tmod 9 + 9)).tmod 9 = (a : Int)) (ha8 : a ≤ 8) (h0 : 0 < a) : Calls Tryz.prog 6 #[.agg (frA f), .int .i64 z] w fun e w' => e = .returned (.bool true) ∧ Below w.heap.size w w' := by
  have CW := Lib.hid (fun w => few7 f w)
  rw [hf1] at CW
  have CY := Lib.hid (fun w => ready_any w)
  have CA := Lib.hid (fun w => alive7 w)
  have CS := Lib.hid (show ∀ w : World, Calls Tryz.prog 16 #[.agg (ctA B.rdy), .agg (frA f1)] w (fun e w' => e = .returned (.tuple #[.agg (ctA (erC F a 0)), .int .i64 0]) ∧ Below w.heap.size w w') from fun w => by
    have e : erC F a 0 = { B.rdy with has := true, fr := F } := by unfold erC; rw [if_pos (Nat.zero_le _)]; rfl
    rw [e, hF]
    exact submit_ok B.rdy F w rdy_right hf rfl)
  obtain ⟨S, hS⟩ : ∃ S, bsA F = S := ⟨_, rfl⟩
  obtain ⟨T, hT⟩ : ∃ T, akA F = T := ⟨_, rfl⟩
  have CB := Lib.hid (show ∀ w : World, Calls Tryz.prog 12 #[.agg (frA f1)] w (fun e w' => e = .returned (.string S) ∧ Below w.heap.size w w') from fun w => hS ▸ hF ▸ refbits7 hf w)
  have HF := Lib.hid hF
  obtain ⟨n, hn⟩ : ∃ n, (B.stfF F).length = n := ⟨_, rfl⟩
  have hSz : S.size = n + 10 := by rw [← hS, bsA_size, hn]
  have hTz : T.size = n + 10 := by rw [← hT, akA_size, hn]
  have hct : S.extract 0 (S.size - 9) ++ (⟨#[48]⟩ : ByteArray) ++ S.extract (S.size - 8) S.size = T := by
    have := ack_cut F
    rw [hS, hT, hn] at this
    rw [hSz]
    exact this
  have hnl := B.stfF_length hf
  rw [hn] at hnl
  have hu44 : 44 ≤ S.size := by omega
  have hu160 : S.size ≤ 160 := by omega
  have hi44 : ¬ (S.size : Int) < 44 := by omega
  have hi160 : ¬ (160 : Int) < S.size := by omega
  obtain ⟨pl, hpl⟩ : ∃ p, erPl F a = p := ⟨_, rfl⟩
  have hpn : pl = n + 1 + a := by rw [← hpl]; unfold erPl; rw [hn]
  have HSz := Lib.hid hSz
  have Hn := Lib.hid hnl
  have Hpn := Lib.hid hpn
  have w9 : wrap64 ((S.size : Int) - 9) = (n : Int) + 1 := by rw [IntWalk.wrap64_in _ (by omega)]; omega
  have wp : wrap64 ((n : Int) + 1 + (a : Int)) = (pl : Int) := by rw [IntWalk.wrap64_in _ (by omega)]; omega
  have W9' := Lib.hid w9
  have WP := Lib.hid wp
  have hpb : pl < 1000 := by clear w9 wp ha; omega
  have wq : wrap64 ((pl : Int) + 1) = (pl : Int) + 1 := by clear w9 wp ha; rw [IntWalk.wrap64_in _ (by omega)]
  have Hsl := Lib.hid (show (S.size : Int) - 9 + (a : Int) = (pl : Int) by clear w9 wp ha; omega)
  have HA := Lib.hid ha
  clear hf1 hF hSz hnl hpn w9 wp ha
  have ha0 : (0 : Int) < (a : Int) := by omega
  go_enter Tryz.func6, Tryz.ntmps6
  go_upto_region 2 with (go_at_call 8; (with_reducible refine (CW.out _).mono ?_); rintro e w1 ⟨rfl, hbw1⟩; have hK1 := ((Kept.nil w).new (frA f) 24 w.heap.size rfl).keep hbw1; have rf1 := hK1.head)
  have hK2 := hK1.set (frA f1) (Nat.le_refl _) (by simp)
  generalize w1.setRow w.heap.size (frA f1) = W at *
  clear hK1 rf1 hbw1
  have rf := hK2.head
  have hlf := rowAt_lt rf
  go_upto_region 3 with (go_at_call 11; (with_reducible refine (CY.out _).mono ?_); rintro e w1 ⟨rfl, hbw1⟩; have hK3 := hK2.keep hbw1; have rf := hK3.head; have hlf := rowAt_lt rf)
  have hK4 : Kept w [(w1.heap.size, ctA B.rdy), (w.heap.size, frA f1)] _ := hK3.new (ctA B.rdy) 33 w1.heap.size rfl
  generalize w1.alloc (.cells (ctA B.rdy) 33) = W3 at *
  clear hK2 hK3 hbw1 rf CW CY
  generalize w1.heap.size = gc at *
  have rc := hK4.head
  have rf := hK4.tail.head
  have hlc := rowAt_lt rc
  go_upto_region 4 with (go_at_call 16; (with_reducible refine (CS.out _).mono ?_); rintro e w2 ⟨rfl, hbw2⟩; have hK5 := hK4.keep hbw2; have rc := hK5.head; have hlc := rowAt_lt rc)
  have hK6 := hK5.set (ctA (erC F a 0)) (by omega) (by simp; omega)
  generalize w2.setRow gc (ctA (erC F a 0)) = W5 at *
  clear hK4 hK5 hbw2 rc rf CS
  have rc := hK6.head
  have rf := hK6.tail.head
  have hlc := rowAt_lt rc
  have hlf := rowAt_lt rf
  go_upto_region 7 with (go_at_call 12; (with_reducible refine (CB.out _).mono ?_); rintro e w5 ⟨rfl, hbw5⟩; have hK := hK6.keep hbw5; have rc := hK.head; have rf := hK.tail.head; have hlc := rowAt_lt rc; have hlf := rowAt_lt rf)
  clear CB hK6
  have w9 := W9'.out
  have wp := WP.out
  have ha := HA.out
  go_upto_if 55 with fail
  go_cut [8, 10, 11] from 24 to 75 (fun s x y wc => s = .string T ∧ x = .int .i64 12 ∧ y = .int .i64 ((pl : Nat) : Int) ∧ Kept w [(gc, ctA (erC F a 0)), (w.heap.size, frA f1)] wc)
  case first =>
    go_upto_region 12 with fail
    go_quiet (fail)
    go_wp2
    go_meet
    case rel => exact ⟨by first | rfl | (rw [hct]; done) | (simp [hct]; done), rfl, congrArg (Value.int .i64) Hsl.out, hK.drewN _⟩
  clear hK rc rf hlc hlf
  obtain ⟨rfl, rfl, rfl, hK⟩ := hcut
  clear hct hu44 hu160 hi44 hi160 w9 wp ha HA
  go_upto_region 15 with (go_at_call 10; (with_reducible refine (CA.out _).mono ?_); rintro e w6 ⟨rfl, hbw6⟩; have hK := hK.keep hbw6)
  have hKa := hK
  clear CA hK
  go_wp2
  go_loopw [78] (fun i wr => ∃ k : Nat, k ≤ pl + 1 ∧ i = .int .i64 k ∧ Kept w [(gc, ctA (erC F a k)), (w.heap.size, frA f1)] wr) (fun i _ => pl + 1 - (RowKit.intOf i).toNat)
  case atStart => exact ⟨0, by omega, rfl, hKa⟩
  case round =>
    obtain ⟨k, hk, rfl, hK⟩ := hrel
    clear hKa
    by_cases hkl : k < pl + 1
    · have hkp : k ≤ erPl F a := by omega
      have hkX : k < T.size := by have := Hpn.out; omega
      have hsm := er_step hf ha8 k hkp
      have hok := er_okc (F := F) ha8 k hkp
      have hr := er_right hf ha8 k (by omega)
      have hbX := er_ak h0 ha8 k hkp
      have eT : (akA F)[k]'(by rw [akA_size]; have := Hpn.out; omega) = T[k] := by congr 1
      rw [eT, hpl] at hbX
      obtain ⟨c, hc⟩ : ∃ c, erC F a k = c := ⟨_, rfl⟩
      obtain ⟨d, hd⟩ : ∃ d, erC F a (k + 1) = d := ⟨_, rfl⟩
      obtain ⟨eb, heb⟩ : ∃ b, erB F a k = b := ⟨_, rfl⟩
      obtain ⟨v, hv⟩ : ∃ v : B.Ev, (if k = erPl F a then (⟨3, B.noFr, if a = 0 then 14 else 12⟩ : B.Ev) else B.ev0) = v := ⟨_, rfl⟩
      rw [hc] at hsm hr hK
      rw [heb] at hsm hok hbX
      rw [hd, hv] at hsm
      rw [hpl] at hv
      have CP0 := fun w => sample7 c eb w hr hok
      rw [hsm] at CP0
      have CP := Lib.hid CP0
      have Hv := Lib.hid hv
      have Hd := Lib.hid hd
      clear CP0 hsm hok hr hc hv hd heb
      have rc := hK.head
      have hlc := rowAt_lt rc
      have q0 : (0 : Int) ≤ (k : Int) := by omega
      have q1 : (k : Int) < (T.size : Int) := by omega
      have Hb := Lib.hid hbX
      clear hbX
      go_upto_if 90 with fail
      go_cut [13] from 79 to 121 (fun x wc => x = .int .u8 (eb.toNat : Nat) ∧ Kept w [(gc, ctA c), (w.heap.size, frA f1)] wc)
      case first =>
        by_cases h9 : k = pl
        · have e := Hb.out
          rw [if_pos h9] at e
          have hb9 : ((k : Int) == (pl : Int)) = true := by rw [beq_iff_eq]; omega
          go_wp2
          go_meet
          case rel => exact ⟨by rw [e]; rfl, hK⟩
        · have e := Hb.out
          rw [if_neg h9] at e
          have hb9 : ((k : Int) == (pl : Int)) = false := by rw [beq_eq_false_iff_ne]; omega
          go_wp2
          go_meet
          case rel => exact ⟨by rw [e], hK⟩
      obtain ⟨rfl, hK⟩ := hcut
      have rc := hK.head
      have hlc := rowAt_lt rc
      go_upto_region 22 with (go_at_call 14; (with_reducible refine (CP.out _).mono ?_); rintro e w7 ⟨rfl, hbw7⟩; have hK := hK.keep hbw7; have rc := hK.head; have hlc := rowAt_lt rc)
      have hK8 := (hK.new (ctA d) 33 w7.heap.size rfl).new (evA v) 42 (w7.heap.size + 1) (by simp)
      generalize (w7.alloc (.cells (ctA d) 33)).alloc (.cells (evA v) 42) = W9 at *
      clear hK CP rc
      generalize w7.heap.size = gx at *
      have e3 : gx ≠ gc := by omega
      have e4 : gx + 1 ≠ gc := by omega
      go_cut [119] from 79 to 121 (fun x wc => x = .bool false ∧ Kept w [(gx + 1, evA v), (gx, ctA d), (gc, ctA c), (w.heap.size, frA f1)] wc)
      case first =>
        have rv := hK8.head
        have qv := rowAt_cell rv
        have fv := rowAt_free rv
        by_cases h9 : k = pl
        · have hve := Hv.out
          rw [if_pos h9, if_neg (by omega)] at hve
          have hvk : v.kind = 3 := by rw [← hve]
          have hvb : v.bad = 12 := by rw [← hve]
          have hb9 : ((k : Int) == (pl : Int)) = true := by rw [beq_iff_eq]; omega
          clear hve h9
          go_wp2
          go_meet
          case rel => exact ⟨by first | rfl | (simp; done) | (simp; omega), hK8⟩
        · have hve := Hv.out
          rw [if_neg h9] at hve
          have hvk : v.kind = 0 := by rw [← hve]; rfl
          have hb9 : ((k : Int) == (pl : Int)) = false := by rw [beq_eq_false_iff_ne]; omega
          clear hve h9
          go_wp2
          go_meet
          case rel => exact ⟨by first | rfl | (simp; done) | (simp; omega), hK8⟩
      obtain ⟨rfl, hK8⟩ := hcut
      have rd := hK8.tail.head
      have rc := hK8.tail.tail.head
      have hlc := rowAt_lt rc
      have hK9 := hK8.tail.tail.set (ctA d) (by omega) (by simp; omega)
      go_wp2
      go_roundw
      case rel => exact ⟨k + 1, by omega, by go_num, by rw [Hd.out]; exact hK9⟩
      case measure => simp [RowKit.intOf]; omega
    · have hks : k = pl + 1 := by omega
      subst hks
      have hr0 := er_right hf ha8 (erPl F a + 1) (Nat.le_refl _)
      rw [er_end] at hr0
      have hfr := fl_right hr0
      have he : erC F a (pl + 1) = flF F 0 := by rw [← hpl]; exact er_end
      rw [he] at hK
      obtain ⟨c, hc⟩ : ∃ c, flF F 0 = c := ⟨_, rfl⟩
      have hKc := hK
      rw [hc] at hKc
      have hct1 : c.cnt = ⟨8, 0, false, 0⟩ := by rw [← hc]; rfl
      have hst : c.state = 3 := by rw [← hc]; rfl
      have hhd : c.hard = true := by rw [← hc]; rfl
      have hch : c.has = true := by rw [← hc]; rfl
      have hcf : FXo c.fr = f1 := by rw [← hc]; exact HF.out.symm
      have Hc := Lib.hid hc
      clear hc he hr0
      have rc := hKc.head
      have rf := hKc.tail.head
      have hlc := rowAt_lt rc
      have qc := rowAt_cell rc
      have fc := rowAt_free rc
      go_upto_region 28 with fail
      clear rc rf qc fc hct1 hst hhd hch hcf hKc
      go_wp2
      go_loopw [147] (fun i wr => ∃ j : Nat, j ≤ 6 ∧ i = .int .i64 j ∧ Kept w [(gc, ctA (flF F j)), (w.heap.size, frA f1)] wr) (fun i _ => 6 - (RowKit.intOf i).toNat)
      case atStart => exact ⟨0, by omega, rfl, hK⟩
      case round =>
        have hKz := hK
        clear hKz hK
        obtain ⟨j, hj, rfl, hK⟩ := hrel
        by_cases hjl : j < 6
        · have hr := hfr j (by omega)
          have CD0 := fun w => drive7 (flF F j) w hr
          rw [fl_drive F j hjl] at CD0
          have CP0 := fun w => sample7 (flF F j) 48 w hr rfl
          rw [fl_next F j hjl] at CP0
          obtain ⟨c, hc⟩ : ∃ c, flF F j = c := ⟨_, rfl⟩
          obtain ⟨d, hd⟩ : ∃ d, flF F (j + 1) = d := ⟨_, rfl⟩
          rw [hc] at CD0 CP0 hK
          rw [hd] at CP0
          have CD := Lib.hid (show ∀ w : World, Calls Tryz.prog 13 #[.agg (ctA c)] w (fun e w' => e = .returned (.tuple #[.int .u8 48, .int .i64 0]) ∧ Below w.heap.size w w') from CD0)
          have CP := Lib.hid (show ∀ w : World, Calls Tryz.prog 14 #[.agg (ctA c), .int .u8 48] w (fun e w' => e = .returned (.tuple #[.agg (ctA d), .agg (evA B.ev0), .int .i64 0]) ∧ Below w.heap.size w w') from CP0)
          have Hd := Lib.hid hd
          clear CD0 CP0 hr hc hd
          have rc := hK.head
          have hlc := rowAt_lt rc
          go_upto_region 32 with (first
            | (go_at_call 13; (with_reducible refine (CD.out _).mono ?_); rintro e w7 ⟨rfl, hbw7⟩; have hK := hK.keep hbw7; have rc := hK.head; have hlc := rowAt_lt rc)
            | (go_at_call 14; (with_reducible refine (CP.out _).mono ?_); rintro e w8 ⟨rfl, hbw8⟩; have hK := hK.keep hbw8; have rc := hK.head; have hlc := rowAt_lt rc))
          have hK8 := (hK.new (ctA d) 33 w8.heap.size rfl).new (evA B.ev0) 42 (w8.heap.size + 1) (by simp)
          generalize (w8.alloc (.cells (ctA d) 33)).alloc (.cells (evA B.ev0) 42) = W9 at *
          clear hK CD CP rc
          generalize w8.heap.size = gx at *
          have e3 : gx ≠ gc := by omega
          have e4 : gx + 1 ≠ gc := by omega
          have rd := hK8.tail.head
          have rc := hK8.tail.tail.head
          have hK9 := hK8.tail.tail.set (ctA d) (by omega) (by simp; omega)
          go_wp2
          go_roundw
          case rel =>
            repeat apply Exists.intro
            refine ⟨⟨j + 1, ?_, ?_, ?_⟩, rfl⟩
            · omega
            · go_num
            · rw [Hd.out]; exact hK9
          case measure => simp [RowKit.intOf]; omega
        · have hks : j = 6 := by omega
          subst hks
          have hr := hfr 6 (by omega)
          have CRp := Lib.hid (show ∀ w : World, Calls Tryz.prog 18 #[.string ⟨#[49]⟩, .int .i64 11] w (fun e w' => e = .returned (.string ⟨#[49, 49, 49, 49, 49, 49, 49, 49, 49, 49, 49]⟩) ∧ Below w.heap.size w w') from fun w => Tryz.strings_Repeat ⟨#[49]⟩ 11 w (by omega) (by decide))
          have he := fl_rest F
          obtain ⟨d, hd⟩ : ∃ d, B.idleC ⟨8, 0, false, 0⟩ true true true F = d := ⟨_, rfl⟩
          have hdst : d.state = 1 := by rw [← hd]; rfl
          have hdh : d.has = true := by rw [← hd]; rfl
          rw [hd] at he
          obtain ⟨c, hc⟩ : ∃ c, flF F 6 = c := ⟨_, rfl⟩
          rw [hc] at he hr hK
          have CE := Lib.hid (show ∀ w, Calls Tryz.prog 15 #[.agg (ctA c), .string ⟨#[49, 49, 49, 49, 49, 49, 49, 49, 49, 49, 49]⟩] w (fun e w' => e = .returned (.tuple #[.agg (ctA d), .bool true]) ∧ Below w.heap.size w w') from fun w => by
            have := feed_any c ⟨#[49, 49, 49, 49, 49, 49, 49, 49, 49, 49, 49]⟩ w hr (by decide) (by decide)
            rwa [show B.runC c (⟨#[49, 49, 49, 49, 49, 49, 49, 49, 49, 49, 49]⟩ : ByteArray).data.toList = d from he] at this)
          clear he hr hc hd
          have rc := hK.head
          have hlc := rowAt_lt rc
          have hbz := hK.2.size
          go_upto_region 36 with fail
          go_cut [22, 23] from 174 to 188 (fun x e wc => ∃ gx, x = .pointer (some ⟨gx, 0, none⟩) ∧ e = .bool true ∧ Kept w [(gx, ctA d)] wc)
          case first =>
            go_region_with (first
              | (go_at_call 18; (with_reducible refine (CRp.out _).mono ?_); rintro e w9 ⟨rfl, hbw9⟩; have hK := (by (repeat (first | (with_reducible assumption) | (with_reducible refine Kept.drew ?_) | (with_reducible refine Kept.alloc ?_ _))) : Kept w [(gc, ctA c), (w.heap.size, frA f1)] _).keep hbw9; have rc := hK.head; have hlc := rowAt_lt rc; have hrw9 := rowAt_below hbw9; have hzw9 := hbw9.size; (try simp at hzw9); have z0w9 : wr.heap.size ≤ w9.heap.size := (by omega); (try have z1w9 : wr.heap.size < w9.heap.size := (by omega)))
              | (go_at_call 15; (with_reducible refine (CE.out _).mono ?_); rintro e wa ⟨rfl, hbwa⟩; have hK := (by (repeat (first | (with_reducible assumption) | (with_reducible refine Kept.drew ?_) | (with_reducible refine Kept.alloc ?_ _))) : Kept w [(gc, ctA c), (w.heap.size, frA f1)] _).keep hbwa; have rc := hK.head; have hlc := rowAt_lt rc; have hrwa := rowAt_below hbwa; have hzwa := hbwa.size; (try simp at hzwa); have z0wa : wr.heap.size ≤ wa.heap.size := (by omega); (try have z1wa : wr.heap.size < wa.heap.size := (by omega))))
            all_goals
              go_wp2
              go_meet
              case rel =>
                refine ⟨_, rfl, rfl, Kept.cons (Kept.mk0 ?_) ?_⟩
                · first
                    | exact hK.2.alloc hK.2.size _
                    | exact below_row hK.2 (by omega) _
                · simp [go_sem, *]
          clear hK rc hlc
          obtain ⟨gx, rfl, rfl, hK⟩ := hcut
          have rd := hK.head
          have qd := rowAt_cell rd
          have fd := rowAt_free rd
          have hB := hK.2
          go_wp2
          go_ret
          exact ⟨rfl, by (repeat (first | (with_reducible assumption) | (with_reducible exact Below.refl _ _) | (with_reducible refine Below.drew ?_) | ((with_reducible refine Below.setCell ?_ ?_ _); rotate_left; (focus (first | omega | (simp; done) | (simp; omega)))) | ((with_reducible refine below_row ?_ ?_ _); rotate_left; (focus (first | omega | (simp; done) | (simp; omega)))) | ((with_reducible refine Below.alloc ?_ ?_ _); rotate_left; (focus (first | omega | (simp; done) | (simp; omega))))))⟩
end Go.Proofs.YtcaeobkaoebndaaGreat
