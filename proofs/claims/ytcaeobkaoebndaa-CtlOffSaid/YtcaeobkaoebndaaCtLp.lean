/- Layer 7: the law CtlOff, where others tell that its frames came. -/
import Derived.Test.YtcaeobkaoebndaaCtLo
namespace Go.Proofs.Ytcaeobkaoebndaa
open Go.RowKit Go.Lib
attribute [local go_sem ↓] ld_ct st_ct ld_ev st_ev ld_ma st_ma bd_ma
attribute [local go_sem] ldCt_at stCt_at ldEv_at stEv_at ldMa_at stMa_at bdMa_at ldp_ct ldp_ma ldp_ev ldp_mev stp_ct stp_ma stp_ev stp_mev stp_mm zero_ct zero_ev zero_ma ev_err ev_sent
attribute [local go_sem] rowAt_drew rowAt_drewN rowAt_new rowAt_past rowAt_setRow rowAt_setRow_other rowAt_setCell_other rowAt_setCell_map cell_setRow free_setRow cell_setRow_other free_setRow_other setRow_alloc_at setRow_alloc_past
attribute [local go_sem] ctA_0 ctA_1 ctA_2 ctA_3 ctA_4 ctA_5 ctA_6 ctA_7 ctA_8 ctA_9 ctA_10 ctA_11 ctA_12 ctA_13 ctA_14 ctA_15 ctA_16 ctA_17 ctA_18 ctA_19 ctA_20 ctA_21 ctA_22 evA_0 evA_1 evA_2 evA_3 evA_4 evA_5 evA_6 mA_0 mA_1 mA_2 mA_3 mA_4 mA_5 mA_6 mA_7 mA_8 mA_9 mA_10 mA_11 mA_12 mA_13 mA_14 mA_15 mA_16 mA_17 mA_18 mA_19 mA_20 mA_21 mA_22 mA_23 mA_24 mA_25 mA_26 mA_27 mA_28 mA_29
attribute [local go_sem] ctA_set0 ctA_set0_0 ctA_set1_0 ctA_suc0 ctA_set1 ctA_set0_1 ctA_set1_1 ctA_suc1 ctA_set2 ctA_set3 ctA_set0_3 ctA_set1_3 ctA_suc3 ctA_set4 ctA_set0_4 ctA_set1_4 ctA_suc4 ctA_set5 ctA_set0_5 ctA_set1_5 ctA_suc5 ctA_set6 ctA_set7 ctA_set8 ctA_set9 ctA_set0_9 ctA_set1_9 ctA_suc9 ctA_set10 ctA_set11 ctA_set12 ctA_set0_12 ctA_set1_12 ctA_suc12 ctA_set13 ctA_set14 ctA_set15 ctA_set16 ctA_set0_16 ctA_set1_16 ctA_suc16 ctA_set17 ctA_set0_17 ctA_set1_17 ctA_suc17 ctA_set18 ctA_set0_18 ctA_set1_18 ctA_suc18 ctA_set19 ctA_set20 ctA_set21 ctA_set0_21 ctA_set1_21 ctA_suc21 ctA_set22 mA_set0 mA_set0_0 mA_set1_0 mA_suc0 mA_set1 mA_set0_1 mA_set1_1 mA_suc1 mA_set2 mA_set3 mA_set0_3 mA_set1_3 mA_suc3 mA_set4 mA_set0_4 mA_set1_4 mA_suc4 mA_set5 mA_set0_5 mA_set1_5 mA_set1000000000_5 mA_suc5 mA_set6 mA_set7 mA_set8 mA_set9 mA_set0_9 mA_set1_9 mA_suc9 mA_set10 mA_set11 mA_set12 mA_set0_12 mA_set1_12 mA_suc12 mA_set13 mA_set14 mA_set15 mA_set16 mA_set0_16 mA_set1_16 mA_suc16 mA_set17 mA_set0_17 mA_set1_17 mA_set48_17 mA_suc17 mA_set18 mA_set0_18 mA_set1_18 mA_suc18 mA_set19 mA_set20 mA_set21 mA_set0_21 mA_set1_21 mA_suc21 mA_set22 evA_set0 evA_set0_0 evA_set1_0 evA_set2_0 evA_set3_0 evA_set4_0 evA_suc0 evA_set1 evA_set0_1 evA_set1_1 evA_suc1 evA_set2 evA_set3 evA_set4 evA_set0_4 evA_set1_4 evA_suc4 evA_set5 evA_set6 evA_set0_6 evA_set1_6 evA_set14_6 evA_suc6 mA_set23 mA_set0_23 mA_set1_23 mA_set2_23 mA_set3_23 mA_set4_23 mA_suc23 mA_set24 mA_set0_24 mA_set1_24 mA_suc24 mA_set25 mA_set26 mA_set27 mA_set0_27 mA_set1_27 mA_suc27 mA_set28 mA_set29 mA_set0_29 mA_set1_29 mA_suc29
attribute [local go_sem ↓] ld_fr st_fr
attribute [local go_sem] ldFr_at stFr_at ldp_fr ldp_ctf ldp_evf stp_fr zero_fr frA_0 frA_1 frA_2 frA_3 frA_4 frA_set4 neq_fr eql_fr
set_option maxRecDepth 100000 in
set_option maxHeartbeats 4000000 in
theorem off_true (f : FX) (w : World) (F : B.Fr) (hF : f.cut = FXo F) (hf : B.FrR F) : Calls Try.prog 4 #[.agg (frA f), .bool true] w fun e w' => e = .returned (.bool true) ∧ Below w.heap.size w w' := by
  have CW := Lib.hid (fun w => few7 f w)
  rw [hF] at CW
  have CY := Lib.hid (fun w => ready_any w)
  have CA := Lib.hid (fun w => alive7 w)
  have CS := Lib.hid (show ∀ w : World, Calls Try.prog 10 #[.agg (ctA B.rdy), .agg (frA (FXo F))] w (fun e w' => e = .returned (.tuple #[.agg (ctA (ofC F)), .int .i64 0]) ∧ Below w.heap.size w w') from fun w => submit_ok B.rdy F w rdy_right hf rfl)
  obtain ⟨C, E, M, hh, P, hM0, hM, hCM, hEM, hall⟩ := off_ex_true hf
  clear hF
  go_enter Try.func4, Try.ntmps4
  go_upto_region 2 with (go_at_call 9; (with_reducible refine (CW.out _).mono ?_); rintro e w1 ⟨rfl, hbw1⟩; have hK1 := ((Kept.nil w).new (frA f) 30 w.heap.size rfl).keep hbw1; have rf1 := hK1.head)
  have hK2 := hK1.set (frA (FXo F)) (Nat.le_refl _) (by simp)
  generalize w1.setRow w.heap.size (frA (FXo F)) = W at *
  clear hK1 rf1 hbw1
  have rf := hK2.head
  have hlf := rowAt_lt rf
  go_upto_region 3 with (go_at_call 17; (with_reducible refine (CY.out _).mono ?_); rintro e w1 ⟨rfl, hbw1⟩; have hK3 := hK2.keep hbw1; have rf := hK3.head; have hlf := rowAt_lt rf)
  have hK4 : Kept w [(w1.heap.size, ctA B.rdy), (w.heap.size, frA (FXo F))] _ := hK3.new (ctA B.rdy) 34 w1.heap.size rfl
  generalize w1.alloc (.cells (ctA B.rdy) 34) = W3 at *
  clear hK2 hK3 hbw1 rf CW CY
  generalize w1.heap.size = gc at *
  have rc := hK4.head
  have rf := hK4.tail.head
  have hlc := rowAt_lt rc
  go_upto_region 4 with (go_at_call 10; (with_reducible refine (CS.out _).mono ?_); rintro e w2 ⟨rfl, hbw2⟩; have hK5 := hK4.keep hbw2; have rc := hK5.head; have hlc := rowAt_lt rc)
  have hK6 := hK5.set (ctA (ofC F)) (by omega) (by simp; omega)
  have hK6' : Kept w [(gc, ctA (ofC F))] _ := ⟨fun p hp => hK6.1 p (by simp only [List.mem_cons, List.not_mem_nil, or_false] at hp ⊢; exact .inl hp), hK6.2⟩
  generalize w2.setRow gc (ctA (ofC F)) = W5 at *
  clear hK4 hK5 hK6 hbw2 rc rf CS
  have rc := hK6'.head
  have hlc := rowAt_lt rc
  go_upto_region 8 with (go_at_call 7; (with_reducible refine (CA.out _).mono ?_); rintro e w3 ⟨rfl, hbw3⟩; have hK7 := hK6'.keep hbw3)
  clear hK6' hbw3 CA
  go_wp2
  have hK7' : Kept w [(gc, ctA (C 0))] w3 := by rw [P.c0]; exact hK7
  clear hK7
  go_loopw [8, 47] (fun er i wr => ∃ k : Nat, k < M ∧ er = .int .i64 ((E k : Nat) : Int) ∧ i = .int .i64 k ∧ Kept w [(gc, ctA (C k))] wr) (fun _ i _ => M - (intOf i).toNat)
  case atStart => exact ⟨0, by omega, by rw [P.e0]; rfl, rfl, hK7'⟩
  case round =>
    obtain ⟨k, hk, rfl, rfl, hK⟩ := hrel
    clear hK7'
    have hr := P.right k
    have hv1 := (hall k hk).2
    have hs8 := (hall k hk).1
    have hC' := P.cs k
    have hE' := P.es k
    have hfew := P.few k
    obtain ⟨c, hc⟩ : ∃ c, C k = c := ⟨_, rfl⟩
    obtain ⟨er, he⟩ : ∃ n, E k = n := ⟨_, rfl⟩
    rw [hc] at hr hv1 hs8 hC' hE' hK
    rw [he] at hE' hfew
    rw [he]
    clear he
    have CD := Lib.hid (fun w => drive7 c w hr)
    have CP0 := fun w => off_rd7 true c hr w
    have hrd : B.RightM (B.nx true c).1 := (B.sample_right hr (nxB_ok hr)).1
    obtain ⟨d, hd⟩ : ∃ d, (B.nx true c).1 = d := ⟨_, rfl⟩
    obtain ⟨v, hv⟩ : ∃ v, (B.nx true c).2 = v := ⟨_, rfl⟩
    rw [hd] at CP0 hC' hrd
    rw [hv] at CP0 hv1 hE'
    have rc := hK.head
    have hlc := rowAt_lt rc
    have hwr : IntKind.i64.wrap ((er : Int) + 1) = (er : Int) + 1 := IntWalk.i64_in _ (by omega)
    clear hc hd hv
    go_upto_region 14 with (go_at_call 13; (with_reducible refine (CD.out _).mono ?_); rintro e w4 ⟨rfl, hbw4⟩; have hK := hK.keep hbw4; have rc := hK.head; have qc := rowAt_cell rc; have fc := rowAt_free rc; have hlc := rowAt_lt rc)
    clear CD hbw4
    have CP := Lib.hid CP0
    clear CP0
    go_cut [65] from 49 to 89 (fun a wc => a = .bool (decide (c.state = 2 ∧ c.fin = true)) ∧ Kept w [(gc, ctA c)] wc)
    case first =>
      by_cases h2 : c.state = 2
      · cases hf2 : c.fin
        · go_wp2
          go_meet
          case rel => exact ⟨by simp [h2, hf2], hK⟩
        · go_wp2
          go_meet
          case rel => exact ⟨by simp [h2, hf2], hK⟩
      · go_wp2
        go_meet
        case rel => exact ⟨by simp [h2], hK⟩
    case rest =>
      obtain ⟨rfl, hK⟩ := hcut
      go_upto_if 65 with fail
      go_cut [9] from 49 to 89 (fun a wc => a = .int .u8 ((B.nxB true c).toNat : Nat) ∧ Kept w [(gc, ctA c)] wc)
      case first =>
        by_cases h2 : c.state = 2 ∧ c.fin = true
        · have eb : B.nxB true c = 48 := by unfold B.nxB; rw [if_pos ⟨rfl, h2⟩]
          go_wp2
          go_meet
          case rel => exact ⟨by rw [eb]; rfl, hK⟩
        · have eb : B.nxB true c = c.drive := by unfold B.nxB; rw [if_neg (fun e => h2 e.2)]
          go_wp2
          go_meet
          case rel => exact ⟨by rw [eb], hK⟩
      obtain ⟨rfl, hK⟩ := hcut
      generalize B.nxB true c = bb at *
      have rc := hK.head
      have hlc := rowAt_lt rc
      go_upto_region 17 with (go_at_call 14; (with_reducible refine (CP.out _).mono ?_); rintro e w5 ⟨rfl, hbw5⟩; have hK := hK.keep hbw5; have rc := hK.head; have hlc := rowAt_lt rc)
      have hK8 := (hK.new (ctA d) 34 w5.heap.size rfl).new (evA v) 45 (w5.heap.size + 1) (by simp)
      generalize (w5.alloc (.cells (ctA d) 34)).alloc (.cells (evA v) 45) = W9 at *
      clear hK CP rc
      generalize w5.heap.size = gx at *
      have e3 : gx ≠ gc := by omega
      have e4 : gx + 1 ≠ gc := by omega
      have rv := hK8.head
      have qv := rowAt_cell rv
      have fv := rowAt_free rv
      go_upto_if 82 with fail
      go_cut [8] from 49 to 89 (fun a wc => a = .int .i64 ((E (k + 1) : Nat) : Int) ∧ Kept w [(gx + 1, evA v), (gx, ctA d), (gc, ctA c)] wc)
      case first =>
        by_cases hk3 : v.kind = 3
        · rw [if_pos hk3] at hE'
          go_wp2
          go_meet
          case rel => exact ⟨by first | (rw [hE']; rfl) | (simp [hE']), hK8⟩
        · rw [if_neg hk3] at hE'
          go_wp2
          go_meet
          case rel => exact ⟨by first | (rw [hE']; rfl) | (simp [hE']), hK8⟩
      case rest =>
        obtain ⟨rfl, hK8⟩ := hcut
        clear hE' hwr
        have rv := hK8.head
        have rd := hK8.tail.head
        have rc := hK8.tail.tail.head
        have hK9 := hK8.tail.tail.set (ctA d) (by omega) (by simp)
        go_upto_region 22 with fail
        generalize wc.setRow gc (ctA d) = W10 at *
        clear rv rd rc qv fv hK8
        have rc := hK9.head
        have hlc := rowAt_lt rc
        have qc := rowAt_cell rc
        have fc := rowAt_free rc
        by_cases hl : k + 1 = M
        · have hd0 : Hid (d = B.restC hh F 0) := Lib.hid (by rw [← hC', hl]; exact hCM)
          have hE32 : E (k + 1) = 32 := by rw [hl]; exact hEM
          rw [hE32]
          clear hC' hE32
          have hrest : ∀ i, i ≤ 1408 → B.RightM (B.restC hh F i) := fun i hi => restC_right hh i hi (by rw [← hd0.out]; exact hrd)
          have hst : d.state = 8 := by rw [hd0.out]; rfl
          have hct : d.cnt = ⟨0, 0, true, 128⟩ := by rw [hd0.out]; rfl
          have CSt := Lib.hid (show ∀ w : World, Calls Try.prog 18 #[.agg #[.int .i64 0, .int .i64 0, .bool true, .int .i64 128]] w (fun e w' => e = .returned (.tuple #[.int .i64 3, .int .i64 0]) ∧ Below w.heap.size w w') from fun w => cstate_off 128 w (by omega) (by omega))
          go_upto_region 31 with (go_at_call 18; (with_reducible refine (CSt.out _).mono ?_); rintro e w6 ⟨rfl, hbw6⟩; have hK10 := hK9.keep hbw6)
          go_wp2
          have hK11 : Kept w [(gc, ctA (B.restC hh F 0))] w6 := by rw [← hd0.out]; exact hK10
          clear hK9 hK10 rc qc fc CSt hlc
          clear hst hct hd0
          go_loopw [118] (fun i wr => ∃ j : Nat, j ≤ 1408 ∧ i = .int .i64 j ∧ Kept w [(gc, ctA (B.restC hh F j))] wr) (fun i _ => 1408 - (intOf i).toNat)
          case atStart => exact ⟨0, by omega, rfl, hK11⟩
          case round =>
            obtain ⟨j, hj, rfl, hK⟩ := hrel
            clear hK11
            by_cases hlt : j < 1408
            · have hr := hrest j hj
              obtain ⟨hb, hs8⟩ := B.rest_drive hh F j hlt
              have CD0 := fun w => drive7 (B.restC hh F j) w hr
              have CP0 := fun w => sample7 (B.restC hh F j) 49 w hr rfl
              rw [B.rest_next hh F j hlt] at CP0
              rw [hb] at CD0
              obtain ⟨c, hc⟩ : ∃ c, B.restC hh F j = c := ⟨_, rfl⟩
              obtain ⟨d2, hd⟩ : ∃ d, B.restC hh F (j + 1) = d := ⟨_, rfl⟩
              rw [hc] at CD0 CP0 hs8 hK
              rw [hd] at CP0
              have CD := Lib.hid (show ∀ w : World, Calls Try.prog 13 #[.agg (ctA c)] w (fun e w' => e = .returned (.tuple #[.int .u8 49, .int .i64 0]) ∧ Below w.heap.size w w') from CD0)
              have CP := Lib.hid (show ∀ w : World, Calls Try.prog 14 #[.agg (ctA c), .int .u8 49] w (fun e w' => e = .returned (.tuple #[.agg (ctA d2), .agg (evA B.ev0), .int .i64 0]) ∧ Below w.heap.size w w') from CP0)
              clear CD0 CP0 hb hr hc
              have rc := hK.head
              have hlc := rowAt_lt rc
              go_upto_region 35 with (first
                | (go_at_call 13; (with_reducible refine (CD.out _).mono ?_); rintro e w4 ⟨rfl, hbw4⟩; have hK := hK.keep hbw4; have rc := hK.head; have qc := rowAt_cell rc; have fc := rowAt_free rc; have hlc := rowAt_lt rc)
                | (go_at_call 14; (with_reducible refine (CP.out _).mono ?_); rintro e w5 ⟨rfl, hbw5⟩; have hK := hK.keep hbw5; have rc := hK.head; have hlc := rowAt_lt rc))
              have hK8 := (hK.new (ctA d2) 34 w5.heap.size rfl).new (evA B.ev0) 45 (w5.heap.size + 1) (by simp)
              generalize (w5.alloc (.cells (ctA d2) 34)).alloc (.cells (evA B.ev0) 45) = W9 at *
              clear hK CD CP rc qc fc
              generalize w5.heap.size = gx at *
              have e3 : gx ≠ gc := by omega
              have e4 : gx + 1 ≠ gc := by omega
              have rv := hK8.head
              have rd := hK8.tail.head
              have rc := hK8.tail.tail.head
              have qv := rowAt_cell rv
              have fv := rowAt_free rv
              have qc := rowAt_cell rc
              have fc := rowAt_free rc
              have hK9 := hK8.tail.tail.set (ctA d2) (by omega) (by simp)
              go_wp2
              go_roundw
              case rel => exact ⟨j + 1, by omega, by go_num, by rw [hd]; exact hK9⟩
              case measure => simp [intOf]; omega
            · have hks : j = 1408 := by omega
              subst hks
              have rc := hK.head
              have hB := hK.2
              obtain ⟨c, hc⟩ : ∃ c, B.restC hh F 1408 = c := ⟨_, rfl⟩
              rw [hc] at rc
              have hst : c.state = 1 := by rw [← hc]; rfl
              have hct : c.cnt = ⟨0, 0, false, 0⟩ := by rw [← hc]; rfl
              have hch : c.has = true := by rw [← hc]; rfl
              clear hc
              have qc := rowAt_cell rc
              have fc := rowAt_free rc
              go_wp2
              go_ret
              exact ⟨rfl, by (repeat (first | (with_reducible assumption) | (with_reducible exact Below.refl _ _) | (with_reducible refine Below.drew ?_) | ((with_reducible refine Below.setCell ?_ ?_ _); rotate_left; (focus (first | omega | (simp; done) | (simp; omega)))) | ((with_reducible refine below_row ?_ ?_ _); rotate_left; (focus (first | omega | (simp; done) | (simp; omega)))) | ((with_reducible refine Below.alloc ?_ ?_ _); rotate_left; (focus (first | omega | (simp; done) | (simp; omega))))))⟩
        · have hd8 : ¬ d.state = 8 := by rw [← hC']; exact (hall (k + 1) (by omega)).1
          go_wp2
          go_roundw
          case rel => exact ⟨k + 1, by omega, rfl, by go_num, by rw [hC']; exact hK9⟩
          case measure => simp [intOf]; omega
theorem off_any (f : FX) (A : Bool) (w : World) : Calls Try.prog 4 #[.agg (frA f), .bool A] w fun e w' => e = .returned (.bool true) ∧ Below w.heap.size w w' := by
  cases hm : f.cut.may
  · exact off_bad f A w hm
  · obtain ⟨F, hf, hF⟩ := FX.of_may hm
    cases A
    · exact off_false f w F hF hf
    · exact off_true f w F hF hf
end Go.Proofs.Ytcaeobkaoebndaa
