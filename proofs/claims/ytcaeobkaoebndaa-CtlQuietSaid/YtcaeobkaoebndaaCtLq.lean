/- Layer 7: the law CtlQuiet. -/
import Derived.Test.YtcaeobkaoebndaaJ9
namespace Go.Proofs.Ytcaeobkaoebndaa
open Go.RowKit Go.Lib
attribute [local go_sem ↓] ld_ct st_ct ld_ev st_ev ld_ma st_ma bd_ma
attribute [local go_sem] ldCt_at stCt_at ldEv_at stEv_at ldMa_at stMa_at bdMa_at ldp_ct ldp_ma ldp_ev ldp_mev stp_ct stp_ma stp_ev stp_mev stp_mm zero_ct zero_ev zero_ma ev_err ev_sent
attribute [local go_sem] rowAt_drew rowAt_drewN rowAt_new rowAt_past rowAt_setRow rowAt_setRow_other rowAt_setCell_other rowAt_setCell_map cell_setRow free_setRow cell_setRow_other free_setRow_other setRow_alloc_at setRow_alloc_past
attribute [local go_sem] ctA_0 ctA_1 ctA_2 ctA_3 ctA_4 ctA_5 ctA_6 ctA_7 ctA_8 ctA_9 ctA_10 ctA_11 ctA_12 ctA_13 ctA_14 ctA_15 ctA_16 ctA_17 ctA_18 ctA_19 ctA_20 ctA_21 ctA_22 evA_0 evA_1 evA_2 evA_3 evA_4 evA_5 evA_6 mA_0 mA_1 mA_2 mA_3 mA_4 mA_5 mA_6 mA_7 mA_8 mA_9 mA_10 mA_11 mA_12 mA_13 mA_14 mA_15 mA_16 mA_17 mA_18 mA_19 mA_20 mA_21 mA_22 mA_23 mA_24 mA_25 mA_26 mA_27 mA_28 mA_29
attribute [local go_sem] ctA_set0 ctA_set0_0 ctA_set1_0 ctA_suc0 ctA_set1 ctA_set0_1 ctA_set1_1 ctA_suc1 ctA_set2 ctA_set3 ctA_set0_3 ctA_set1_3 ctA_suc3 ctA_set4 ctA_set0_4 ctA_set1_4 ctA_suc4 ctA_set5 ctA_set0_5 ctA_set1_5 ctA_suc5 ctA_set6 ctA_set7 ctA_set8 ctA_set9 ctA_set0_9 ctA_set1_9 ctA_suc9 ctA_set10 ctA_set11 ctA_set12 ctA_set0_12 ctA_set1_12 ctA_suc12 ctA_set13 ctA_set14 ctA_set15 ctA_set16 ctA_set0_16 ctA_set1_16 ctA_suc16 ctA_set17 ctA_set0_17 ctA_set1_17 ctA_suc17 ctA_set18 ctA_set0_18 ctA_set1_18 ctA_suc18 ctA_set19 ctA_set20 ctA_set21 ctA_set0_21 ctA_set1_21 ctA_suc21 ctA_set22 mA_set0 mA_set0_0 mA_set1_0 mA_suc0 mA_set1 mA_set0_1 mA_set1_1 mA_suc1 mA_set2 mA_set3 mA_set0_3 mA_set1_3 mA_suc3 mA_set4 mA_set0_4 mA_set1_4 mA_suc4 mA_set5 mA_set0_5 mA_set1_5 mA_set1000000000_5 mA_suc5 mA_set6 mA_set7 mA_set8 mA_set9 mA_set0_9 mA_set1_9 mA_suc9 mA_set10 mA_set11 mA_set12 mA_set0_12 mA_set1_12 mA_suc12 mA_set13 mA_set14 mA_set15 mA_set16 mA_set0_16 mA_set1_16 mA_suc16 mA_set17 mA_set0_17 mA_set1_17 mA_set48_17 mA_suc17 mA_set18 mA_set0_18 mA_set1_18 mA_suc18 mA_set19 mA_set20 mA_set21 mA_set0_21 mA_set1_21 mA_suc21 mA_set22 evA_set0 evA_set0_0 evA_set1_0 evA_set2_0 evA_set3_0 evA_set4_0 evA_suc0 evA_set1 evA_set0_1 evA_set1_1 evA_suc1 evA_set2 evA_set3 evA_set4 evA_set0_4 evA_set1_4 evA_suc4 evA_set5 evA_set6 evA_set0_6 evA_set1_6 evA_set14_6 evA_suc6 mA_set23 mA_set0_23 mA_set1_23 mA_set2_23 mA_set3_23 mA_set4_23 mA_suc23 mA_set24 mA_set0_24 mA_set1_24 mA_suc24 mA_set25 mA_set26 mA_set27 mA_set0_27 mA_set1_27 mA_suc27 mA_set28 mA_set29 mA_set0_29 mA_set1_29 mA_suc29
attribute [local go_sem ↓] ld_fr st_fr
attribute [local go_sem] ldFr_at stFr_at ldp_fr ldp_ctf ldp_evf stp_fr zero_fr frA_0 frA_1 frA_2 frA_3 frA_4 frA_set4 neq_fr eql_fr

set_option maxRecDepth 100000 in
theorem neq_ev (v : B.Ev) (w : World) : (binOp .neq 45 (.agg (evA v)) (.agg (evA v))).run Try.prog w = .ok (.bool false) w := by
  unfold evA
  simp [go_sem]
theorem quiet_right (H : Bool) (f : B.Fr) (i : Nat) (h1 : H = true → B.FrR f) (h0 : H = false → f = B.noFr) : B.RightM (B.quietC H f i) := by
  unfold B.quietC
  split
  · exact B.bareC_right B.cn0_may (by omega) (by omega) ⟨fun e => by omega, fun e => by cases e⟩ (by unfold B.NOk; omega) h1 h0
  · exact B.bareC_right B.cn0_may (by omega) (by omega) ⟨fun e => by omega, fun e => by cases e⟩ (by unfold B.NOk; omega) h1 h0
theorem quiet_sample (H : Bool) (f : B.Fr) (i : Nat) (h1 : H = true → B.FrR f) (h0 : H = false → f = B.noFr) (w : World) :
    Calls Try.prog 14 #[.agg (ctA (B.quietC H f i)), .int .u8 49] w fun e w' => e = .returned (.tuple #[.agg (ctA (B.quietC H f (i + 1))), .agg (evA B.ev0), .int .i64 0]) ∧ Below w.heap.size w w' := by
  have := sample7 (B.quietC H f i) 49 w (quiet_right H f i h1 h0) rfl
  rwa [B.quiet_next] at this
theorem quiet_drive7 (H : Bool) (f : B.Fr) (i : Nat) (h1 : H = true → B.FrR f) (h0 : H = false → f = B.noFr) (w : World) :
    Calls Try.prog 13 #[.agg (ctA (B.quietC H f i))] w fun e w' => e = .returned (.tuple #[.int .u8 ((if H = true ∧ 11 ≤ i then 48 else 49 : UInt8).toNat : Nat), .int .i64 0]) ∧ Below w.heap.size w w' := by
  have := drive7 (B.quietC H f i) w (quiet_right H f i h1 h0)
  rwa [B.quiet_drive] at this
attribute [local go_sem ↓] neq_ev
/-- CtlQuiet behind its beginning: what the law's loop keeps -/
def QuL (gc gd : Nat) (H : Bool) (f : B.Fr) (k : Nat) : List (Nat × Array Value) := [(gd, ctA (B.quietC H f k)), (gc, ctA (B.quietC false B.noFr k))]
theorem quietC_has (H : Bool) (f : B.Fr) (i : Nat) : (B.quietC H f i).has = H := by unfold B.quietC; split <;> rfl
theorem quietC_st0 (H : Bool) (f : B.Fr) (i : Nat) (h : i < 11) : (B.quietC H f i).state = 0 := by unfold B.quietC; rw [if_pos h]; rfl
theorem quietC_st1 (H : Bool) (f : B.Fr) (i : Nat) (h : 11 ≤ i) : (B.quietC H f i).state = 1 := by unfold B.quietC; rw [if_neg (by omega)]; rfl
set_option maxRecDepth 100000 in
set_option maxHeartbeats 4000000 in
theorem quiet_yes (f : FX) (n : Int) (w : World) (F : B.Fr) (hF : f.cut = FXo F) (hf : B.FrR F) : Calls Try.prog 5 #[.agg (frA f), .int .i64 n] w fun e w' => e = .returned (.bool true) ∧ Below w.heap.size w w' := by
  have CW := Lib.hid (fun w => few7 f w)
  have CN := Lib.hid (fun w => ctlnew_any w)
  have CA := Lib.hid (fun w => alive7 w)
  rw [hF] at CW
  have CS := Lib.hid (show ∀ w : World, Calls Try.prog 10 #[.agg (ctA B.cs0), .agg (frA (FXo F))] w (fun e w' => e = .returned (.tuple #[.agg (ctA (B.quietC true F 0)), .int .i64 0]) ∧ Below w.heap.size w w') from fun w => submit_ok B.cs0 F w B.cs0_right hf rfl)
  have CR0 := fun w => refr7 (FXo F) w
  have hmay : (FXo F).may = true := frI_yes7 hf
  rw [hmay] at CR0
  have CR := Lib.hid CR0
  clear CR0 hmay hF
  go_enter Try.func5, Try.ntmps5
  go_upto_region 2 with (go_at_call 9; (with_reducible refine (CW.out _).mono ?_); rintro e w1 ⟨rfl, hbw1⟩; have hK1 := ((Kept.nil w).new (frA f) 30 w.heap.size rfl).keep hbw1; have rf1 := hK1.head)
  have hK2 := hK1.set (frA (FXo F)) (Nat.le_refl _) (by simp)
  generalize w1.setRow w.heap.size (frA (FXo F)) = W at *
  clear hK1 rf1 hbw1
  go_cut [1] from 22 to 25 (fun a wd => ∃ m : Nat, m ≤ 60 ∧ a = .int .i64 (m : Int) ∧ Kept w [(w.heap.size, frA (FXo F))] wd)
  case first =>
    go_wp2
    all_goals
      go_meet
      case rel => first | exact ⟨0, by omega, rfl, hK2⟩ | exact ⟨60, by omega, rfl, hK2⟩ | exact ⟨n.toNat, by omega, by rw [Int.toNat_of_nonneg (by omega)], hK2⟩
  case rest =>
    obtain ⟨m, hm, rfl, hK⟩ := hcut
    clear hK2
    have rf := hK.head
    have hlf := rowAt_lt rf
    go_upto_region 4 with (first
      | (go_at_call 8; (with_reducible refine (CN.out _).mono ?_); rintro e w1 ⟨rfl, hbw1⟩; have hK := hK.keep hbw1; have rf := hK.head; have hlf := rowAt_lt rf))
    have hK4 : Kept w [(w1.heap.size + 1, ctA B.cs0), (w1.heap.size, ctA (B.quietC false B.noFr 0)), (w.heap.size, frA (FXo F))] _ := (hK.new (ctA B.cs0) 34 w1.heap.size rfl).new (ctA B.cs0) 34 (w1.heap.size + 1) (by simp)
    generalize (w1.alloc (.cells (ctA B.cs0) 34)).alloc (.cells (ctA B.cs0) 34) = W3 at *
    clear hK hbw1 rf
    generalize w1.heap.size = gc at *
    clear CW CN
    have rf := hK4.tail.tail.head
    have rd := hK4.head
    have rc := hK4.tail.head
    have hlc := rowAt_lt rc
    have hld := rowAt_lt rd
    have n1 : w.heap.size ≠ gc + 1 := by omega
    have n2 : gc + 1 ≠ w.heap.size := by omega
    go_upto_region 9 with (first
      | (go_at_call 10; (with_reducible refine (CS.out _).mono ?_); rintro e w2 ⟨rfl, hbw2⟩; have hK5 := hK4.keep hbw2; have rf := hK5.tail.tail.head; have rd := hK5.head; have rc := hK5.tail.head; have hl0 := rowAt_lt rf; have hlc := rowAt_lt rc; have hld := rowAt_lt rd)
      | (go_at_call 11; (with_reducible refine (CR.out _).mono ?_); rintro e w3 ⟨rfl, hbw3⟩; have hK6 := ((hK5.set (ctA (B.quietC true F 0)) (by omega) (by simp; omega)).alloc _).keep hbw3))
    have hK7 : Kept w (QuL gc (gc + 1) true F 0) w3 := hK6.two
    clear hK6 hbw3
    go_wp2
    go_loopw [42] (fun i wr => ∃ k : Nat, k ≤ m ∧ i = .int .i64 k ∧ Kept w (QuL gc (gc + 1) true F k) wr) (fun i _ => m - (intOf i).toNat)
    case atStart => exact ⟨0, by omega, rfl, hK7⟩
    case round =>
      obtain ⟨k, hk, rfl, hK⟩ := hrel
      by_cases hlt : k < m
      · by_cases h11 : 11 ≤ k
        · have CDc0 := quiet_drive7 false B.noFr k (fun e => by cases e) (fun _ => rfl)
          have CDd0 := quiet_drive7 true F k (fun _ => hf) (fun e => by cases e)
          rw [if_neg (fun e => by cases e.1)] at CDc0
          rw [if_pos ⟨rfl, h11⟩] at CDd0
          have hst := quietC_st1 false B.noFr k h11
          have hhas := quietC_has true F k
          unfold QuL at hK
          generalize B.quietC false B.noFr k = c at *
          generalize B.quietC true F k = d at *
          have CDc := Lib.hid CDc0
          have CDd := Lib.hid CDd0
          clear CDc0 CDd0
          have rd := hK.head
          have rc := hK.tail.head
          have hB := hK.2
          go_wp2_with (first
            | (go_at_call 13; (with_reducible refine (CDc.out _).mono ?_); rintro e w4 ⟨rfl, hbw4⟩; have hK := hK.keep hbw4; have hB := hK.2; have hzB := hB.size; have rd := hK.head; have rc := hK.tail.head; have qd := rowAt_cell rd; have fd := rowAt_free rd; have qc := rowAt_cell rc; have fc := rowAt_free rc)
            | (go_at_call 13; (with_reducible refine (CDd.out _).mono ?_); rintro e w4 ⟨rfl, hbw4⟩; have hK := hK.keep hbw4; have hB := hK.2; have hzB := hB.size; have rd := hK.head; have rc := hK.tail.head; have qd := rowAt_cell rd; have fd := rowAt_free rd; have qc := rowAt_cell rc; have fc := rowAt_free rc)
            | (go_at_call 7; (with_reducible refine (CA.out _).mono ?_); rintro e w7 ⟨rfl, hbw7⟩; have hB := hB.trans (hbw7.mono hzB)))
          go_ret
          exact ⟨rfl, by (repeat (first | (with_reducible assumption) | (with_reducible exact Below.refl _ _) | (with_reducible refine Below.drew ?_) | ((with_reducible refine Below.setCell ?_ ?_ _); rotate_left; (focus (first | omega | (simp; done) | (simp; omega)))) | ((with_reducible refine below_row ?_ ?_ _); rotate_left; (focus (first | omega | (simp; done) | (simp; omega)))) | ((with_reducible refine Below.alloc ?_ ?_ _); rotate_left; (focus (first | omega | (simp; done) | (simp; omega))))))⟩
        · have CDc0 := quiet_drive7 false B.noFr k (fun e => by cases e) (fun _ => rfl)
          have CDd0 := quiet_drive7 true F k (fun _ => hf) (fun e => by cases e)
          have CSc0 := quiet_sample false B.noFr k (fun e => by cases e) (fun _ => rfl)
          have CSd0 := quiet_sample true F k (fun _ => hf) (fun e => by cases e)
          rw [if_neg (by omega)] at CDc0 CDd0
          obtain ⟨c, hc⟩ : ∃ c, B.quietC false B.noFr k = c := ⟨_, rfl⟩
          obtain ⟨d, hd⟩ : ∃ d, B.quietC true F k = d := ⟨_, rfl⟩
          obtain ⟨c', hc'⟩ : ∃ c, B.quietC false B.noFr (k + 1) = c := ⟨_, rfl⟩
          obtain ⟨d', hd'⟩ : ∃ d, B.quietC true F (k + 1) = d := ⟨_, rfl⟩
          have hst := quietC_st0 false B.noFr k (by omega)
          have hhas := quietC_has true F k
          have hQ : Hid (QuL gc (gc + 1) true F (k + 1) = [(gc + 1, ctA d'), (gc, ctA c')]) := Lib.hid (by unfold QuL; rw [hc', hd'])
          unfold QuL at hK
          rw [hc] at CDc0 CSc0 hst hK
          rw [hd] at CDd0 CSd0 hhas hK
          rw [hc'] at CSc0
          rw [hd'] at CSd0
          have CDc := Lib.hid CDc0
          have CDd := Lib.hid CDd0
          have CSc := Lib.hid CSc0
          have CSd := Lib.hid CSd0
          clear CDc0 CDd0 CSc0 CSd0 hc hd hc' hd'
          have rd := hK.head
          have rc := hK.tail.head
          go_upto_region 17 with (first
            | (go_at_call 13; (with_reducible refine (CDc.out _).mono ?_); rintro e w4 ⟨rfl, hbw4⟩; have hK := hK.keep hbw4; have rd := hK.head; have rc := hK.tail.head; have qd := rowAt_cell rd; have fd := rowAt_free rd; have qc := rowAt_cell rc; have fc := rowAt_free rc)
            | (go_at_call 13; (with_reducible refine (CDd.out _).mono ?_); rintro e w4 ⟨rfl, hbw4⟩; have hK := hK.keep hbw4; have rd := hK.head; have rc := hK.tail.head; have qd := rowAt_cell rd; have fd := rowAt_free rd; have qc := rowAt_cell rc; have fc := rowAt_free rc))
          clear CDc CDd
          go_upto_region 19 with (first
            | (go_at_call 14; (with_reducible refine (CSc.out _).mono ?_); rintro e w5 ⟨rfl, hbw5⟩; have hK := hK.keep hbw5; have rd := hK.head; have rc := hK.tail.head; have hld := rowAt_lt rd; have hlc := rowAt_lt rc)
            | (go_at_call 14; (with_reducible refine (CSd.out _).mono ?_); rintro e w6 ⟨rfl, hbw6⟩; have hK := ((hK.new (ctA c') 34 w5.heap.size rfl).new (evA B.ev0) 45 (w5.heap.size + 1) (by simp)).keep hbw6))
          have hK8 := (hK.new (ctA d') 34 w6.heap.size rfl).new (evA B.ev0) 45 (w6.heap.size + 1) (by simp)
          generalize (w6.alloc (.cells (ctA d') 34)).alloc (.cells (evA B.ev0) 45) = W9 at *
          have hzK := hK.lt
          have hz1 : w5.heap.size + 1 < w6.heap.size := hzK (w5.heap.size + 1, evA B.ev0) (by simp)
          clear hK hzK CSc CSd rd rc qd fd qc fc
          generalize w6.heap.size = gy at *
          generalize w5.heap.size = gx at *
          have r1 := hK8.head
          have r2 := hK8.tail.head
          have r3 := hK8.tail.tail.head
          have r4 := hK8.tail.tail.tail.head
          have rd := hK8.tail.tail.tail.tail.head
          have rc := hK8.tail.tail.tail.tail.tail.head
          go_upto_region 21 with fail
          have e1 : gy ≠ gc := by omega
          have e2 : gy ≠ gc + 1 := by omega
          have e3 : gx ≠ gc := by omega
          have e4 : gx ≠ gc + 1 := by omega
          have e5 : gc ≠ gc + 1 := by omega
          have e6 : gc + 1 ≠ gc := by omega
          have hB9 := hK8.2
          have hgcw : w.heap.size ≤ gc := by omega
          have hgdw : w.heap.size ≤ gc + 1 := by omega
          go_region_with fail
          all_goals
            go_wp2
            go_roundw
            case rel =>
              refine ⟨k + 1, by omega, by go_num, ?_⟩
              rw [hQ.out]
              refine Kept.cons (Kept.cons (Kept.mk0 ?_) ?_) ?_
              · (repeat (first | (with_reducible exact hB9) | (with_reducible refine Below.drew ?_) | (with_reducible refine Below.drewN ?_ _) | (with_reducible refine below_row ?_ hgcw _) | (with_reducible refine below_row ?_ hgdw _)))
              · simp [go_sem, *]
              · simp [go_sem, *]
            case measure => simp [intOf]; omega
      · have hks : k = m := by omega
        subst hks
        have hB := hK.2
        have hzB := hB.size
        clear hK
        go_wp2_with (first
          | (go_at_call 7; (with_reducible refine (CA.out _).mono ?_); rintro e w7 ⟨rfl, hbw7⟩; have hB := hB.trans (hbw7.mono hzB)))
        go_ret
        exact ⟨rfl, by (repeat (first | (with_reducible assumption) | (with_reducible exact Below.refl _ _) | (with_reducible refine Below.drew ?_) | ((with_reducible refine Below.setCell ?_ ?_ _); rotate_left; (focus (first | omega | (simp; done) | (simp; omega)))) | ((with_reducible refine below_row ?_ ?_ _); rotate_left; (focus (first | omega | (simp; done) | (simp; omega)))) | ((with_reducible refine Below.alloc ?_ ?_ _); rotate_left; (focus (first | omega | (simp; done) | (simp; omega))))))⟩
set_option maxRecDepth 100000 in
set_option maxHeartbeats 4000000 in
theorem quiet_no (f : FX) (n : Int) (w : World) (h : FX) (hh : f.cut = h) (hm : h.may = false) : Calls Try.prog 5 #[.agg (frA f), .int .i64 n] w fun e w' => e = .returned (.bool true) ∧ Below w.heap.size w w' := by
  have CW := Lib.hid (fun w => few7 f w)
  have CN := Lib.hid (fun w => ctlnew_any w)
  have CA := Lib.hid (fun w => alive7 w)
  rw [hh] at CW
  have CS := Lib.hid (fun w => submit_no7 B.cs0 B.cs0_right hm w)
  have CR := Lib.hid (fun w => refr7_no hm w)
  clear hh hm
  go_enter Try.func5, Try.ntmps5
  go_upto_region 2 with (go_at_call 9; (with_reducible refine (CW.out _).mono ?_); rintro e w1 ⟨rfl, hbw1⟩; have hK1 := ((Kept.nil w).new (frA f) 30 w.heap.size rfl).keep hbw1; have rf1 := hK1.head)
  have hK2 := hK1.set (frA h) (Nat.le_refl _) (by simp)
  generalize w1.setRow w.heap.size (frA h) = W at *
  clear hK1 rf1 hbw1
  go_cut [1] from 22 to 25 (fun a wd => ∃ m : Nat, m ≤ 60 ∧ a = .int .i64 (m : Int) ∧ Kept w [(w.heap.size, frA h)] wd)
  case first =>
    go_wp2
    all_goals
      go_meet
      case rel => first | exact ⟨0, by omega, rfl, hK2⟩ | exact ⟨60, by omega, rfl, hK2⟩ | exact ⟨n.toNat, by omega, by rw [Int.toNat_of_nonneg (by omega)], hK2⟩
  case rest =>
    obtain ⟨m, hm, rfl, hK⟩ := hcut
    clear hK2
    have rf := hK.head
    have hlf := rowAt_lt rf
    go_upto_region 4 with (first
      | (go_at_call 8; (with_reducible refine (CN.out _).mono ?_); rintro e w1 ⟨rfl, hbw1⟩; have hK := hK.keep hbw1; have rf := hK.head; have hlf := rowAt_lt rf))
    have hK4 : Kept w [(w1.heap.size + 1, ctA B.cs0), (w1.heap.size, ctA (B.quietC false B.noFr 0)), (w.heap.size, frA h)] _ := (hK.new (ctA B.cs0) 34 w1.heap.size rfl).new (ctA B.cs0) 34 (w1.heap.size + 1) (by simp)
    generalize (w1.alloc (.cells (ctA B.cs0) 34)).alloc (.cells (ctA B.cs0) 34) = W3 at *
    clear hK hbw1 rf
    generalize w1.heap.size = gc at *
    clear CW CN
    have rf := hK4.tail.tail.head
    have rd := hK4.head
    have rc := hK4.tail.head
    have hlc := rowAt_lt rc
    have hld := rowAt_lt rd
    have n1 : w.heap.size ≠ gc + 1 := by omega
    have n2 : gc + 1 ≠ w.heap.size := by omega
    go_upto_region 9 with (first
      | (go_at_call 10; (with_reducible refine (CS.out _).mono ?_); rintro e w2 ⟨rfl, hbw2⟩; have hK5 := hK4.keep hbw2; have rf := hK5.tail.tail.head; have rd := hK5.head; have rc := hK5.tail.head; have hl0 := rowAt_lt rf; have hlc := rowAt_lt rc; have hld := rowAt_lt rd)
      | (go_at_call 11; (with_reducible refine (CR.out _).mono ?_); rintro e w3 ⟨rfl, hbw3⟩; have hK6 := (hK5.alloc _).keep hbw3))
    have hK7 : Kept w (QuL gc (gc + 1) false B.noFr 0) w3 := hK6.two
    clear hK6 hbw3
    go_wp2
    go_loopw [42] (fun i wr => ∃ k : Nat, k ≤ m ∧ i = .int .i64 k ∧ Kept w (QuL gc (gc + 1) false B.noFr k) wr) (fun i _ => m - (intOf i).toNat)
    case atStart => exact ⟨0, by omega, rfl, hK7⟩
    case round =>
      obtain ⟨k, hk, rfl, hK⟩ := hrel
      by_cases hlt : k < m
      · by_cases h11 : 11 ≤ k
        · have h11' : decide ((11 : Int) ≤ (k : Int)) = true := by simp; omega
          have CDc0 := quiet_drive7 false B.noFr k (fun e => by cases e) (fun _ => rfl)
          have CSc0 := quiet_sample false B.noFr k (fun e => by cases e) (fun _ => rfl)
          rw [if_neg (fun e => by cases e.1)] at CDc0
          obtain ⟨c, hc⟩ : ∃ c, B.quietC false B.noFr k = c := ⟨_, rfl⟩
          obtain ⟨c', hc'⟩ : ∃ c, B.quietC false B.noFr (k + 1) = c := ⟨_, rfl⟩
          have hst := quietC_st1 false B.noFr k h11
          have hhas := quietC_has false B.noFr k
          have hQ : Hid (QuL gc (gc + 1) false B.noFr (k + 1) = [(gc + 1, ctA c'), (gc, ctA c')]) := Lib.hid (by unfold QuL; rw [hc'])
          unfold QuL at hK
          rw [hc] at CDc0 CSc0 hst hhas hK
          rw [hc'] at CSc0
          have CDc := Lib.hid CDc0
          have CSc := Lib.hid CSc0
          clear CDc0 CSc0 hc hc'
          have rd := hK.head
          have rc := hK.tail.head
          go_upto_region 17 with (first
            | (go_at_call 13; (with_reducible refine (CDc.out _).mono ?_); rintro e w4 ⟨rfl, hbw4⟩; have hK := hK.keep hbw4; have rd := hK.head; have rc := hK.tail.head; have qd := rowAt_cell rd; have fd := rowAt_free rd; have qc := rowAt_cell rc; have fc := rowAt_free rc))
          clear CDc
          go_upto_region 18 with (first
            | (go_at_call 14; (with_reducible refine (CSc.out _).mono ?_); rintro e w5 ⟨rfl, hbw5⟩; have hK := hK.keep hbw5; have rd := hK.head; have rc := hK.tail.head; have hld := rowAt_lt rd; have hlc := rowAt_lt rc))
          go_upto_region 19 with (first
            | (go_at_call 14; (with_reducible refine (CSc.out _).mono ?_); rintro e w6 ⟨rfl, hbw6⟩; have hK := ((hK.new (ctA c') 34 w5.heap.size rfl).new (evA B.ev0) 45 (w5.heap.size + 1) (by simp)).keep hbw6))
          have hK8 := (hK.new (ctA c') 34 w6.heap.size rfl).new (evA B.ev0) 45 (w6.heap.size + 1) (by simp)
          generalize (w6.alloc (.cells (ctA c') 34)).alloc (.cells (evA B.ev0) 45) = W9 at *
          have hzK := hK.lt
          have hz1 : w5.heap.size + 1 < w6.heap.size := hzK (w5.heap.size + 1, evA B.ev0) (by simp)
          clear hK hzK CSc rd rc qd fd qc fc
          generalize w6.heap.size = gy at *
          generalize w5.heap.size = gx at *
          have r1 := hK8.head
          have r2 := hK8.tail.head
          have r3 := hK8.tail.tail.head
          have r4 := hK8.tail.tail.tail.head
          have rd := hK8.tail.tail.tail.tail.head
          have rc := hK8.tail.tail.tail.tail.tail.head
          go_upto_region 21 with fail
          have e1 : gy ≠ gc := by omega
          have e2 : gy ≠ gc + 1 := by omega
          have e3 : gx ≠ gc := by omega
          have e4 : gx ≠ gc + 1 := by omega
          have e5 : gc ≠ gc + 1 := by omega
          have e6 : gc + 1 ≠ gc := by omega
          have hB9 := hK8.2
          have hgcw : w.heap.size ≤ gc := by omega
          have hgdw : w.heap.size ≤ gc + 1 := by omega
          go_region_with fail
          all_goals
            go_wp2
            go_roundw
            case rel =>
              refine ⟨k + 1, by omega, by go_num, ?_⟩
              rw [hQ.out]
              refine Kept.cons (Kept.cons (Kept.mk0 ?_) ?_) ?_
              · (repeat (first | (with_reducible exact hB9) | (with_reducible refine Below.drew ?_) | (with_reducible refine Below.drewN ?_ _) | (with_reducible refine below_row ?_ hgcw _) | (with_reducible refine below_row ?_ hgdw _)))
              · simp [go_sem, *]
              · simp [go_sem, *]
            case measure => simp [intOf]; omega
        · have h11' : decide ((11 : Int) ≤ (k : Int)) = false := by simp; omega
          have CDc0 := quiet_drive7 false B.noFr k (fun e => by cases e) (fun _ => rfl)
          have CSc0 := quiet_sample false B.noFr k (fun e => by cases e) (fun _ => rfl)
          rw [if_neg (fun e => by cases e.1)] at CDc0
          obtain ⟨c, hc⟩ : ∃ c, B.quietC false B.noFr k = c := ⟨_, rfl⟩
          obtain ⟨c', hc'⟩ : ∃ c, B.quietC false B.noFr (k + 1) = c := ⟨_, rfl⟩
          have hst := quietC_st0 false B.noFr k (by omega)
          have hhas := quietC_has false B.noFr k
          have hQ : Hid (QuL gc (gc + 1) false B.noFr (k + 1) = [(gc + 1, ctA c'), (gc, ctA c')]) := Lib.hid (by unfold QuL; rw [hc'])
          unfold QuL at hK
          rw [hc] at CDc0 CSc0 hst hhas hK
          rw [hc'] at CSc0
          have CDc := Lib.hid CDc0
          have CSc := Lib.hid CSc0
          clear CDc0 CSc0 hc hc'
          have rd := hK.head
          have rc := hK.tail.head
          go_upto_region 17 with (first
            | (go_at_call 13; (with_reducible refine (CDc.out _).mono ?_); rintro e w4 ⟨rfl, hbw4⟩; have hK := hK.keep hbw4; have rd := hK.head; have rc := hK.tail.head; have qd := rowAt_cell rd; have fd := rowAt_free rd; have qc := rowAt_cell rc; have fc := rowAt_free rc))
          clear CDc
          go_upto_region 18 with (first
            | (go_at_call 14; (with_reducible refine (CSc.out _).mono ?_); rintro e w5 ⟨rfl, hbw5⟩; have hK := hK.keep hbw5; have rd := hK.head; have rc := hK.tail.head; have hld := rowAt_lt rd; have hlc := rowAt_lt rc))
          go_upto_region 19 with (first
            | (go_at_call 14; (with_reducible refine (CSc.out _).mono ?_); rintro e w6 ⟨rfl, hbw6⟩; have hK := ((hK.new (ctA c') 34 w5.heap.size rfl).new (evA B.ev0) 45 (w5.heap.size + 1) (by simp)).keep hbw6))
          have hK8 := (hK.new (ctA c') 34 w6.heap.size rfl).new (evA B.ev0) 45 (w6.heap.size + 1) (by simp)
          generalize (w6.alloc (.cells (ctA c') 34)).alloc (.cells (evA B.ev0) 45) = W9 at *
          have hzK := hK.lt
          have hz1 : w5.heap.size + 1 < w6.heap.size := hzK (w5.heap.size + 1, evA B.ev0) (by simp)
          clear hK hzK CSc rd rc qd fd qc fc
          generalize w6.heap.size = gy at *
          generalize w5.heap.size = gx at *
          have r1 := hK8.head
          have r2 := hK8.tail.head
          have r3 := hK8.tail.tail.head
          have r4 := hK8.tail.tail.tail.head
          have rd := hK8.tail.tail.tail.tail.head
          have rc := hK8.tail.tail.tail.tail.tail.head
          go_upto_region 21 with fail
          have e1 : gy ≠ gc := by omega
          have e2 : gy ≠ gc + 1 := by omega
          have e3 : gx ≠ gc := by omega
          have e4 : gx ≠ gc + 1 := by omega
          have e5 : gc ≠ gc + 1 := by omega
          have e6 : gc + 1 ≠ gc := by omega
          have hB9 := hK8.2
          have hgcw : w.heap.size ≤ gc := by omega
          have hgdw : w.heap.size ≤ gc + 1 := by omega
          go_region_with fail
          all_goals
            go_wp2
            go_roundw
            case rel =>
              refine ⟨k + 1, by omega, by go_num, ?_⟩
              rw [hQ.out]
              refine Kept.cons (Kept.cons (Kept.mk0 ?_) ?_) ?_
              · (repeat (first | (with_reducible exact hB9) | (with_reducible refine Below.drew ?_) | (with_reducible refine Below.drewN ?_ _) | (with_reducible refine below_row ?_ hgcw _) | (with_reducible refine below_row ?_ hgdw _)))
              · simp [go_sem, *]
              · simp [go_sem, *]
            case measure => simp [intOf]; omega
      · have hks : k = m := by omega
        subst hks
        have hB := hK.2
        have hzB := hB.size
        clear hK
        go_wp2_with (first
          | (go_at_call 7; (with_reducible refine (CA.out _).mono ?_); rintro e w7 ⟨rfl, hbw7⟩; have hB := hB.trans (hbw7.mono hzB)))
        go_ret
        exact ⟨rfl, by (repeat (first | (with_reducible assumption) | (with_reducible exact Below.refl _ _) | (with_reducible refine Below.drew ?_) | ((with_reducible refine Below.setCell ?_ ?_ _); rotate_left; (focus (first | omega | (simp; done) | (simp; omega)))) | ((with_reducible refine below_row ?_ ?_ _); rotate_left; (focus (first | omega | (simp; done) | (simp; omega)))) | ((with_reducible refine Below.alloc ?_ ?_ _); rotate_left; (focus (first | omega | (simp; done) | (simp; omega))))))⟩
theorem quiet_any (f : FX) (n : Int) (w : World) : Calls Try.prog 5 #[.agg (frA f), .int .i64 n] w fun e w' => e = .returned (.bool true) ∧ Below w.heap.size w w' := by
  cases hm : f.cut.may
  · exact quiet_no f n w f.cut rfl hm
  · obtain ⟨F, hf, hF⟩ := FX.of_may hm
    exact quiet_yes f n w F hF hf
end Go.Proofs.Ytcaeobkaoebndaa
