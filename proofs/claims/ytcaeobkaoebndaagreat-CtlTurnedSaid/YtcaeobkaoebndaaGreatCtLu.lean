/- Layer 7: the law CtlTurned. -/
import Derived.Test.YtcaeobkaoebndaaGreatCtL4
import Derived.Test.YtcaeobkaoebndaaGreatPlain
import Derived.Deep.CutRange
namespace Go.Proofs.YtcaeobkaoebndaaGreat
open Go.RowKit Go.Lib
attribute [local go_sem ↓] ld_ct st_ct ld_ev st_ev ld_ma st_ma bd_ma
attribute [local go_sem] ldCt_at stCt_at ldEv_at stEv_at ldMa_at stMa_at bdMa_at ldp_ct ldp_ma ldp_ev ldp_mev stp_ct stp_ma stp_ev stp_mev stp_mm zero_ct zero_ev zero_ma ev_err ev_sent
attribute [local go_sem] rowAt_drew rowAt_drewN rowAt_new rowAt_past rowAt_setRow rowAt_setRow_other rowAt_setCell_other rowAt_setCell_map cell_setRow free_setRow cell_setRow_other free_setRow_other setRow_alloc_at setRow_alloc_past
attribute [local go_sem] ctA_0 ctA_1 ctA_2 ctA_3 ctA_4 ctA_5 ctA_6 ctA_7 ctA_8 ctA_9 ctA_10 ctA_11 ctA_12 ctA_13 ctA_14 ctA_15 ctA_16 ctA_17 ctA_18 ctA_19 ctA_20 ctA_21 ctA_22 evA_0 evA_1 evA_2 evA_3 evA_4 evA_5 evA_6 mA_0 mA_1 mA_2 mA_3 mA_4 mA_5 mA_6 mA_7 mA_8 mA_9 mA_10 mA_11 mA_12 mA_13 mA_14 mA_15 mA_16 mA_17 mA_18 mA_19 mA_20 mA_21 mA_22 mA_23 mA_24 mA_25 mA_26 mA_27 mA_28 mA_29
attribute [local go_sem] ctA_set0 ctA_set0_0 ctA_set1_0 ctA_suc0 ctA_set1 ctA_set0_1 ctA_set1_1 ctA_suc1 ctA_set2 ctA_set3 ctA_set0_3 ctA_set1_3 ctA_suc3 ctA_set4 ctA_set0_4 ctA_set1_4 ctA_suc4 ctA_set5 ctA_set0_5 ctA_set1_5 ctA_suc5 ctA_set6 ctA_set7 ctA_set8 ctA_set9 ctA_set0_9 ctA_set1_9 ctA_suc9 ctA_set10 ctA_set11 ctA_set12 ctA_set0_12 ctA_set1_12 ctA_suc12 ctA_set13 ctA_set14 ctA_set15 ctA_set16 ctA_set0_16 ctA_set1_16 ctA_suc16 ctA_set17 ctA_set0_17 ctA_set1_17 ctA_suc17 ctA_set18 ctA_set0_18 ctA_set1_18 ctA_suc18 ctA_set19 ctA_set20 ctA_set21 ctA_set0_21 ctA_set1_21 ctA_suc21 ctA_set22 mA_set0 mA_set0_0 mA_set1_0 mA_suc0 mA_set1 mA_set0_1 mA_set1_1 mA_suc1 mA_set2 mA_set3 mA_set0_3 mA_set1_3 mA_suc3 mA_set4 mA_set0_4 mA_set1_4 mA_suc4 mA_set5 mA_set0_5 mA_set1_5 mA_set1000000000_5 mA_suc5 mA_set6 mA_set7 mA_set8 mA_set9 mA_set0_9 mA_set1_9 mA_suc9 mA_set10 mA_set11 mA_set12 mA_set0_12 mA_set1_12 mA_suc12 mA_set13 mA_set14 mA_set15 mA_set16 mA_set0_16 mA_set1_16 mA_suc16 mA_set17 mA_set0_17 mA_set1_17 mA_set48_17 mA_suc17 mA_set18 mA_set0_18 mA_set1_18 mA_suc18 mA_set19 mA_set20 mA_set21 mA_set0_21 mA_set1_21 mA_suc21 mA_set22 evA_set0 evA_set0_0 evA_set1_0 evA_set2_0 evA_set3_0 evA_set4_0 evA_suc0 evA_set1 evA_set0_1 evA_set1_1 evA_suc1 evA_set2 evA_set3 evA_set4 evA_set0_4 evA_set1_4 evA_suc4 evA_set5 evA_set6 evA_set0_6 evA_set1_6 evA_set14_6 evA_suc6 mA_set23 mA_set0_23 mA_set1_23 mA_set2_23 mA_set3_23 mA_set4_23 mA_suc23 mA_set24 mA_set0_24 mA_set1_24 mA_suc24 mA_set25 mA_set26 mA_set27 mA_set0_27 mA_set1_27 mA_suc27 mA_set28 mA_set29 mA_set0_29 mA_set1_29 mA_suc29
attribute [local go_sem ↓] ld_fr st_fr
attribute [local go_sem] ldFr_at stFr_at ldp_fr ldp_ctf ldp_evf stp_fr zero_fr frA_0 frA_1 frA_2 frA_3 frA_4 frA_set4 neq_fr eql_fr
attribute [local go_sem ↓] eql_fr neq_fr
set_option maxRecDepth 100000 in
theorem turned_no7 (f : FX) (z : Int) (w : World) (h : FX) (hh : f.cut = h) (hm : h.may = false) : Calls Tryz.prog 7 #[.agg (frA f), .int .i64 z] w fun e w' => e = .returned (.bool true) ∧ Below w.heap.size w w' := by
  have CW := Lib.hid (fun w => few7 f w)
  rw [hh] at CW
  have CA := Lib.hid (fun w => alive7 w)
  have CR := Lib.hid (fun w => refr7_no hm w)
  clear hh hm
  go_enter Tryz.func7, Tryz.ntmps7
  go_upto_region 2 with (go_at_call 8; (with_reducible refine (CW.out _).mono ?_); rintro e w1 ⟨rfl, hbw1⟩; have hK1 := ((Kept.nil w).new (frA f) 24 w.heap.size rfl).keep hbw1; have rf1 := hK1.head)
  have hK2 := hK1.set (frA h) (Nat.le_refl _) (by simp)
  generalize w1.setRow w.heap.size (frA h) = W at *
  clear hK1 rf1 hbw1 CW
  have rf := hK2.head
  have hlf := rowAt_lt rf
  go_wp2_with (first
    | (go_at_call 9; (with_reducible refine (CR.out _).mono ?_); rintro e w3 ⟨rfl, hbw3⟩; have hK6 := hK2.keep hbw3; have hB := hK6.2; have hzB := hB.size)
    | (go_at_call 10; (with_reducible refine (CA.out _).mono ?_); rintro e w4 ⟨rfl, hbw4⟩; have hB := hB.trans (hbw4.mono hzB)))
  go_ret
  exact ⟨rfl, by (repeat (first | (with_reducible assumption) | (with_reducible exact Below.refl _ _) | (with_reducible refine Below.drew ?_) | ((with_reducible refine Below.setCell ?_ ?_ _); rotate_left; (focus (first | omega | (simp; done) | (simp; omega)))) | ((with_reducible refine below_row ?_ ?_ _); rotate_left; (focus (first | omega | (simp; done) | (simp; omega)))) | ((with_reducible refine Below.alloc ?_ ?_ _); rotate_left; (focus (first | omega | (simp; done) | (simp; omega))))))⟩
set_option maxRecDepth 100000 in
set_option maxHeartbeats 4000000 in
theorem turned_yes7 (f : FX) (z : Int) (w : World) (F : B.Fr) (hF : f.cut = FXo F) (hf : B.FrR F) : Calls Tryz.prog 7 #[.agg (frA f), .int .i64 z] w fun e w' => e = .returned (.bool true) ∧ Below w.heap.size w w' := by
  have CW := Lib.hid (fun w => few7 f w)
  rw [hF] at CW
  have CY := Lib.hid (fun w => ready_any w)
  have CA := Lib.hid (fun w => alive7 w)
  have CR := Lib.hid (fun w => refr7_yes hf w)
  obtain ⟨S, hS⟩ : ∃ S, bsA F = S := ⟨_, rfl⟩
  obtain ⟨T, hT⟩ : ∃ T, akA F = T := ⟨_, rfl⟩
  have CB0 := fun w => refbits7 hf w
  rw [hS] at CB0
  have CB := Lib.hid CB0
  clear CB0 hF
  obtain ⟨n, hn⟩ : ∃ n, (B.stfF F).length = n := ⟨_, rfl⟩
  have hSz : S.size = n + 10 := by rw [← hS, bsA_size, hn]
  have hTz : T.size = n + 10 := by rw [← hT, akA_size, hn]
  have hct : S.extract 0 (S.size - 9) ++ (⟨#[48]⟩ : ByteArray) ++ S.extract (S.size - 8) S.size = T := by
    have := ack_cut F
    rw [hS, hT, hn] at this
    rw [hSz]
    exact this
  have hnl := B.stfF_length hf
  rw [hn] at hnl
  have hu44 : 44 ≤ S.size := by omega
  have hu160 : S.size ≤ 160 := by omega
  have hi44 : ¬ (S.size : Int) < 44 := by omega
  have hi160 : ¬ (160 : Int) < S.size := by omega
  obtain ⟨m, hm⟩ : ∃ m, n = m + 1 := ⟨n - 1, by omega⟩
  have h3 : IntKind.i64.wrap ((S.size : Int) - 11) = ((m : Nat) : Int) := by rw [hSz, IntWalk.i64_in _ (by omega)]; omega
  have H3 := Lib.hid h3
  clear h3
  have HSz := Lib.hid hSz
  have Hm := Lib.hid hm
  have Hn := Lib.hid hnl
  clear hSz hm hnl
  go_enter Tryz.func7, Tryz.ntmps7
  go_upto_region 2 with (go_at_call 8; (with_reducible refine (CW.out _).mono ?_); rintro e w1 ⟨rfl, hbw1⟩; have hK1 := ((Kept.nil w).new (frA f) 24 w.heap.size rfl).keep hbw1; have rf1 := hK1.head)
  have hK2 := hK1.set (frA (FXo F)) (Nat.le_refl _) (by simp)
  generalize w1.setRow w.heap.size (frA (FXo F)) = W at *
  clear hK1 rf1 hbw1 CW
  have rf := hK2.head
  have hlf := rowAt_lt rf
  go_upto_region 6 with (first
    | (go_at_call 9; (with_reducible refine (CR.out _).mono ?_); rintro e w3 ⟨rfl, hbw3⟩; have hK := hK2.keep hbw3; have rf := hK.head; have hlf := rowAt_lt rf)
    | (go_at_call 12; (with_reducible refine (CB.out _).mono ?_); rintro e w4 ⟨rfl, hbw4⟩; have hK := hK.keep hbw4; have rf := hK.head; have hlf := rowAt_lt rf))
  clear CR CB
  go_cut [5] from 13 to 43 (fun a wc => a = .string T ∧ Kept w [(w.heap.size, frA (FXo F))] wc)
  case first =>
    go_quiet (fail)
    go_wp2
    go_meet
    case rel => exact ⟨by first | rfl | (rw [hct]; done) | (simp [hct]; done), hK.drewN _⟩
  obtain ⟨rfl, hK⟩ := hcut
  clear hct
  have h3 := H3.out
  go_upto_region 7 with fail
  go_cut [1] from 13 to 43 (fun a wc => ∃ j : Nat, 1 ≤ j ∧ j < n ∧ a = .int .i64 (j : Nat) ∧ Kept w [(w.heap.size, frA (FXo F))] wc)
  case first =>
    have hnl := Hn.out
    have hm := Hm.out
    obtain ⟨p, hp, hp2⟩ := rng7 z m (by omega) (by omega)
    have hm0 : ¬ (m : Int) = 0 := by omega
    have hm1 : ¬ m = 0 := by omega
    have h4 : wrap64 (1 + (p : Int)) = ((p + 1 : Nat) : Int) := by rw [IntWalk.wrap64_in _ (by omega)]; omega
    clear hnl hm
    go_wp2
    go_meet
    case rel => exact ⟨p + 1, Nat.le_add_left 1 p, by rw [Hm.out]; exact Nat.succ_lt_succ hp2, by first | rfl | rw [h4], hK⟩
  obtain ⟨a, ha1, ha2, rfl, hK⟩ := hcut
  clear h3 H3 hu44 hu160 hi44 hi160
  have hnl := Hn.out
  have hTr : B.right T = true := by
    rw [← hT]; unfold B.right; simp only [Bool.and_eq_true, decide_eq_true_eq]
    exact ⟨by rw [akA_size, hn]; omega, ackL_all F⟩
  have CT := Lib.hid (fun w => refturn_any T a w (by omega) (by omega) hTr)
  obtain ⟨V, hV⟩ : ∃ V, B.turnB T a = V := ⟨_, rfl⟩
  rw [hV] at CT
  obtain ⟨U, hU⟩ : ∃ U, V ++ (⟨#[49, 49, 49, 49, 49, 49, 49, 49, 49, 49, 49]⟩ : ByteArray) = U := ⟨_, rfl⟩
  have hUl : U.data.toList = tnL F a := by
    rw [← hU, app_list, ← hV, ← hT]; rfl
  have hUz : U.size = n + 21 := by rw [← B.size_len, hUl, tnL_length, hn]
  have hVz : V.size = n + 10 := by rw [← hV, ← hT, ← B.size_len]; show (List.modify _ _ _).length = _; rw [List.length_modify, B.size_len, akA_size, hn]
  have hVo : ¬ 9223372036854775807 < V.size + 11 := by omega
  have HU := Lib.hid hU
  clear hV hT hTz hTr hU hVz
  go_upto_region 9 with (go_at_call 19; (with_reducible refine (CT.out _).mono ?_); rintro e w5 ⟨rfl, hbw5⟩; have hK := hK.keep hbw5; have rf := hK.head; have hlf := rowAt_lt rf)
  rw [HU.out]
  clear hVo HU CT hbw5
  go_upto_region 10 with (go_at_call 11; (with_reducible refine (CY.out _).mono ?_); rintro e w6 ⟨rfl, hbw6⟩; have hK := hK.keep hbw6; have rf := hK.head; have hlf := rowAt_lt rf)
  have hKc := hK.new (ctA B.rdy) 33 w6.heap.size rfl
  have hgc := hK.2.size
  generalize w6.alloc (.cells (ctA B.rdy) 33) = W7 at *
  generalize w6.heap.size = gc at *
  clear hK rf hbw6 CY
  go_upto_region 12 with (go_at_call 10; (with_reducible refine (CA.out _).mono ?_); rintro e w7 ⟨rfl, hbw7⟩; have hKd := hKc.keep hbw7)
  clear CA hbw7 hKc
  have hW : (tnL F a).head? = some 48 := tnL_head F hf a ha1
  have hA : (tnL F a).all B.okc = true := tnL_all F a
  have hne : (tnL F a).take (B.stfF F).length ≠ B.stfF F := tnL_ne F a (by omega)
  have hTl := tnL_length F a
  obtain ⟨Ul, hUl2⟩ : ∃ l, tnL F a = l := ⟨_, rfl⟩
  rw [hUl2] at hW hA hne hTl hUl
  obtain ⟨C, hC⟩ : ∃ C : Nat → B.Cs, ∀ k, B.runC (B.idleC B.cn0 false false false B.noFr) (Ul.take k) = C k := ⟨_, fun _ => rfl⟩
  have hC0 : B.rdy = C 0 := by rw [← hC]; rfl
  have hCr : ∀ k, k ≤ Ul.length → B.RightM (C k) := fun k hk => by rw [← hC]; exact (B.run_lst hW hA false k hk).rt
  have hCn : ∀ (k : Nat) (hk : k < U.size), ((C k).sample U[k]).1 = C (k + 1) ∧ B.okc U[k] = true ∧ ¬ (((C k).sample U[k]).2.kind = 2 ∧ ((C k).sample U[k]).2.fr = F) := by
    intro k hk
    have hk' : k < Ul.length := by omega
    have e : U[k] = Ul[k] := List.getElem_of_eq hUl (by rw [B.size_len]; exact hk)
    rw [e, ← hC k, ← hC (k + 1)]
    refine ⟨?_, List.all_eq_true.1 hA _ (List.getElem_mem hk'), B.turned_no hW hA hTl hne false hk'⟩
    rw [List.take_succ_eq_append_getElem hk', B.runC_snoc]
  rw [hC0] at hKd
  clear hC hW hA hne hUl2 hUl hC0
  rw [hn] at hTl
  go_wp2
  go_loopw [60] (fun i wr => ∃ k : Nat, k ≤ n + 21 ∧ i = .int .i64 k ∧ Kept w [(gc, ctA (C k)), (w.heap.size, frA (FXo F))] wr) (fun i _ => n + 21 - (intOf i).toNat)
  case atStart => exact ⟨0, by omega, rfl, hKd⟩
  case round =>
    obtain ⟨k, hk, rfl, hK⟩ := hrel
    clear hKd
    by_cases hlt : k < n + 21
    · have hltU : k < U.size := by omega
      obtain ⟨hnx, hbit, hno⟩ := hCn k hltU
      have hr := hCr k (by omega)
      obtain ⟨c, hc⟩ : ∃ c, C k = c := ⟨_, rfl⟩
      rw [hc] at hnx hno hr hK
      have CS0 := fun w => sample7 c U[k] w hr hbit
      obtain ⟨d, hd⟩ : ∃ d, (c.sample U[k]).1 = d := ⟨_, rfl⟩
      obtain ⟨v, hv⟩ : ∃ v, (c.sample U[k]).2 = v := ⟨_, rfl⟩
      rw [hd] at CS0 hnx
      rw [hv] at CS0 hno
      have CS := Lib.hid CS0
      have hnext := Lib.hid hnx
      clear CS0 hd hv hc hr hbit hnx
      have q0 : (0 : Int) ≤ (k : Int) := by omega
      have q1 : (k : Int) < (U.size : Int) := by omega
      have hc0 := hK.head
      have hz0 := rowAt_lt hc0
      go_upto_region 15 with fail
      go_cut [10, 11, 12] from 61 to 86 (fun a7 a8 a9 wc => ∃ gx gv : Nat, a7 = .pointer (some ⟨gx, 0, none⟩) ∧ a8 = .pointer (some ⟨gv, 0, none⟩) ∧ a9 = .int .i64 0 ∧ wr.heap.size ≤ gx ∧ wr.heap.size ≤ gv ∧ Kept w ((gx, ctA d) :: (gv, evA v) :: [(gc, ctA c), (w.heap.size, frA (FXo F))]) wc)
      case first =>
        have hlt0 := hK.lt
        have hbz := hK.2.size
        have MK := Lib.hid (show ∀ W, Kept w ([(gc, ctA c), (w.heap.size, frA (FXo F))]) W → (rowAt W gc = some (ctA c) ∧ Kept w ([(gc, ctA c), (w.heap.size, frA (FXo F))]) W) from fun W h => ⟨h.head, h⟩)
        have hnn := Lib.hid (show ∀ g, wr.heap.size ≤ g → ∀ p ∈ ([(gc, ctA c), (w.heap.size, frA (FXo F))]), p.1 ≠ g from fun g hg p hp e => by have := hlt0 p hp; omega)
        go_region_held3 (fun W' => rowAt W' gc = some (ctA c) ∧ Kept w ([(gc, ctA c), (w.heap.size, frA (FXo F))]) W')
          (first | (with_reducible assumption) | (refine MK.out _ ?_; (repeat (first | (with_reducible assumption) | (with_reducible exact (by with_reducible assumption : rowAt _ gc = some (ctA c) ∧ Kept w ([(gc, ctA c), (w.heap.size, frA (FXo F))]) _).2) | (with_reducible refine Kept.drew ?_) | (with_reducible refine Kept.alloc ?_ _) | ((with_reducible refine Kept.row ?_ _ _ ?_ (hnn.out _ ?_)); rotate_left; (focus omega); (focus omega))))))
          (first
            | (go_at_call 14; (with_reducible refine (CS.out _).mono ?_); rintro e w2 ⟨rfl, hb2⟩; have hr2 := rowAt_below hb2; have hz2 := hb2.size; (try simp at hz2); have hS2 := (by with_reducible assumption : rowAt _ gc = some (ctA c) ∧ Kept w ([(gc, ctA c), (w.heap.size, frA (FXo F))]) _).2.keep hb2; have z0 : wr.heap.size ≤ w2.heap.size := (by omega); (try have z1 : wr.heap.size < w2.heap.size := (by omega)); (try have z2 : wr.heap.size + 1 < w2.heap.size := (by omega))))
        all_goals
          go_wp2_with fail
          go_meet
          case rel =>
            refine ⟨_, _, rfl, rfl, rfl, by omega, by omega, Kept.cons (Kept.cons ?_ ?_) ?_⟩
            · (repeat (first | (with_reducible assumption) | (with_reducible exact (by with_reducible assumption : rowAt _ gc = some (ctA c) ∧ Kept w ([(gc, ctA c), (w.heap.size, frA (FXo F))]) _).2) | (with_reducible refine Kept.drew ?_) | (with_reducible refine Kept.alloc ?_ _) | ((with_reducible refine Kept.row ?_ _ _ ?_ (hnn.out _ ?_)); rotate_left; (focus omega); (focus omega))))
            · simp [go_sem, *]
            · simp [go_sem, *]
      clear hc0 hz0 q0 q1 CS hK
      obtain ⟨gx, gv, rfl, rfl, rfl, hgx, hgv, hK2⟩ := hcut
      have rx := hK2.head
      have rv := hK2.tail.head
      have rc := hK2.tail.tail.head
      have rf := hK2.tail.tail.tail.head
      have qv := rowAt_cell rv
      have fv := rowAt_free rv
      have hK9 := hK2.tail.tail.set (ctA d) (by omega) (by simp; omega)
      by_cases hk2 : v.kind = 2
      · have hvf : ¬ v.fr = F := fun e => hno ⟨hk2, e⟩
        have hvx : ¬ FXo v.fr = FXo F := fun e => hvf (FXo_inj.1 e)
        clear hno
        go_wp2
        go_roundw
        case rel => exact ⟨k + 1, by omega, by go_num, by rw [← hnext.out]; exact hK9⟩
        case measure => simp [intOf]; omega
      · clear hno
        go_wp2
        go_roundw
        case rel => exact ⟨k + 1, by omega, by go_num, by rw [← hnext.out]; exact hK9⟩
        case measure => simp [intOf]; omega
    · have hks : k = n + 21 := by omega
      subst hks
      have hB := hK.2
      clear hK
      go_wp2
      go_ret
      exact ⟨rfl, by (repeat (first | (with_reducible assumption) | (with_reducible exact Below.refl _ _) | (with_reducible refine Below.drew ?_) | ((with_reducible refine Below.setCell ?_ ?_ _); rotate_left; (focus (first | omega | (simp; done) | (simp; omega)))) | ((with_reducible refine below_row ?_ ?_ _); rotate_left; (focus (first | omega | (simp; done) | (simp; omega)))) | ((with_reducible refine Below.alloc ?_ ?_ _); rotate_left; (focus (first | omega | (simp; done) | (simp; omega))))))⟩
theorem turned_any7 (f : FX) (z : Int) (w : World) : Calls Tryz.prog 7 #[.agg (frA f), .int .i64 z] w fun e w' => e = .returned (.bool true) ∧ Below w.heap.size w w' := by
  cases hm : f.cut.may
  · exact turned_no7 f z w f.cut rfl hm
  · obtain ⟨F, hf, hF⟩ := FX.of_may hm
    exact turned_yes7 f z w F hF hf
end Go.Proofs.YtcaeobkaoebndaaGreat
