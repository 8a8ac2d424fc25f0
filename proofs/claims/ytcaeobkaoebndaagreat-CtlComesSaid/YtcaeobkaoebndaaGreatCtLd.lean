/- Layer 7: the law CtlComes, where both frames may be. -/
import Derived.Test.YtcaeobkaoebndaaGreatCtLc
import Derived.Test.YtcaeobkaoebndaaGreatCtL5
namespace Go.Proofs.YtcaeobkaoebndaaGreat
open Go.RowKit Go.Lib
attribute [local go_sem ↓] ld_ct st_ct ld_ev st_ev ld_ma st_ma bd_ma
attribute [local go_sem] ldCt_at stCt_at ldEv_at stEv_at ldMa_at stMa_at bdMa_at ldp_ct ldp_ma ldp_ev ldp_mev stp_ct stp_ma stp_ev stp_mev stp_mm zero_ct zero_ev zero_ma ev_err ev_sent
attribute [local go_sem] rowAt_drew rowAt_drewN rowAt_new rowAt_past rowAt_setRow rowAt_setRow_other rowAt_setCell_other rowAt_setCell_map cell_setRow free_setRow cell_setRow_other free_setRow_other setRow_alloc_at setRow_alloc_past
attribute [local go_sem] ctA_0 ctA_1 ctA_2 ctA_3 ctA_4 ctA_5 ctA_6 ctA_7 ctA_8 ctA_9 ctA_10 ctA_11 ctA_12 ctA_13 ctA_14 ctA_15 ctA_16 ctA_17 ctA_18 ctA_19 ctA_20 ctA_21 ctA_22 evA_0 evA_1 evA_2 evA_3 evA_4 evA_5 evA_6 mA_0 mA_1 mA_2 mA_3 mA_4 mA_5 mA_6 mA_7 mA_8 mA_9 mA_10 mA_11 mA_12 mA_13 mA_14 mA_15 mA_16 mA_17 mA_18 mA_19 mA_20 mA_21 mA_22 mA_23 mA_24 mA_25 mA_26 mA_27 mA_28 mA_29
attribute [local go_sem] ctA_set0 ctA_set0_0 ctA_set1_0 ctA_suc0 ctA_set1 ctA_set0_1 ctA_set1_1 ctA_suc1 ctA_set2 ctA_set3 ctA_set0_3 ctA_set1_3 ctA_suc3 ctA_set4 ctA_set0_4 ctA_set1_4 ctA_suc4 ctA_set5 ctA_set0_5 ctA_set1_5 ctA_suc5 ctA_set6 ctA_set7 ctA_set8 ctA_set9 ctA_set0_9 ctA_set1_9 ctA_suc9 ctA_set10 ctA_set11 ctA_set12 ctA_set0_12 ctA_set1_12 ctA_suc12 ctA_set13 ctA_set14 ctA_set15 ctA_set16 ctA_set0_16 ctA_set1_16 ctA_suc16 ctA_set17 ctA_set0_17 ctA_set1_17 ctA_suc17 ctA_set18 ctA_set0_18 ctA_set1_18 ctA_suc18 ctA_set19 ctA_set20 ctA_set21 ctA_set0_21 ctA_set1_21 ctA_suc21 ctA_set22 mA_set0 mA_set0_0 mA_set1_0 mA_suc0 mA_set1 mA_set0_1 mA_set1_1 mA_suc1 mA_set2 mA_set3 mA_set0_3 mA_set1_3 mA_suc3 mA_set4 mA_set0_4 mA_set1_4 mA_suc4 mA_set5 mA_set0_5 mA_set1_5 mA_set1000000000_5 mA_suc5 mA_set6 mA_set7 mA_set8 mA_set9 mA_set0_9 mA_set1_9 mA_suc9 mA_set10 mA_set11 mA_set12 mA_set0_12 mA_set1_12 mA_suc12 mA_set13 mA_set14 mA_set15 mA_set16 mA_set0_16 mA_set1_16 mA_suc16 mA_set17 mA_set0_17 mA_set1_17 mA_set48_17 mA_suc17 mA_set18 mA_set0_18 mA_set1_18 mA_suc18 mA_set19 mA_set20 mA_set21 mA_set0_21 mA_set1_21 mA_suc21 mA_set22 evA_set0 evA_set0_0 evA_set1_0 evA_set2_0 evA_set3_0 evA_set4_0 evA_suc0 evA_set1 evA_set0_1 evA_set1_1 evA_suc1 evA_set2 evA_set3 evA_set4 evA_set0_4 evA_set1_4 evA_suc4 evA_set5 evA_set6 evA_set0_6 evA_set1_6 evA_set14_6 evA_suc6 mA_set23 mA_set0_23 mA_set1_23 mA_set2_23 mA_set3_23 mA_set4_23 mA_suc23 mA_set24 mA_set0_24 mA_set1_24 mA_suc24 mA_set25 mA_set26 mA_set27 mA_set0_27 mA_set1_27 mA_suc27 mA_set28 mA_set29 mA_set0_29 mA_set1_29 mA_suc29
attribute [local go_sem ↓] ld_fr st_fr
attribute [local go_sem] ldFr_at stFr_at ldp_fr ldp_ctf ldp_evf stp_fr zero_fr frA_0 frA_1 frA_2 frA_3 frA_4 frA_set4 neq_fr eql_fr
attribute [local go_sem ↓] eql_fr neq_fr bs_fr
attribute [local go_sem] bsF_at
set_option maxRecDepth 100000 in
set_option maxHeartbeats 8000000 in
theorem comes_yes (f g f1 g1 : FX) (w : World) (F G : B.Fr) (hf1 : f.cut = f1) (hg1 : g.cut = g1) (hF : f1 = FXo F) (hG : g1 = FXo G) (hf : B.FrR F) (hg : B.FrR G) : Calls Tryz.prog 3 #[.agg (frA f), .agg (frA g)] w fun e w' => e = .returned (.bool true) ∧ Below w.heap.size w w' := by
  have CF := Lib.hid (fun w => few7 f w)
  rw [hf1] at CF
  have CG := Lib.hid (fun w => few7 g w)
  rw [hg1] at CG
  have CA := Lib.hid (fun w => alive7 w)
  have CY := Lib.hid (fun w => ready_any w)
  have CR := Lib.hid (show ∀ w, Calls Tryz.prog 9 #[.agg (frA f1)] w (fun e w' => e = .returned (.bool true) ∧ Below w.heap.size w w') from fun w => hF ▸ refr7_yes hf w)
  have CR2 := Lib.hid (show ∀ w, Calls Tryz.prog 9 #[.agg (frA g1)] w (fun e w' => e = .returned (.bool true) ∧ Below w.heap.size w w') from fun w => hG ▸ refr7_yes hg w)
  have HF := Lib.hid hF
  have HG := Lib.hid hG
  clear hf1 hg1 hF hG
  go_enter Tryz.func3, Tryz.ntmps3
  have hK0 : Kept w [(w.heap.size, frA f), (w.heap.size + 1, frA g)] ((w.alloc (.cells (frA f) 24)).alloc (.cells (frA g) 24)) := by
    have h2 := ((Kept.nil w).new (frA f) 24 w.heap.size rfl).new (frA g) 24 (w.heap.size + 1) (by simp)
    exact Kept.cons (Kept.cons (Kept.mk0 h2.2) h2.head) h2.tail.head
  go_upto_region 1 with fail
  generalize (w.alloc (.cells (frA f) 24)).alloc (.cells (frA g) 24) = W0 at *
  go_cut [4] from 19 to 22 (fun a wc => a = .bool false ∧ Kept w [(w.heap.size, frA f1), (w.heap.size + 1, frA g1)] wc)
  case first =>
    have r0 := hK0.head
    have r1 := hK0.tail.head
    have l0 := rowAt_lt r0
    have l1 := rowAt_lt r1
    have n01 : ¬ w.heap.size = w.heap.size + 1 := by omega
    have n10 : ¬ w.heap.size + 1 = w.heap.size := by omega
    have hK := hK0
    clear hK0
    go_region_with (first
      | (go_at_call 8; (with_reducible refine (CF.out _).mono ?_); rintro e w1 ⟨rfl, hbw1⟩; have hK := (by first | (with_reducible assumption) | (with_reducible refine Kept.drew ?_; with_reducible assumption) | (with_reducible refine Kept.keep (Kept.drew ?_) hbw2; with_reducible assumption) : Kept w [(w.heap.size, frA f), (w.heap.size + 1, frA g)] _).keep hbw1; have r0 := hK.head; have r1 := hK.tail.head; have l0 := rowAt_lt r0; have l1 := rowAt_lt r1)
      | (go_at_call 8; (with_reducible refine (CG.out _).mono ?_); rintro e w2 ⟨rfl, hbw2⟩; have hK := (by first | (with_reducible assumption) | (with_reducible refine Kept.drew ?_; with_reducible assumption) : Kept w [(w.heap.size, frA f), (w.heap.size + 1, frA g)] _).keep hbw2; have r0 := hK.head; have r1 := hK.tail.head; have l0 := rowAt_lt r0; have l1 := rowAt_lt r1))
    all_goals
      go_wp2
      go_meet
      case rel =>
        have h1 := hK.set (frA f1) (Nat.le_refl _) (by simp)
        have h2 := h1.tail.set (frA g1) (by omega) (by simp)
        exact ⟨rfl, h2.cons ((rowAt_setRow_other _ _ _ _ (by omega : w.heap.size ≠ w.heap.size + 1)).trans h1.head)⟩
  obtain ⟨rfl, hK⟩ := hcut
  clear hK0 CF CG
  have r0 := hK.head
  have r1 := hK.tail.head
  have l0 := rowAt_lt r0
  have l1 := rowAt_lt r1
  go_upto_region 4 with (first
    | (go_at_call 9; (with_reducible refine (CR.out _).mono ?_); rintro e w3 ⟨rfl, hbw3⟩; have hK := hK.keep hbw3; have r0 := hK.head; have r1 := hK.tail.head; have l0 := rowAt_lt r0; have l1 := rowAt_lt r1)
    | (go_at_call 9; (with_reducible refine (CR2.out _).mono ?_); rintro e w4 ⟨rfl, hbw4⟩; have hK := hK.keep hbw4; have r0 := hK.head; have r1 := hK.tail.head; have l0 := rowAt_lt r0; have l1 := rowAt_lt r1))
  clear CR CR2
  go_upto_region 5 with (go_at_call 11; (with_reducible refine (CY.out _).mono ?_); rintro e w5 ⟨rfl, hbw5⟩; have hK := hK.keep hbw5; have r0 := hK.head; have r1 := hK.tail.head; have l0 := rowAt_lt r0; have l1 := rowAt_lt r1)
  have hKc := hK.new (ctA B.rdy) 33 w5.heap.size rfl
  have hgc := hK.2.size
  generalize w5.alloc (.cells (ctA B.rdy) 33) = W6 at *
  have hg1 : w.heap.size + 1 < w5.heap.size := l1
  generalize w5.heap.size = gc at *
  clear hK CY
  go_upto_region 7 with (go_at_call 10; (with_reducible refine (CA.out _).mono ?_); rintro e w6 ⟨rfl, hbw6⟩; have hK := hKc.keep hbw6; have r0 := hK.tail.head; have r1 := hK.tail.tail.head; have l0 := rowAt_lt r0; have l1 := rowAt_lt r1)
  clear CA hKc
  clear hbw6
  have rc := hK.head
  have hlc := rowAt_lt rc
  go_upto_region 8 with fail
  have h := hK.new (fr2 f1 g1) 24 w6.heap.size rfl
  have hK7 := Kept.cons (Kept.cons (Kept.mk0 h.2) h.head) h.tail.head
  clear h
  generalize w6.alloc (.cells (fr2 f1 g1) 24) = W7 at *
  have hgs : gc ≠ w6.heap.size := by omega
  have hgs2 : gc < w6.heap.size := hlc
  generalize w6.heap.size = gs at *
  clear hK rc r0 r1 hlc l0 l1
  go_wp2
  go_loopw [46] (fun i wr => ∃ k : Nat, k ≤ 2 ∧ i = .int .i64 k ∧ Kept w [(gc, ctA B.rdy), (gs, fr2 f1 g1)] wr) (fun i _ => 2 - (intOf i).toNat)
  case atStart => exact ⟨0, by omega, rfl, hK7⟩
  case round =>
    obtain ⟨k, hk, rfl, hK⟩ := hrel
    clear hK7
    by_cases hlt : k < 2
    · obtain ⟨X, hX, hXe⟩ : ∃ X, B.FrR X ∧ (if k = 0 then f1 else g1) = FXo X := by
        by_cases e : k = 0
        · exact ⟨F, hf, by rw [if_pos e]; exact HF.out⟩
        · exact ⟨G, hg, by rw [if_neg e]; exact HG.out⟩
      have hl2 := ldp_fr2 f1 g1 k hlt
      rw [hXe] at hl2
      clear hXe
      have rs := hK.tail.head
      have rc := hK.head
      have hls := rowAt_lt rs
      have hlc := rowAt_lt rc
      obtain ⟨S, hS⟩ : ∃ S, bsA X = S := ⟨_, rfl⟩
      obtain ⟨T, hT⟩ : ∃ T, akA X = T := ⟨_, rfl⟩
      have CB0 := fun w => refbits7 hX w
      rw [hS] at CB0
      have CB := Lib.hid CB0
      clear CB0
      obtain ⟨n, hn⟩ : ∃ n, (B.stfF X).length = n := ⟨_, rfl⟩
      have hSz : S.size = n + 10 := by rw [← hS, bsA_size, hn]
      have hTz : T.size = n + 10 := by rw [← hT, akA_size, hn]
      have hct : S.extract 0 (S.size - 9) ++ (⟨#[48]⟩ : ByteArray) ++ S.extract (S.size - 8) S.size = T := by
        have := ack_cut X
        rw [hS, hT, hn] at this
        rw [hSz]
        exact this
      have hnl := B.stfF_length hX
      rw [hn] at hnl
      have hu44 : 44 ≤ S.size := by omega
      have hu160 : S.size ≤ 160 := by omega
      have hi44 : ¬ (S.size : Int) < 44 := by omega
      have hi160 : ¬ (160 : Int) < S.size := by omega
      have HSz := Lib.hid hSz
      have Hn := Lib.hid hnl
      clear hSz hnl hS
      go_upto_region 10 with fail
      have h := hK.new (frA (FXo X)) 24 wr.heap.size rfl
      have hK1 := Kept.cons (Kept.cons (Kept.cons (Kept.mk0 h.2) h.tail.tail.head) h.head) h.tail.head
      clear h
      generalize wr.alloc (.cells (frA (FXo X)) 24) = W8 at *
      have hgb : gc < wr.heap.size := hlc
      have hgb2 : gs < wr.heap.size := hls
      generalize wr.heap.size = gb at *
      clear hK rs rc hls hlc hl2
      have rb := hK1.tail.head
      have hlb := rowAt_lt rb
      go_upto_region 12 with (go_at_call 12; (with_reducible refine (CB.out _).mono ?_); rintro e w8 ⟨rfl, hbw8⟩; have hK := hK1.keep hbw8)
      clear CB rb hlb
      go_cut [9] from 47 to 144 (fun a wc => a = .string T ∧ Kept w [(gc, ctA B.rdy), (gb, frA (FXo X)), (gs, fr2 f1 g1)] wc)
      case first =>
        go_quiet (fail)
        go_wp2
        go_meet
        case rel => exact ⟨by first | rfl | (rw [hct]; done) | (simp [hct]; done), hK.drewN _⟩
      clear hbw8 hK1 hK
      obtain ⟨rfl, hK⟩ := hcut
      clear hct
      have hKa : Kept w [(gc, ctA (cmC X 0)), (gb, frA (FXo X)), (gs, fr2 f1 g1)] wc := hK
      clear hK hu44 hu160 hi44 hi160
      go_wp2
      go_loopw [65] (fun i wq => ∃ j : Nat, j ≤ n + 10 ∧ i = .int .i64 j ∧ Kept w [(gc, ctA (cmC X j)), (gb, frA (FXo X)), (gs, fr2 f1 g1)] wq) (fun i _ => n + 10 - (intOf i).toNat)
      case atStart => exact ⟨0, by omega, rfl, hKa⟩
      case round =>
        obtain ⟨j, hj, rfl, hK⟩ := hrel
        clear hKa
        by_cases hjl : j < n + 10
        · have hjS : (j : Int) < (S.size : Int) := by have := HSz.out; omega
          have hjF : j < (B.stfF X).length + 10 := by omega
          have hj2 : j < 1000 := by have := Hn.out; omega
          have hsm := cm_sample X hX j hjF
          have hdr := cm_drive X hX j hjF
          have hok := cm_okc X j hjF
          have hr := cm_right X hX j (by omega)
          obtain ⟨c, hc⟩ : ∃ c, cmC X j = c := ⟨_, rfl⟩
          obtain ⟨d, hd⟩ : ∃ d, cmC X (j + 1) = d := ⟨_, rfl⟩
          obtain ⟨v, hv⟩ : ∃ v : B.Ev, (if j = (B.stfF X).length + 8 then (⟨2, X, 0⟩ : B.Ev) else B.ev0) = v := ⟨_, rfl⟩
          obtain ⟨b, hb⟩ : ∃ b : Nat, (if j = (B.stfF X).length + 1 then 48 else 49) = b := ⟨_, rfl⟩
          have hjT : j < T.size := by omega
          have eT : (akA X)[j]'(by rw [akA_size]; exact hjF) = T[j] := by congr 1
          rw [eT] at hsm hok
          rw [hc] at hsm hdr hr hK
          rw [hd, hv] at hsm
          rw [hb] at hdr
          rw [hn] at hv hb
          have CD0 := fun w => drive7 c w hr
          rw [hdr] at CD0
          have CS0 := fun w => sample7 c T[j] w hr hok
          rw [hsm] at CS0
          have CD := Lib.hid CD0
          have CS := Lib.hid CS0
          have Hv := Lib.hid hv
          have Hb := Lib.hid hb
          clear CD0 CS0 hsm hdr hok hr hc eT hv hb
          have rc := hK.head
          have hlc := rowAt_lt rc
          have q0 : (0 : Int) ≤ (j : Int) := by omega
          have q1 : (j : Int) < (T.size : Int) := by omega
          go_upto_region 17 with (go_at_call 13; (with_reducible refine (CD.out _).mono ?_); rintro e w9 ⟨rfl, hbw9⟩; have hK := hK.keep hbw9; have rc := hK.head; have hlc := rowAt_lt rc)
          have hc0 := rc
          have hz0 := hlc
          clear hbw9 CD rc hlc
          go_cut [14, 15, 16] from 66 to 124 (fun a7 a8 a9 wc => ∃ gx gv : Nat, a7 = .pointer (some ⟨gx, 0, none⟩) ∧ a8 = .pointer (some ⟨gv, 0, none⟩) ∧ a9 = .int .i64 0 ∧ w9.heap.size ≤ gx ∧ w9.heap.size ≤ gv ∧ Kept w ((gx, ctA d) :: (gv, evA v) :: [(gc, ctA c), (gb, frA (FXo X)), (gs, fr2 f1 g1)]) wc)
          case first =>
            have hlt0 := hK.lt
            have hbz := hK.2.size
            have MK := Lib.hid (show ∀ W, Kept w ([(gc, ctA c), (gb, frA (FXo X)), (gs, fr2 f1 g1)]) W → (rowAt W gc = some (ctA c) ∧ Kept w ([(gc, ctA c), (gb, frA (FXo X)), (gs, fr2 f1 g1)]) W) from fun W h => ⟨h.head, h⟩)
            have hnn := Lib.hid (show ∀ g, w9.heap.size ≤ g → ∀ p ∈ ([(gc, ctA c), (gb, frA (FXo X)), (gs, fr2 f1 g1)]), p.1 ≠ g from fun g hg p hp e => by have := hlt0 p hp; omega)
            go_region_held3 (fun W' => rowAt W' gc = some (ctA c) ∧ Kept w ([(gc, ctA c), (gb, frA (FXo X)), (gs, fr2 f1 g1)]) W')
              (first | (with_reducible assumption) | (refine MK.out _ ?_; (repeat (first | (with_reducible assumption) | (with_reducible exact (by with_reducible assumption : rowAt _ gc = some (ctA c) ∧ Kept w ([(gc, ctA c), (gb, frA (FXo X)), (gs, fr2 f1 g1)]) _).2) | (with_reducible refine Kept.drew ?_) | (with_reducible refine Kept.alloc ?_ _) | ((with_reducible refine Kept.row ?_ _ _ ?_ (hnn.out _ ?_)); rotate_left; (focus omega); (focus omega))))))
              (first
                | (go_at_call 14; (with_reducible refine (CS.out _).mono ?_); rintro e w2 ⟨rfl, hb2⟩; have hr2 := rowAt_below hb2; have hz2 := hb2.size; (try simp at hz2); have hS2 := (by with_reducible assumption : rowAt _ gc = some (ctA c) ∧ Kept w ([(gc, ctA c), (gb, frA (FXo X)), (gs, fr2 f1 g1)]) _).2.keep hb2; have z0 : w9.heap.size ≤ w2.heap.size := (by omega); (try have z1 : w9.heap.size < w2.heap.size := (by omega)); (try have z2 : w9.heap.size + 1 < w2.heap.size := (by omega))))
            all_goals
              go_wp2_with fail
              go_meet
              case rel =>
                refine ⟨_, _, rfl, rfl, rfl, by omega, by omega, Kept.cons (Kept.cons ?_ ?_) ?_⟩
                · (repeat (first | (with_reducible assumption) | (with_reducible exact (by with_reducible assumption : rowAt _ gc = some (ctA c) ∧ Kept w ([(gc, ctA c), (gb, frA (FXo X)), (gs, fr2 f1 g1)]) _).2) | (with_reducible refine Kept.drew ?_) | (with_reducible refine Kept.alloc ?_ _) | ((with_reducible refine Kept.row ?_ _ _ ?_ (hnn.out _ ?_)); rotate_left; (focus omega); (focus omega))))
                · simp [go_sem, *]
                · simp [go_sem, *]
          clear hc0 hz0 q0 q1 CS hK
          obtain ⟨gx, gv, rfl, rfl, rfl, hgx, hgv, hK2⟩ := hcut
          go_upto_region 18 with fail
          go_cut [122] from 66 to 124 (fun a wc => a = .bool false ∧ Kept w [(gx, ctA d), (gv, evA v), (gc, ctA c), (gb, frA (FXo X)), (gs, fr2 f1 g1)] wc)
          case first =>
            have rv := hK2.tail.head
            have rb := hK2.tail.tail.tail.head
            have qv := rowAt_cell rv
            have fv := rowAt_free rv
            have hz := HSz.out
            have hnn := Hn.out
            by_cases h8 : j = n + 8
            · have hve := Hv.out
              have hbe := Hb.out
              rw [if_pos h8] at hve
              rw [if_neg (by omega)] at hbe
              have hvk : v.kind = 2 := by rw [← hve]
              have hvf : v.fr = X := by rw [← hve]
              have b9 : ((j : Int) == wrap64 ((S.size : Int) - 9)) = false := by rw [beq_eq_false_iff_ne, IntWalk.wrap64_in _ (by omega)]; omega
              have b2 : ((j : Int) == wrap64 ((S.size : Int) - 2)) = true := by rw [beq_iff_eq, IntWalk.wrap64_in _ (by omega)]; omega
              subst hbe
              clear hve h8 hz hnn
              go_wp2
              go_meet
              case rel => exact ⟨by first | rfl | (simp; done) | (simp; omega), hK2⟩
            · have hve := Hv.out
              rw [if_neg h8] at hve
              have hvk : v.kind = 0 := by rw [← hve]; rfl
              have b2 : ((j : Int) == wrap64 ((S.size : Int) - 2)) = false := by rw [beq_eq_false_iff_ne, IntWalk.wrap64_in _ (by omega)]; omega
              by_cases h1 : j = n + 1
              · have hbe := Hb.out
                rw [if_pos h1] at hbe
                have b9 : ((j : Int) == wrap64 ((S.size : Int) - 9)) = true := by rw [beq_iff_eq, IntWalk.wrap64_in _ (by omega)]; omega
                subst hbe
                clear hve h8 h1 hz hnn
                go_wp2
                go_meet
                case rel => exact ⟨by first | rfl | (simp; done) | (simp; omega), hK2⟩
              · have hbe := Hb.out
                rw [if_neg h1] at hbe
                have b9 : ((j : Int) == wrap64 ((S.size : Int) - 9)) = false := by rw [beq_eq_false_iff_ne, IntWalk.wrap64_in _ (by omega)]; omega
                subst hbe
                clear hve h8 h1 hz hnn
                go_wp2
                go_meet
                case rel => exact ⟨by first | rfl | (simp; done) | (simp; omega), hK2⟩
          clear hK2
          obtain ⟨rfl, hK2⟩ := hcut
          have rx := hK2.head
          have rc := hK2.tail.tail.head
          have hK9 := hK2.tail.tail.set (ctA d) (by omega) (by simp; omega)
          go_wp2
          go_roundw
          case rel => exact ⟨j + 1, by omega, by go_num, by rw [hd]; exact hK9⟩
          case measure => simp [intOf]; omega
        · have hks : j = n + 10 := by omega
          have hjS : ¬ (j : Int) < (S.size : Int) := by have := HSz.out; omega
          subst hks
          have hr := cm_right X hX (n + 10) (by omega)
          have he := cm_end X hX
          rw [hn] at he
          obtain ⟨c, hc⟩ : ∃ c, cmC X (n + 10) = c := ⟨_, rfl⟩
          rw [hc] at hK hr he
          have CE := Lib.hid (show ∀ w, Calls Tryz.prog 15 #[.agg (ctA c), .string ⟨#[49, 49, 49]⟩] w (fun e w' => e = .returned (.tuple #[.agg (ctA B.rdy), .bool true]) ∧ Below w.heap.size w w') from fun w => by
            have := feed_any c ⟨#[49, 49, 49]⟩ w hr (by decide) (by decide)
            rwa [show B.runC c (⟨#[49, 49, 49]⟩ : ByteArray).data.toList = B.rdy from he] at this)
          clear hr he hc
          have rc := hK.head
          have hlc := rowAt_lt rc
          have hst : B.rdy.state = 1 := rfl
          have hcn : B.rdy.cnt = ⟨0, 0, false, 0⟩ := rfl
          go_upto_region 23 with (go_at_call 15; (with_reducible refine (CE.out _).mono ?_); rintro e wa ⟨rfl, hbwa⟩; have hK := hK.keep hbwa)
          have h := hK.new (ctA B.rdy) 33 wa.heap.size rfl
          have hK3 := Kept.cons (Kept.cons (Kept.cons (Kept.mk0 h.2) h.tail.tail.tail.head) h.tail.head) h.head
          clear h
          have hlc2 := rowAt_lt hK.head
          generalize wa.alloc (.cells (ctA B.rdy) 33) = Wb at *
          generalize wa.heap.size = gd at *
          clear hK rc hlc CE
          have rd := hK3.head
          have rc := hK3.tail.head
          have qd := rowAt_cell rd
          have fd := rowAt_free rd
          have hK9 := hK3.tail.set (ctA B.rdy) (by omega) (by simp; omega)
          go_wp2
          go_roundw
          case rel => exact ⟨k + 1, by omega, by go_num, hK9⟩
          case measure => simp [intOf]; omega
    · have hks : k = 2 := by omega
      subst hks
      have hB := hK.2
      clear hK
      go_wp2
      go_ret
      exact ⟨rfl, by (repeat (first | (with_reducible assumption) | (with_reducible exact Below.refl _ _) | (with_reducible refine Below.drew ?_) | ((with_reducible refine Below.setCell ?_ ?_ _); rotate_left; (focus (first | omega | (simp; done) | (simp; omega)))) | ((with_reducible refine below_row ?_ ?_ _); rotate_left; (focus (first | omega | (simp; done) | (simp; omega)))) | ((with_reducible refine Below.alloc ?_ ?_ _); rotate_left; (focus (first | omega | (simp; done) | (simp; omega))))))⟩
theorem comes_any (f g : FX) (w : World) : Calls Tryz.prog 3 #[.agg (frA f), .agg (frA g)] w fun e w' => e = .returned (.bool true) ∧ Below w.heap.size w w' := by
  cases hm : f.cut.may
  · exact comes_no1 f g _ _ w rfl rfl hm
  · cases hm2 : g.cut.may
    · exact comes_no2 f g _ _ w rfl rfl hm hm2
    · obtain ⟨F, hf, hF⟩ := FX.of_may hm
      obtain ⟨G, hg, hG⟩ := FX.of_may hm2
      exact comes_yes f g _ _ w F G rfl rfl hF hG hf hg
end Go.Proofs.YtcaeobkaoebndaaGreat
