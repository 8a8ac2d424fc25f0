/- Layer 7: isGot, isEnd. -/
import Derived.Test.YtcaeobkaoebndaaGreatCtC
namespace Go.Proofs.YtcaeobkaoebndaaGreat
open Go.RowKit Go.Lib
attribute [local go_sem ↓] ld_ct st_ct ld_ev st_ev ld_ma st_ma bd_ma
attribute [local go_sem] ldCt_at stCt_at ldEv_at stEv_at ldMa_at stMa_at bdMa_at ldp_ct ldp_ma ldp_ev ldp_mev stp_ct stp_ma stp_ev stp_mev stp_mm zero_ct zero_ev zero_ma ev_err ev_sent
attribute [local go_sem] rowAt_drew rowAt_drewN rowAt_new rowAt_past rowAt_setRow rowAt_setRow_other rowAt_setCell_other rowAt_setCell_map cell_setRow free_setRow cell_setRow_other free_setRow_other setRow_alloc_at setRow_alloc_past
attribute [local go_sem] ctA_0 ctA_1 ctA_2 ctA_3 ctA_4 ctA_5 ctA_6 ctA_7 ctA_8 ctA_9 ctA_10 ctA_11 ctA_12 ctA_13 ctA_14 ctA_15 ctA_16 ctA_17 ctA_18 ctA_19 ctA_20 ctA_21 ctA_22 evA_0 evA_1 evA_2 evA_3 evA_4 evA_5 evA_6 mA_0 mA_1 mA_2 mA_3 mA_4 mA_5 mA_6 mA_7 mA_8 mA_9 mA_10 mA_11 mA_12 mA_13 mA_14 mA_15 mA_16 mA_17 mA_18 mA_19 mA_20 mA_21 mA_22 mA_23 mA_24 mA_25 mA_26 mA_27 mA_28 mA_29
attribute [local go_sem] ctA_set0 ctA_set0_0 ctA_set1_0 ctA_suc0 ctA_set1 ctA_set0_1 ctA_set1_1 ctA_suc1 ctA_set2 ctA_set3 ctA_set0_3 ctA_set1_3 ctA_suc3 ctA_set4 ctA_set0_4 ctA_set1_4 ctA_suc4 ctA_set5 ctA_set0_5 ctA_set1_5 ctA_suc5 ctA_set6 ctA_set7 ctA_set8 ctA_set9 ctA_set0_9 ctA_set1_9 ctA_suc9 ctA_set10 ctA_set11 ctA_set12 ctA_set0_12 ctA_set1_12 ctA_suc12 ctA_set13 ctA_set14 ctA_set15 ctA_set16 ctA_set0_16 ctA_set1_16 ctA_suc16 ctA_set17 ctA_set0_17 ctA_set1_17 ctA_suc17 ctA_set18 ctA_set0_18 ctA_set1_18 ctA_suc18 ctA_set19 ctA_set20 ctA_set21 ctA_set0_21 ctA_set1_21 ctA_suc21 ctA_set22 mA_set0 mA_set0_0 mA_set1_0 mA_suc0 mA_set1 mA_set0_1 mA_set1_1 mA_suc1 mA_set2 mA_set3 mA_set0_3 mA_set1_3 mA_suc3 mA_set4 mA_set0_4 mA_set1_4 mA_suc4 mA_set5 mA_set0_5 mA_set1_5 mA_set1000000000_5 mA_suc5 mA_set6 mA_set7 mA_set8 mA_set9 mA_set0_9 mA_set1_9 mA_suc9 mA_set10 mA_set11 mA_set12 mA_set0_12 mA_set1_12 mA_suc12 mA_set13 mA_set14 mA_set15 mA_set16 mA_set0_16 mA_set1_16 mA_suc16 mA_set17 mA_set0_17 mA_set1_17 mA_set48_17 mA_suc17 mA_set18 mA_set0_18 mA_set1_18 mA_suc18 mA_set19 mA_set20 mA_set21 mA_set0_21 mA_set1_21 mA_suc21 mA_set22 evA_set0 evA_set0_0 evA_set1_0 evA_set2_0 evA_set3_0 evA_set4_0 evA_suc0 evA_set1 evA_set0_1 evA_set1_1 evA_suc1 evA_set2 evA_set3 evA_set4 evA_set0_4 evA_set1_4 evA_suc4 evA_set5 evA_set6 evA_set0_6 evA_set1_6 evA_set14_6 evA_suc6 mA_set23 mA_set0_23 mA_set1_23 mA_set2_23 mA_set3_23 mA_set4_23 mA_suc23 mA_set24 mA_set0_24 mA_set1_24 mA_suc24 mA_set25 mA_set26 mA_set27 mA_set0_27 mA_set1_27 mA_suc27 mA_set28 mA_set29 mA_set0_29 mA_set1_29 mA_suc29

theorem size7 {l : List UInt8} (ha : l.all B.okc = true) (hl : l.length ≤ 4000) (w : World) : Calls Tryz.prog 64 #[.string (strB l)] w fun e w' => e = .returned (.tuple #[.int .i64 ((B.sizeL l).1 : Nat), .int .i64 ((B.sizeL l).2 : Nat)]) ∧ Below w.heap.size w w' := by
  have := size4_any (strB l) w (strB_right ha (by omega))
  rwa [list_of] at this
theorem strB_at (l : List UInt8) (i : Nat) (h : i < (strB l).size) : (strB l)[i] = l[i]'(by rwa [strB_size] at h) := rfl
set_option maxRecDepth 100000 in
theorem isgot_any (c : B.Cs) (w : World) (h : B.FrameM c) : Calls Tryz.prog 40 #[.agg (ctA c)] w fun e w' => e = .returned (.bool true) ∧ Below w.heap.size w w' := by
  have hl := B.got_len h.fit h.size
  have hn := B.size_le c.got
  have h1 : 1 ≤ c.got.length := by
    cases e : c.got with
    | nil => have := h.head; rw [e] at this; cases this
    | cons a b => simp
  have hg0 : ((strB c.got)[0]'(by rw [strB_size]; omega)).toNat = 48 := by
    rw [strB_at]
    have := h.head
    rw [List.head?_eq_getElem?, List.getElem?_eq_getElem (by omega)] at this
    rw [Option.some.inj this]; rfl
  have CS := Lib.hid (fun w => size7 h.all (by omega) w)
  have CR : Hid (∀ w, Calls Tryz.prog 63 #[.agg #[.int .u8 (c.st.1 : Nat), .int .i64 (c.st.2 : Nat)]] w fun e w' => e = .returned (.bool true) ∧ Below w.heap.size w w') := Lib.hid (fun w => by
    have := right3_any c.st.1 (c.st.2 : Nat) w
    rwa [mayB_of h.may] at this)
  have hs1 : (((c.st.2 : Nat) : Int) == 0) = false := by have := h.one; rw [beq_eq_false_iff_ne]; omega
  have hg1 : (((c.got.length : Nat) : Int) == 0) = false := by rw [beq_eq_false_iff_ne]; omega
  have hg2 : decide ((200 : Int) < ((c.got.length : Nat) : Int)) = false := by rw [decide_eq_false_iff_not]; omega
  have hfit := h.fit
  have hsize := h.size
  have hz : (B.sizeL c.got).2 = 0 ∨ (B.sizeL c.got).2 = 3 ∨ (B.sizeL c.got).2 = 12 := by rcases B.size_err c.got with e | e | e <;> simp [e]
  clear h
  obtain ⟨n, en⟩ : ∃ n, n = (B.sizeL c.got).1 := ⟨_, rfl⟩
  obtain ⟨z, ez⟩ : ∃ n, n = (B.sizeL c.got).2 := ⟨_, rfl⟩
  rw [← en] at CS hn hfit
  rw [← ez] at CS hfit hsize hz
  clear en ez
  rcases (by omega : z = 0 ∨ z = 3) with rfl | rfl
  · have h2 : decide (((c.got.length : Nat) : Int) ≤ (n : Int) + 15) = true := by rw [decide_eq_true_eq]; have := hfit rfl; omega
    clear hfit hsize hz
    go_enter Tryz.func40, Tryz.ntmps40
    go_wp2_with (first
      | (go_at_call 63; (with_reducible refine (CR.out _).mono ?_); rintro e w1 ⟨rfl, hbw1⟩; obtain ⟨hcw1, hfw1, hrw1⟩ := bcell7 hbw1; have hzw1 : w.heap.size < w1.heap.size := (by have h := hbw1.size; (try simp at h); omega); have hBw1 : Below w.heap.size w w1 := ((Below.refl w.heap.size w).alloc (Nat.le_refl _) (.cells (ctA c) 33)).trans (hbw1.mono (by first | omega | (simp; done) | (simp; omega))))
      | (go_at_call 64; (with_reducible refine (CS.out _).mono ?_); rintro e w2 ⟨rfl, hbw2⟩; obtain ⟨hcw2, hfw2, hrw2⟩ := bcell7 hbw2; have hzw2 : w.heap.size < w2.heap.size := (by have h := hbw2.size; (try simp at h); omega); have hBw2 : Below w.heap.size w w2 := (hBw1).trans (hbw2.mono (by first | omega | (simp; done) | (simp; omega)))))
    go_ret
    exact ⟨rfl, by (repeat (first | (with_reducible assumption) | (with_reducible exact Below.refl _ _) | (with_reducible refine Below.drew ?_) | ((with_reducible refine Below.setCell ?_ ?_ _); rotate_left; (focus (first | omega | (simp; done) | (simp; omega)))) | ((with_reducible refine below_row ?_ ?_ _); rotate_left; (focus (first | omega | (simp; done) | (simp; omega)))) | ((with_reducible refine Below.alloc ?_ ?_ _); rotate_left; (focus (first | omega | (simp; done) | (simp; omega))))))⟩
  · clear hfit hsize hz
    go_enter Tryz.func40, Tryz.ntmps40
    go_wp2_with (first
      | (go_at_call 63; (with_reducible refine (CR.out _).mono ?_); rintro e w1 ⟨rfl, hbw1⟩; obtain ⟨hcw1, hfw1, hrw1⟩ := bcell7 hbw1; have hzw1 : w.heap.size < w1.heap.size := (by have h := hbw1.size; (try simp at h); omega); have hBw1 : Below w.heap.size w w1 := ((Below.refl w.heap.size w).alloc (Nat.le_refl _) (.cells (ctA c) 33)).trans (hbw1.mono (by first | omega | (simp; done) | (simp; omega))))
      | (go_at_call 64; (with_reducible refine (CS.out _).mono ?_); rintro e w2 ⟨rfl, hbw2⟩; obtain ⟨hcw2, hfw2, hrw2⟩ := bcell7 hbw2; have hzw2 : w.heap.size < w2.heap.size := (by have h := hbw2.size; (try simp at h); omega); have hBw2 : Below w.heap.size w w2 := (hBw1).trans (hbw2.mono (by first | omega | (simp; done) | (simp; omega)))))
    go_ret
    exact ⟨rfl, by (repeat (first | (with_reducible assumption) | (with_reducible exact Below.refl _ _) | (with_reducible refine Below.drew ?_) | ((with_reducible refine Below.setCell ?_ ?_ _); rotate_left; (focus (first | omega | (simp; done) | (simp; omega)))) | ((with_reducible refine below_row ?_ ?_ _); rotate_left; (focus (first | omega | (simp; done) | (simp; omega)))) | ((with_reducible refine Below.alloc ?_ ?_ _); rotate_left; (focus (first | omega | (simp; done) | (simp; omega))))))⟩
set_option maxRecDepth 100000 in
theorem isend_any (c : B.Cs) (w : World) (h : B.FrameM c) : Calls Tryz.prog 41 #[.agg (ctA c)] w fun e w' => e = .returned (.bool true) ∧ Below w.heap.size w w' := by
  have hl := B.got_len h.fit h.size
  have hfin : c.fin = true → (B.sizeL c.got).2 = 0 ∧ c.got.length = (B.sizeL c.got).1 + 15 := fun e => by
    have := h.fin; rw [e] at this; unfold B.stopB at this; have := of_decide_eq_true this.symm; exact ⟨this.1, this.2.1⟩
  have CW : Hid (∀ w, Calls Tryz.prog 65 #[.agg (ctA c)] w fun e w' => e = .returned (.bool c.fin) ∧ Below w.heap.size w w') := Lib.hid (fun w => by
    have := iswhole_any c w h.all (by omega)
    rwa [← h.fin] at this)
  have CG : Hid (∀ w, Calls Tryz.prog 66 #[.agg (ctA c)] w fun e w' => e = .returned (.bool c.good) ∧ Below w.heap.size w w') := Lib.hid (fun w => by
    have := isgood_any c w h.all (by omega) hfin
    rwa [← h.good] at this)
  have CI : Hid (∀ w, Calls Tryz.prog 62 #[.int .i64 (c.tail : Nat), .int .i64 0, .int .i64 9] w fun e w' => e = .returned (.bool true) ∧ w = w') := Lib.hid (fun w => within_yes _ _ _ w (by omega) (by have := h.tail; omega))
  have ht := h.tail0
  clear hfin hl h
  cases hf : c.fin
  · have ht0 := ht hf
    clear ht
    go_enter Tryz.func41, Tryz.ntmps41
    go_wp2
    obtain ⟨g, hg⟩ : ∃ g, g = w.heap.size := ⟨_, rfl⟩
    have hG := Lib.hid hg
    rw [← hg]
    have hB0 : Below w.heap.size w (w.alloc (.cells (ctA c) 33)) := (Below.refl w.heap.size w).alloc (Nat.le_refl _) (.cells (ctA c) 33)
    have hR0 : rowAt (w.alloc (.cells (ctA c) 33)) g = some (ctA c) := rowAt_new _ _ _ _ hg
    clear hg
    generalize w.alloc (.cells (ctA c) 33) = W at *
    have KS := Lib.hid (show ∀ wa wb, Below wa.heap.size wa wb → ((∀ i, wa.cell? ⟨g, i, none⟩ = (ctA c)[i]?) ∧ rowAt wa g = some (ctA c) ∧ Below w.heap.size w wa) → ((∀ i, wb.cell? ⟨g, i, none⟩ = (ctA c)[i]?) ∧ rowAt wb g = some (ctA c) ∧ Below w.heap.size w wb) from
      fun wa wb k ⟨h1, h2, h3⟩ => by have e := (rowAt_below k g (rowAt_lt h2)).trans h2; exact ⟨rowAt_cell e, e, h3.trans (k.mono h3.size)⟩)
    go_upto_region 1 with fail
    go_cut [14] from 3 to 15 (fun a wc => a = .bool false ∧ rowAt wc g = some (ctA c) ∧ Below w.heap.size w wc)
    case first =>
      go_region_held3 (fun w' => (∀ i, w'.cell? ⟨g, i, none⟩ = (ctA c)[i]?) ∧ rowAt w' g = some (ctA c) ∧ Below w.heap.size w w')
        (first | assumption | exact ⟨rowAt_cell hR0, hR0, hB0.drew⟩ | exact KS.out _ _ (by assumption) (by assumption))
        (first
          | (go_at_call 65; (with_reducible refine (CW.out _).mono ?_); rintro e w1 ⟨rfl, hb1⟩)
          | (go_at_call 66; (with_reducible refine (CG.out _).mono ?_); rintro e w1 ⟨rfl, hb1⟩))
      all_goals
        go_wp2_with fail
        go_meet
        case rel => exact ⟨rfl, (‹(∀ i, w1.cell? ⟨g, i, none⟩ = (ctA c)[i]?) ∧ rowAt w1 g = some (ctA c) ∧ Below w.heap.size w w1›).2⟩
    case rest =>
      obtain ⟨rfl, hR, hB⟩ := hcut
      have hcc := rowAt_cell hR
      go_wp2_with (first
        | (go_at_call 62; (with_reducible refine (CI.out _).mono ?_); rintro e w' ⟨rfl, rfl⟩))
      go_ret
      exact ⟨rfl, hB⟩
  · clear ht
    rw [hf] at CW
    go_enter Tryz.func41, Tryz.ntmps41
    go_wp2
    obtain ⟨g, hg⟩ : ∃ g, g = w.heap.size := ⟨_, rfl⟩
    have hG := Lib.hid hg
    rw [← hg]
    have hB0 : Below w.heap.size w (w.alloc (.cells (ctA c) 33)) := (Below.refl w.heap.size w).alloc (Nat.le_refl _) (.cells (ctA c) 33)
    have hR0 : rowAt (w.alloc (.cells (ctA c) 33)) g = some (ctA c) := rowAt_new _ _ _ _ hg
    clear hg
    generalize w.alloc (.cells (ctA c) 33) = W at *
    have KS := Lib.hid (show ∀ wa wb, Below wa.heap.size wa wb → ((∀ i, wa.cell? ⟨g, i, none⟩ = (ctA c)[i]?) ∧ rowAt wa g = some (ctA c) ∧ Below w.heap.size w wa) → ((∀ i, wb.cell? ⟨g, i, none⟩ = (ctA c)[i]?) ∧ rowAt wb g = some (ctA c) ∧ Below w.heap.size w wb) from
      fun wa wb k ⟨h1, h2, h3⟩ => by have e := (rowAt_below k g (rowAt_lt h2)).trans h2; exact ⟨rowAt_cell e, e, h3.trans (k.mono h3.size)⟩)
    go_upto_region 1 with fail
    go_cut [14] from 3 to 15 (fun a wc => a = .bool false ∧ rowAt wc g = some (ctA c) ∧ Below w.heap.size w wc)
    case first =>
      go_region_held3 (fun w' => (∀ i, w'.cell? ⟨g, i, none⟩ = (ctA c)[i]?) ∧ rowAt w' g = some (ctA c) ∧ Below w.heap.size w w')
        (first | assumption | exact ⟨rowAt_cell hR0, hR0, hB0.drew⟩ | exact KS.out _ _ (by assumption) (by assumption))
        (first
          | (go_at_call 65; (with_reducible refine (CW.out _).mono ?_); rintro e w1 ⟨rfl, hb1⟩)
          | (go_at_call 66; (with_reducible refine (CG.out _).mono ?_); rintro e w1 ⟨rfl, hb1⟩))
      all_goals
        go_wp2_with fail
        go_meet
        case rel => exact ⟨rfl, (‹(∀ i, w1.cell? ⟨g, i, none⟩ = (ctA c)[i]?) ∧ rowAt w1 g = some (ctA c) ∧ Below w.heap.size w w1›).2⟩
    case rest =>
      obtain ⟨rfl, hR, hB⟩ := hcut
      have hcc := rowAt_cell hR
      go_wp2_with (first
        | (go_at_call 62; (with_reducible refine (CI.out _).mono ?_); rintro e w' ⟨rfl, rfl⟩))
      go_ret
      exact ⟨rfl, hB⟩
end Go.Proofs.YtcaeobkaoebndaaGreat
