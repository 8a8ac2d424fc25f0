/- Layer 7: Right, driven, Drive. -/
import Derived.Test.YtcaeobkaoebndaaGreatCtF
import Derived.Test.YtcaeobkaoebndaaGreatCn1
namespace Go.Proofs.YtcaeobkaoebndaaGreat
open Go.RowKit Go.Lib
attribute [local go_sem ↓] ld_ct st_ct ld_ev st_ev ld_ma st_ma bd_ma
attribute [local go_sem] ldCt_at stCt_at ldEv_at stEv_at ldMa_at stMa_at bdMa_at ldp_ct ldp_ma ldp_ev ldp_mev stp_ct stp_ma stp_ev stp_mev stp_mm zero_ct zero_ev zero_ma ev_err ev_sent
attribute [local go_sem] rowAt_drew rowAt_drewN rowAt_new rowAt_past rowAt_setRow rowAt_setRow_other rowAt_setCell_other rowAt_setCell_map cell_setRow free_setRow cell_setRow_other free_setRow_other setRow_alloc_at setRow_alloc_past
attribute [local go_sem] ctA_0 ctA_1 ctA_2 ctA_3 ctA_4 ctA_5 ctA_6 ctA_7 ctA_8 ctA_9 ctA_10 ctA_11 ctA_12 ctA_13 ctA_14 ctA_15 ctA_16 ctA_17 ctA_18 ctA_19 ctA_20 ctA_21 ctA_22 evA_0 evA_1 evA_2 evA_3 evA_4 evA_5 evA_6 mA_0 mA_1 mA_2 mA_3 mA_4 mA_5 mA_6 mA_7 mA_8 mA_9 mA_10 mA_11 mA_12 mA_13 mA_14 mA_15 mA_16 mA_17 mA_18 mA_19 mA_20 mA_21 mA_22 mA_23 mA_24 mA_25 mA_26 mA_27 mA_28 mA_29
attribute [local go_sem] ctA_set0 ctA_set0_0 ctA_set1_0 ctA_suc0 ctA_set1 ctA_set0_1 ctA_set1_1 ctA_suc1 ctA_set2 ctA_set3 ctA_set0_3 ctA_set1_3 ctA_suc3 ctA_set4 ctA_set0_4 ctA_set1_4 ctA_suc4 ctA_set5 ctA_set0_5 ctA_set1_5 ctA_suc5 ctA_set6 ctA_set7 ctA_set8 ctA_set9 ctA_set0_9 ctA_set1_9 ctA_suc9 ctA_set10 ctA_set11 ctA_set12 ctA_set0_12 ctA_set1_12 ctA_suc12 ctA_set13 ctA_set14 ctA_set15 ctA_set16 ctA_set0_16 ctA_set1_16 ctA_suc16 ctA_set17 ctA_set0_17 ctA_set1_17 ctA_suc17 ctA_set18 ctA_set0_18 ctA_set1_18 ctA_suc18 ctA_set19 ctA_set20 ctA_set21 ctA_set0_21 ctA_set1_21 ctA_suc21 ctA_set22 mA_set0 mA_set0_0 mA_set1_0 mA_suc0 mA_set1 mA_set0_1 mA_set1_1 mA_suc1 mA_set2 mA_set3 mA_set0_3 mA_set1_3 mA_suc3 mA_set4 mA_set0_4 mA_set1_4 mA_suc4 mA_set5 mA_set0_5 mA_set1_5 mA_set1000000000_5 mA_suc5 mA_set6 mA_set7 mA_set8 mA_set9 mA_set0_9 mA_set1_9 mA_suc9 mA_set10 mA_set11 mA_set12 mA_set0_12 mA_set1_12 mA_suc12 mA_set13 mA_set14 mA_set15 mA_set16 mA_set0_16 mA_set1_16 mA_suc16 mA_set17 mA_set0_17 mA_set1_17 mA_set48_17 mA_suc17 mA_set18 mA_set0_18 mA_set1_18 mA_suc18 mA_set19 mA_set20 mA_set21 mA_set0_21 mA_set1_21 mA_suc21 mA_set22 evA_set0 evA_set0_0 evA_set1_0 evA_set2_0 evA_set3_0 evA_set4_0 evA_suc0 evA_set1 evA_set0_1 evA_set1_1 evA_suc1 evA_set2 evA_set3 evA_set4 evA_set0_4 evA_set1_4 evA_suc4 evA_set5 evA_set6 evA_set0_6 evA_set1_6 evA_set14_6 evA_suc6 mA_set23 mA_set0_23 mA_set1_23 mA_set2_23 mA_set3_23 mA_set4_23 mA_suc23 mA_set24 mA_set0_24 mA_set1_24 mA_suc24 mA_set25 mA_set26 mA_set27 mA_set0_27 mA_set1_27 mA_suc27 mA_set28 mA_set29 mA_set0_29 mA_set1_29 mA_suc29

abbrev cnC4 (k : B.Cn) : Array Value := #[.int .i64 (k.t : Nat), .int .i64 (k.r : Nat), .bool k.o, .int .i64 (k.n : Nat)]
theorem cright7 {k : B.Cn} (h : k.may) (w : World) : Calls Tryz.prog 36 #[.agg (cnC4 k)] w fun e w' => e = .returned (.bool true) ∧ Below w.heap.size w w' := by
  obtain ⟨t, r, o, n⟩ := k
  unfold B.Cn.may at h
  simp only at h
  rcases h with ⟨rfl, h1, h2, rfl⟩ | ⟨rfl, rfl, rfl, h1, h2⟩
  · exact (cright_on t r w h1 h2).mono fun e w' ⟨he, hw⟩ => ⟨he, hw ▸ (Below.refl _ _).alloc (Nat.le_refl _) _⟩
  · exact (cright_off n w h1 h2).mono fun e w' ⟨he, hw⟩ => ⟨he, hw ▸ (Below.refl _ _).alloc (Nat.le_refl _) _⟩
set_option maxRecDepth 100000 in
theorem eql_ct (c : B.Cs) (w : World) : (binOp .eql 33 (.agg (ctA c)) (.agg (ctA c))).run Tryz.prog w = .ok (.bool true) w := by
  unfold ctA
  simp [go_sem]
theorem bare_same {c : B.Cs} (h : B.BareM c) : c.bare = c := (B.bare_eq h).symm
set_option maxRecDepth 100000 in
set_option maxHeartbeats 1000000 in
theorem ctright_any (c : B.Cs) (w : World) (h : B.RightM c) : Calls Tryz.prog 21 #[.agg (ctA c)] w fun e w' => e = .returned (.bool true) ∧ Below w.heap.size w w' := by
  have CC := Lib.hid (fun w => cright7 h.cnt w)
  have CP := Lib.hid (fun w => isplace_any c.state c.n w h.st8 h.num)
  have CO := Lib.hid (fun w => isown_any c w h.has h.hasn)
  have hoff : (c.cnt.o != (((c.state : Nat) : Int) == 8)) = false := by
    have := h.off
    cases ho : c.cnt.o <;> rw [ho] at this <;> simp at this ⊢ <;> omega
  by_cases h2 : c.state = 2
  · have CG := Lib.hid (fun w => isgot_any c w (h.frm h2))
    have CE := Lib.hid (fun w => isend_any c w (h.frm h2))
    have CS := Lib.hid (fun w => issending_any c w (h.frm h2) h.has)
    rw [h2] at CP hoff
    replace CP : Hid (∀ w, Calls Tryz.prog 37 #[.int .i64 2, .int .i64 (c.n : Nat)] w fun e w' => e = .returned (.bool true) ∧ w = w') := CP
    replace hoff : c.cnt.o = false := by simpa using hoff
    simp only [cnC4, hoff] at CC
    clear h
    go_enter Tryz.func21, Tryz.ntmps21
    go_wp2_with (first
      | (go_at_call 36; (with_reducible refine (CC.out _).mono ?_); rintro e w1 ⟨rfl, hbw1⟩; obtain ⟨hcw1, hfw1, hrw1⟩ := bcell7 hbw1; have hzw1 : w.heap.size < w1.heap.size := (by have h := hbw1.size; (try simp at h); omega); have hBw1 : Below w.heap.size w w1 := ((Below.refl w.heap.size w).alloc (Nat.le_refl _) (.cells (ctA c) 33)).trans (hbw1.mono (by first | omega | (simp; done) | (simp; omega))))
      | (go_at_call 37; (with_reducible refine (CP.out _).mono ?_); rintro e w' ⟨rfl, rfl⟩)
      | (go_at_call 38; (with_reducible refine (CO.out _).mono ?_); rintro e w2 ⟨rfl, hbw2⟩; obtain ⟨hcw2, hfw2, hrw2⟩ := bcell7 hbw2; have hzw2 : w.heap.size < w2.heap.size := (by have h := hbw2.size; (try simp at h); omega); have hBw2 : Below w.heap.size w w2 := (hBw1).trans (hbw2.mono (by first | omega | (simp; done) | (simp; omega))))
      | (go_at_call 40; (with_reducible refine (CG.out _).mono ?_); rintro e w3 ⟨rfl, hbw3⟩; obtain ⟨hcw3, hfw3, hrw3⟩ := bcell7 hbw3; have hzw3 : w.heap.size < w3.heap.size := (by have h := hbw3.size; (try simp at h); omega); have hBw3 : Below w.heap.size w w3 := (hBw2).trans (hbw3.mono (by first | omega | (simp; done) | (simp; omega))))
      | (go_at_call 41; (with_reducible refine (CE.out _).mono ?_); rintro e w4 ⟨rfl, hbw4⟩; obtain ⟨hcw4, hfw4, hrw4⟩ := bcell7 hbw4; have hzw4 : w.heap.size < w4.heap.size := (by have h := hbw4.size; (try simp at h); omega); have hBw4 : Below w.heap.size w w4 := (hBw3).trans (hbw4.mono (by first | omega | (simp; done) | (simp; omega))))
      | (go_at_call 42; (with_reducible refine (CS.out _).mono ?_); rintro e w5 ⟨rfl, hbw5⟩; obtain ⟨hcw5, hfw5, hrw5⟩ := bcell7 hbw5; have hzw5 : w.heap.size < w5.heap.size := (by have h := hbw5.size; (try simp at h); omega); have hBw5 : Below w.heap.size w w5 := (hBw4).trans (hbw5.mono (by first | omega | (simp; done) | (simp; omega)))))
    go_ret
    exact ⟨rfl, by (repeat (first | (with_reducible assumption) | (with_reducible exact Below.refl _ _) | (with_reducible refine Below.drew ?_) | ((with_reducible refine Below.setCell ?_ ?_ _); rotate_left; (focus (first | omega | (simp; done) | (simp; omega)))) | ((with_reducible refine below_row ?_ ?_ _); rotate_left; (focus (first | omega | (simp; done) | (simp; omega)))) | ((with_reducible refine Below.alloc ?_ ?_ _); rotate_left; (focus (first | omega | (simp; done) | (simp; omega))))))⟩
  · have CX : Hid (∀ w, Calls Tryz.prog 39 #[.agg (ctA c)] w fun e w' => e = .returned (.agg (ctA c)) ∧ Below w.heap.size w w') := Lib.hid (fun w => by
      have := outside_any c w
      rwa [bare_same (h.bare h2)] at this)
    have HE := eql_ct c
    clear hoff
    cases ho : c.cnt.o
    · have h8 : (((c.state : Nat) : Int) == 8) = false := by
        have : ¬ c.state = 8 := fun e => by rw [h.off.1 e] at ho; cases ho
        rw [beq_eq_false_iff_ne]; omega
      have hn2 : (((c.state : Nat) : Int) != 2) = true := by simp; omega
      simp only [cnC4, ho] at CC
      clear h h2
      go_enter Tryz.func21, Tryz.ntmps21
      go_wp2_with (first
        | (go_at_call 36; (with_reducible refine (CC.out _).mono ?_); rintro e w1 ⟨rfl, hbw1⟩; obtain ⟨hcw1, hfw1, hrw1⟩ := bcell7 hbw1; have hzw1 : w.heap.size < w1.heap.size := (by have h := hbw1.size; (try simp at h); omega); have hBw1 : Below w.heap.size w w1 := ((Below.refl w.heap.size w).alloc (Nat.le_refl _) (.cells (ctA c) 33)).trans (hbw1.mono (by first | omega | (simp; done) | (simp; omega))))
        | (go_at_call 37; (with_reducible refine (CP.out _).mono ?_); rintro e w' ⟨rfl, rfl⟩)
        | (go_at_call 38; (with_reducible refine (CO.out _).mono ?_); rintro e w2 ⟨rfl, hbw2⟩; obtain ⟨hcw2, hfw2, hrw2⟩ := bcell7 hbw2; have hzw2 : w.heap.size < w2.heap.size := (by have h := hbw2.size; (try simp at h); omega); have hBw2 : Below w.heap.size w w2 := (hBw1).trans (hbw2.mono (by first | omega | (simp; done) | (simp; omega)))))
      go_upto_region 4 with fail
      obtain ⟨g, hg⟩ : ∃ g, g = w.heap.size := ⟨_, rfl⟩
      have hR2 : rowAt w2 g = some (ctA c) := by rw [hg]; simp [go_sem, hrw1, hrw2, hzw1]
      rw [← hg]
      clear hg hbw1 hcw1 hfw1 hrw1 hzw1 hBw1 hbw2 hcw2 hfw2 hrw2
      have KS := Lib.hid (show ∀ wa wb, Below wa.heap.size wa wb → ((∀ i, wa.cell? ⟨g, i, none⟩ = (ctA c)[i]?) ∧ rowAt wa g = some (ctA c) ∧ Below w.heap.size w wa) → ((∀ i, wb.cell? ⟨g, i, none⟩ = (ctA c)[i]?) ∧ rowAt wb g = some (ctA c) ∧ Below w.heap.size w wb) from
        fun wa wb k ⟨h1, h2, h3⟩ => by have e := (rowAt_below k g (rowAt_lt h2)).trans h2; exact ⟨rowAt_cell e, e, h3.trans (k.mono h3.size)⟩)
      go_region_held3 (fun W' => (∀ i, W'.cell? ⟨g, i, none⟩ = (ctA c)[i]?) ∧ rowAt W' g = some (ctA c) ∧ Below w.heap.size w W')
        (first | assumption | exact ⟨rowAt_cell hR2, hR2, hBw2.drew⟩ | exact KS.out _ _ (by assumption) (by assumption))
        (first
          | (go_at_call 39; (with_reducible refine (CX.out _).mono ?_); rintro e w3 ⟨rfl, hb3⟩))
      have hS := (‹(∀ i, w3.cell? ⟨g, i, none⟩ = (ctA c)[i]?) ∧ rowAt w3 g = some (ctA c) ∧ Below w.heap.size w w3›).2.2
      go_wp2
      go_ret
      exact ⟨rfl, hS⟩
    · have h8 : c.state = 8 := h.off.2 ho
      rw [h8] at CP
      replace CP : Hid (∀ w, Calls Tryz.prog 37 #[.int .i64 8, .int .i64 (c.n : Nat)] w fun e w' => e = .returned (.bool true) ∧ w = w') := CP
      simp only [cnC4, ho] at CC
      clear h h2
      go_enter Tryz.func21, Tryz.ntmps21
      go_wp2_with (first
        | (go_at_call 36; (with_reducible refine (CC.out _).mono ?_); rintro e w1 ⟨rfl, hbw1⟩; obtain ⟨hcw1, hfw1, hrw1⟩ := bcell7 hbw1; have hzw1 : w.heap.size < w1.heap.size := (by have h := hbw1.size; (try simp at h); omega); have hBw1 : Below w.heap.size w w1 := ((Below.refl w.heap.size w).alloc (Nat.le_refl _) (.cells (ctA c) 33)).trans (hbw1.mono (by first | omega | (simp; done) | (simp; omega))))
        | (go_at_call 37; (with_reducible refine (CP.out _).mono ?_); rintro e w' ⟨rfl, rfl⟩)
        | (go_at_call 38; (with_reducible refine (CO.out _).mono ?_); rintro e w2 ⟨rfl, hbw2⟩; obtain ⟨hcw2, hfw2, hrw2⟩ := bcell7 hbw2; have hzw2 : w.heap.size < w2.heap.size := (by have h := hbw2.size; (try simp at h); omega); have hBw2 : Below w.heap.size w w2 := (hBw1).trans (hbw2.mono (by first | omega | (simp; done) | (simp; omega)))))
      go_upto_region 4 with fail
      obtain ⟨g, hg⟩ : ∃ g, g = w.heap.size := ⟨_, rfl⟩
      have hR2 : rowAt w2 g = some (ctA c) := by rw [hg]; simp [go_sem, hrw1, hrw2, hzw1]
      rw [← hg]
      clear hg hbw1 hcw1 hfw1 hrw1 hzw1 hBw1 hbw2 hcw2 hfw2 hrw2
      have KS := Lib.hid (show ∀ wa wb, Below wa.heap.size wa wb → ((∀ i, wa.cell? ⟨g, i, none⟩ = (ctA c)[i]?) ∧ rowAt wa g = some (ctA c) ∧ Below w.heap.size w wa) → ((∀ i, wb.cell? ⟨g, i, none⟩ = (ctA c)[i]?) ∧ rowAt wb g = some (ctA c) ∧ Below w.heap.size w wb) from
        fun wa wb k ⟨h1, h2, h3⟩ => by have e := (rowAt_below k g (rowAt_lt h2)).trans h2; exact ⟨rowAt_cell e, e, h3.trans (k.mono h3.size)⟩)
      go_region_held3 (fun W' => (∀ i, W'.cell? ⟨g, i, none⟩ = (ctA c)[i]?) ∧ rowAt W' g = some (ctA c) ∧ Below w.heap.size w W')
        (first | assumption | exact ⟨rowAt_cell hR2, hR2, hBw2.drew⟩ | exact KS.out _ _ (by assumption) (by assumption))
        (first
          | (go_at_call 39; (with_reducible refine (CX.out _).mono ?_); rintro e w3 ⟨rfl, hb3⟩))
      have hS := (‹(∀ i, w3.cell? ⟨g, i, none⟩ = (ctA c)[i]?) ∧ rowAt w3 g = some (ctA c) ∧ Below w.heap.size w w3›).2.2
      go_wp2
      go_ret
      exact ⟨rfl, hS⟩
end Go.Proofs.YtcaeobkaoebndaaGreat
