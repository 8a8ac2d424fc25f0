/- Layer 7: Sample. -/
import Derived.Test.YtcaeobkaoebndaaGreatJ11
namespace Go.Proofs.YtcaeobkaoebndaaGreat
open Go.RowKit Go.Lib
attribute [local go_sem ↓] ld_ct st_ct ld_ev st_ev ld_ma st_ma bd_ma
attribute [local go_sem] ldCt_at stCt_at ldEv_at stEv_at ldMa_at stMa_at bdMa_at ldp_ct ldp_ma ldp_ev ldp_mev stp_ct stp_ma stp_ev stp_mev stp_mm zero_ct zero_ev zero_ma ev_err ev_sent
attribute [local go_sem] rowAt_drew rowAt_drewN rowAt_new rowAt_past rowAt_setRow rowAt_setRow_other rowAt_setCell_other rowAt_setCell_map cell_setRow free_setRow cell_setRow_other free_setRow_other setRow_alloc_at setRow_alloc_past
attribute [local go_sem] ctA_0 ctA_1 ctA_2 ctA_3 ctA_4 ctA_5 ctA_6 ctA_7 ctA_8 ctA_9 ctA_10 ctA_11 ctA_12 ctA_13 ctA_14 ctA_15 ctA_16 ctA_17 ctA_18 ctA_19 ctA_20 ctA_21 ctA_22 evA_0 evA_1 evA_2 evA_3 evA_4 evA_5 evA_6 mA_0 mA_1 mA_2 mA_3 mA_4 mA_5 mA_6 mA_7 mA_8 mA_9 mA_10 mA_11 mA_12 mA_13 mA_14 mA_15 mA_16 mA_17 mA_18 mA_19 mA_20 mA_21 mA_22 mA_23 mA_24 mA_25 mA_26 mA_27 mA_28 mA_29
attribute [local go_sem] ctA_set0 ctA_set0_0 ctA_set1_0 ctA_suc0 ctA_set1 ctA_set0_1 ctA_set1_1 ctA_suc1 ctA_set2 ctA_set3 ctA_set0_3 ctA_set1_3 ctA_suc3 ctA_set4 ctA_set0_4 ctA_set1_4 ctA_suc4 ctA_set5 ctA_set0_5 ctA_set1_5 ctA_suc5 ctA_set6 ctA_set7 ctA_set8 ctA_set9 ctA_set0_9 ctA_set1_9 ctA_suc9 ctA_set10 ctA_set11 ctA_set12 ctA_set0_12 ctA_set1_12 ctA_suc12 ctA_set13 ctA_set14 ctA_set15 ctA_set16 ctA_set0_16 ctA_set1_16 ctA_suc16 ctA_set17 ctA_set0_17 ctA_set1_17 ctA_suc17 ctA_set18 ctA_set0_18 ctA_set1_18 ctA_suc18 ctA_set19 ctA_set20 ctA_set21 ctA_set0_21 ctA_set1_21 ctA_suc21 ctA_set22 mA_set0 mA_set0_0 mA_set1_0 mA_suc0 mA_set1 mA_set0_1 mA_set1_1 mA_suc1 mA_set2 mA_set3 mA_set0_3 mA_set1_3 mA_suc3 mA_set4 mA_set0_4 mA_set1_4 mA_suc4 mA_set5 mA_set0_5 mA_set1_5 mA_set1000000000_5 mA_suc5 mA_set6 mA_set7 mA_set8 mA_set9 mA_set0_9 mA_set1_9 mA_suc9 mA_set10 mA_set11 mA_set12 mA_set0_12 mA_set1_12 mA_suc12 mA_set13 mA_set14 mA_set15 mA_set16 mA_set0_16 mA_set1_16 mA_suc16 mA_set17 mA_set0_17 mA_set1_17 mA_set48_17 mA_suc17 mA_set18 mA_set0_18 mA_set1_18 mA_suc18 mA_set19 mA_set20 mA_set21 mA_set0_21 mA_set1_21 mA_suc21 mA_set22 evA_set0 evA_set0_0 evA_set1_0 evA_set2_0 evA_set3_0 evA_set4_0 evA_suc0 evA_set1 evA_set0_1 evA_set1_1 evA_suc1 evA_set2 evA_set3 evA_set4 evA_set0_4 evA_set1_4 evA_suc4 evA_set5 evA_set6 evA_set0_6 evA_set1_6 evA_set14_6 evA_suc6 mA_set23 mA_set0_23 mA_set1_23 mA_set2_23 mA_set3_23 mA_set4_23 mA_suc23 mA_set24 mA_set0_24 mA_set1_24 mA_suc24 mA_set25 mA_set26 mA_set27 mA_set0_27 mA_set1_27 mA_suc27 mA_set28 mA_set29 mA_set0_29 mA_set1_29 mA_suc29

theorem rowAt_belowB {B : Nat} {W w1 : World} (hb : Below B W w1) : ∀ b, b < B → rowAt w1 b = rowAt W b := fun b h => by unfold rowAt; rw [hb.block b h]
/-- what stands fast while Sample runs: the machine, its results' cells, what was there -/
def SmS (w : World) (g : Nat) (c d : B.Cs) (v : B.Ev) (e : B.Ev) (w' : World) : Prop :=
  rowAt w' g = some (mA c v) ∧ rowAt w' (w.heap.size + 1) = some (ctA d) ∧ rowAt w' (w.heap.size + 2) = some (evA e) ∧ Below w.heap.size w w' ∧ w.heap.size + 3 ≤ g
theorem SmS.keep {w : World} {g : Nat} {c d : B.Cs} {v e : B.Ev} {wa wb : World} (h : SmS w g c d v e wa) (k : Below wa.heap.size wa wb) : SmS w g c d v e wb := by
  obtain ⟨h1, h2, h3, h4, h5⟩ := h
  exact ⟨(rowAt_below k _ (rowAt_lt h1)).trans h1, (rowAt_below k _ (rowAt_lt h2)).trans h2, (rowAt_below k _ (rowAt_lt h3)).trans h3, h4.trans (k.mono h4.size), h5⟩
theorem SmS.met {w : World} {g : Nat} {c d c2 : B.Cs} {v e v2 : B.Ev} {wa wb : World} (h : SmS w g c d v e wa) (k : Below g wa wb) (hR : rowAt wb g = some (mA c2 v2)) : SmS w g c2 d v2 e wb := by
  obtain ⟨h1, h2, h3, h4, h5⟩ := h
  exact ⟨hR, (rowAt_belowB k _ (by omega)).trans h2, (rowAt_belowB k _ (by omega)).trans h3, h4.trans (k.mono (by omega)), h5⟩
theorem idx_0 (w : World) : (Instr.index 58 (.agg #[.func (.func 46) #[] #[], .func (.func 47) #[] #[], .func (.func 48) #[] #[], .func (.func 49) #[] #[], .func (.func 50) #[] #[], .func (.func 51) #[] #[], .func (.func 52) #[] #[], .func (.func 53) #[] #[], .func (.func 54) #[] #[]]) (.int .i64 0)).run Tryz.prog w = .ok (.func (.func 46) #[] #[]) w := by kernel_rfl
theorem idx_1 (w : World) : (Instr.index 58 (.agg #[.func (.func 46) #[] #[], .func (.func 47) #[] #[], .func (.func 48) #[] #[], .func (.func 49) #[] #[], .func (.func 50) #[] #[], .func (.func 51) #[] #[], .func (.func 52) #[] #[], .func (.func 53) #[] #[], .func (.func 54) #[] #[]]) (.int .i64 1)).run Tryz.prog w = .ok (.func (.func 47) #[] #[]) w := by kernel_rfl
theorem idx_2 (w : World) : (Instr.index 58 (.agg #[.func (.func 46) #[] #[], .func (.func 47) #[] #[], .func (.func 48) #[] #[], .func (.func 49) #[] #[], .func (.func 50) #[] #[], .func (.func 51) #[] #[], .func (.func 52) #[] #[], .func (.func 53) #[] #[], .func (.func 54) #[] #[]]) (.int .i64 2)).run Tryz.prog w = .ok (.func (.func 48) #[] #[]) w := by kernel_rfl
theorem idx_3 (w : World) : (Instr.index 58 (.agg #[.func (.func 46) #[] #[], .func (.func 47) #[] #[], .func (.func 48) #[] #[], .func (.func 49) #[] #[], .func (.func 50) #[] #[], .func (.func 51) #[] #[], .func (.func 52) #[] #[], .func (.func 53) #[] #[], .func (.func 54) #[] #[]]) (.int .i64 3)).run Tryz.prog w = .ok (.func (.func 49) #[] #[]) w := by kernel_rfl
theorem idx_4 (w : World) : (Instr.index 58 (.agg #[.func (.func 46) #[] #[], .func (.func 47) #[] #[], .func (.func 48) #[] #[], .func (.func 49) #[] #[], .func (.func 50) #[] #[], .func (.func 51) #[] #[], .func (.func 52) #[] #[], .func (.func 53) #[] #[], .func (.func 54) #[] #[]]) (.int .i64 4)).run Tryz.prog w = .ok (.func (.func 50) #[] #[]) w := by kernel_rfl
theorem idx_5 (w : World) : (Instr.index 58 (.agg #[.func (.func 46) #[] #[], .func (.func 47) #[] #[], .func (.func 48) #[] #[], .func (.func 49) #[] #[], .func (.func 50) #[] #[], .func (.func 51) #[] #[], .func (.func 52) #[] #[], .func (.func 53) #[] #[], .func (.func 54) #[] #[]]) (.int .i64 5)).run Tryz.prog w = .ok (.func (.func 51) #[] #[]) w := by kernel_rfl
theorem idx_6 (w : World) : (Instr.index 58 (.agg #[.func (.func 46) #[] #[], .func (.func 47) #[] #[], .func (.func 48) #[] #[], .func (.func 49) #[] #[], .func (.func 50) #[] #[], .func (.func 51) #[] #[], .func (.func 52) #[] #[], .func (.func 53) #[] #[], .func (.func 54) #[] #[]]) (.int .i64 6)).run Tryz.prog w = .ok (.func (.func 52) #[] #[]) w := by kernel_rfl
theorem idx_7 (w : World) : (Instr.index 58 (.agg #[.func (.func 46) #[] #[], .func (.func 47) #[] #[], .func (.func 48) #[] #[], .func (.func 49) #[] #[], .func (.func 50) #[] #[], .func (.func 51) #[] #[], .func (.func 52) #[] #[], .func (.func 53) #[] #[], .func (.func 54) #[] #[]]) (.int .i64 7)).run Tryz.prog w = .ok (.func (.func 53) #[] #[]) w := by kernel_rfl
theorem idx_8 (w : World) : (Instr.index 58 (.agg #[.func (.func 46) #[] #[], .func (.func 47) #[] #[], .func (.func 48) #[] #[], .func (.func 49) #[] #[], .func (.func 50) #[] #[], .func (.func 51) #[] #[], .func (.func 52) #[] #[], .func (.func 53) #[] #[], .func (.func 54) #[] #[]]) (.int .i64 8)).run Tryz.prog w = .ok (.func (.func 54) #[] #[]) w := by kernel_rfl
set_option maxRecDepth 100000 in
set_option maxHeartbeats 2000000 in
theorem ctsample_join (c : B.Cs) (b : UInt8) (w : World) (h : B.RightM c) (hst : c.state = 0) (hb : B.okc b = true) :
    Calls Tryz.prog 14 #[.agg (ctA c), .int .u8 (b.toNat : Nat)] w fun e w' => e = .returned (.tuple #[.agg (ctA (c.sample b).1), .agg (evA (c.sample b).2), .int .i64 0]) ∧ Below w.heap.size w w' := by
  have CR := Lib.hid (fun w => ctright_any c w h)
  have CS := Lib.hid (fun w => ctsteps_any w)
  have HI := idx_0
  have CK0 := fun g w hR => st_join c g b w hR h hst hb
  have hbit := B.okc_cases hb
  obtain ⟨d, hd⟩ : ∃ d, d = (c.sample b).1 := ⟨_, rfl⟩
  obtain ⟨v, hv⟩ : ∃ d, d = (c.sample b).2 := ⟨_, rfl⟩
  rw [← hd, ← hv] at CK0
  rw [← hd, ← hv]
  have CK := Lib.hid CK0
  clear CK0 hd hv h hb
  obtain ⟨y, hy⟩ : ∃ y : Int, y = (b.toNat : Nat) := ⟨_, rfl⟩
  rw [← hy] at CK ⊢
  have hb1 : ((y != 48) && (y != 49)) = false := by
    rcases hbit with rfl | rfl <;> (rw [hy]; decide)
  clear hbit hy
  have hq : (y != 48) = false ∨ ((y != 48) = true ∧ (y != 49) = false) := by
    cases e : (y != 48)
    · exact .inl rfl
    · rw [e] at hb1; exact .inr ⟨rfl, by simpa using hb1⟩
  clear hb1
  rcases hq with hq1 | ⟨hq1, hq2⟩
  all_goals
    go_enter Tryz.func14, Tryz.ntmps14
    go_wp2_with (first
      | (go_at_call 21; (with_reducible refine (CR.out _).mono ?_); rintro e w1 ⟨rfl, hbw1⟩; have hr0 := (rowAt_below hbw1 w.heap.size (by first | omega | (simp; done) | (simp; omega))).trans (by simp [go_sem] : _ = some (ctA c)); have hr1 := (rowAt_below hbw1 (w.heap.size + 1) (by first | omega | (simp; done) | (simp; omega))).trans (by simp [go_sem] : _ = some (ctA B.cs0)); have hr2 := (rowAt_below hbw1 (w.heap.size + 2) (by first | omega | (simp; done) | (simp; omega))).trans (by simp [go_sem] : _ = some (evA B.ev0)); have hB1 := ((((Below.refl w.heap.size w).alloc (Nat.le_refl _) (.cells (ctA c) 33)).alloc (by first | omega | (simp; done) | (simp; omega)) (.cells (ctA B.cs0) 33)).alloc (by first | omega | (simp; done) | (simp; omega)) (.cells (evA B.ev0) 42)).trans (hbw1.mono (by first | omega | (simp; done) | (simp; omega))); have hz1 : w.heap.size + 3 ≤ w1.heap.size := (by have h := hbw1.size; (try simp at h); omega); have hc0 := rowAt_cell hr0; clear hbw1))
    go_upto_region 4 with fail
    obtain ⟨g, hg⟩ : ∃ g, g = w1.heap.size := ⟨_, rfl⟩
    rw [← hg]
    have hS : SmS w g c B.cs0 B.ev0 B.ev0 (w1.alloc (.cells (mA c B.ev0) 56)) := ⟨rowAt_new _ _ _ _ hg, (rowAt_past _ _ _ (by omega)).trans hr1, (rowAt_past _ _ _ (by omega)).trans hr2, hB1.alloc hB1.size _, by omega⟩
    have hr3 : rowAt (w1.alloc (.cells (mA c B.ev0) 56)) w.heap.size = some (ctA c) := (rowAt_past _ _ _ (by omega)).trans hr0
    clear hr0 hr1 hr2 hB1 hz1 hc0 hg CR
    generalize w1.alloc (.cells (mA c B.ev0) 56) = W at *
    have KS := Lib.hid (show ∀ wa wb, Below wa.heap.size wa wb → ((∀ i, wa.cell? ⟨w.heap.size, i, none⟩ = (ctA c)[i]?) ∧ rowAt wa w.heap.size = some (ctA c) ∧ SmS w g c B.cs0 B.ev0 B.ev0 wa) → ((∀ i, wb.cell? ⟨w.heap.size, i, none⟩ = (ctA c)[i]?) ∧ rowAt wb w.heap.size = some (ctA c) ∧ SmS w g c B.cs0 B.ev0 B.ev0 wb) from
      fun wa wb k ⟨h1, h2, h3⟩ => by have e := (rowAt_below k _ (rowAt_lt h2)).trans h2; exact ⟨rowAt_cell e, e, h3.keep k⟩)
    have hS0 := KS.out _ _ ((Below.refl _ W).drew) ⟨rowAt_cell hr3, hr3, hS⟩
    go_cut [8] from 24 to 28 (fun a wc => a = .func (.func 46) #[] #[] ∧ SmS w g c B.cs0 B.ev0 B.ev0 wc)
    case first =>
      go_region_held3 (fun W' => (∀ i, W'.cell? ⟨w.heap.size, i, none⟩ = (ctA c)[i]?) ∧ rowAt W' w.heap.size = some (ctA c) ∧ SmS w g c B.cs0 B.ev0 B.ev0 W')
        (first | (with_reducible assumption) | (with_reducible exact KS.out _ _ (by with_reducible assumption) (by with_reducible assumption)))
        (first
          | (go_at_call 26; (with_reducible refine (CS.out _).mono ?_); rintro e w2 ⟨rfl, hb2⟩))
      all_goals
        go_wp2_with fail
        go_meet
        case rel => exact ⟨rfl, (‹(∀ i, w2.cell? ⟨w.heap.size, i, none⟩ = (ctA c)[i]?) ∧ rowAt w2 w.heap.size = some (ctA c) ∧ SmS w g c B.cs0 B.ev0 B.ev0 w2›).2.2⟩
    case rest =>
      clear KS hS0 hS hr3
      obtain ⟨rfl, hS⟩ := hcut
      have hRm : rowAt wc g = some (mA c B.ev0) := hS.1
      go_wp2_with (go_at_call 46; (with_reducible refine (CK.out _ _ hRm).mono ?_); rintro e w4 ⟨rfl, hR4, hG4⟩; have hS4 := hS.met hG4 hR4)
      obtain ⟨hm, h1, h2, hB, hg3⟩ := hS4
      have hne1 : ¬ g = w.heap.size + 1 := by omega
      have hne2 : ¬ g = w.heap.size + 2 := by omega
      clear hS hRm hR4 hG4 CK CS HI
      go_region_held3 (fun W' => rowAt W' g = some (mA d v))
        (first | (with_reducible assumption) | (simp [go_sem, hm, hne1, hne2]; done))
        (fail)
      all_goals
        go_wp2_with fail
        refine bodyPost_ret (res_ct_ev_t Tryz.results14 _ _ (w.heap.size + 1) (w.heap.size + 2) d v rfl rfl (by simp [go_sem, h1]) (by simp [go_sem, h2])) rfl ⟨rfl, ?_⟩
        (repeat (first | (with_reducible assumption) | (with_reducible exact Below.refl _ _) | (with_reducible refine Below.drew ?_) | ((with_reducible refine Below.setCell ?_ ?_ _); rotate_left; (focus (first | omega | (simp; done) | (simp; omega)))) | ((with_reducible refine below_row ?_ ?_ _); rotate_left; (focus (first | omega | (simp; done) | (simp; omega)))) | ((with_reducible refine Below.alloc ?_ ?_ _); rotate_left; (focus (first | omega | (simp; done) | (simp; omega))))))
set_option maxRecDepth 100000 in
set_option maxHeartbeats 2000000 in
theorem ctsample_idle (c : B.Cs) (b : UInt8) (w : World) (h : B.RightM c) (hst : c.state = 1) (hb : B.okc b = true) :
    Calls Tryz.prog 14 #[.agg (ctA c), .int .u8 (b.toNat : Nat)] w fun e w' => e = .returned (.tuple #[.agg (ctA (c.sample b).1), .agg (evA (c.sample b).2), .int .i64 0]) ∧ Below w.heap.size w w' := by
  have CR := Lib.hid (fun w => ctright_any c w h)
  have CS := Lib.hid (fun w => ctsteps_any w)
  have HI := idx_1
  have CK0 := fun g w hR => st_idle c g b w hR h hst hb
  have hbit := B.okc_cases hb
  obtain ⟨d, hd⟩ : ∃ d, d = (c.sample b).1 := ⟨_, rfl⟩
  obtain ⟨v, hv⟩ : ∃ d, d = (c.sample b).2 := ⟨_, rfl⟩
  rw [← hd, ← hv] at CK0
  rw [← hd, ← hv]
  have CK := Lib.hid CK0
  clear CK0 hd hv h hb
  obtain ⟨y, hy⟩ : ∃ y : Int, y = (b.toNat : Nat) := ⟨_, rfl⟩
  rw [← hy] at CK ⊢
  have hb1 : ((y != 48) && (y != 49)) = false := by
    rcases hbit with rfl | rfl <;> (rw [hy]; decide)
  clear hbit hy
  have hq : (y != 48) = false ∨ ((y != 48) = true ∧ (y != 49) = false) := by
    cases e : (y != 48)
    · exact .inl rfl
    · rw [e] at hb1; exact .inr ⟨rfl, by simpa using hb1⟩
  clear hb1
  rcases hq with hq1 | ⟨hq1, hq2⟩
  all_goals
    go_enter Tryz.func14, Tryz.ntmps14
    go_wp2_with (first
      | (go_at_call 21; (with_reducible refine (CR.out _).mono ?_); rintro e w1 ⟨rfl, hbw1⟩; have hr0 := (rowAt_below hbw1 w.heap.size (by first | omega | (simp; done) | (simp; omega))).trans (by simp [go_sem] : _ = some (ctA c)); have hr1 := (rowAt_below hbw1 (w.heap.size + 1) (by first | omega | (simp; done) | (simp; omega))).trans (by simp [go_sem] : _ = some (ctA B.cs0)); have hr2 := (rowAt_below hbw1 (w.heap.size + 2) (by first | omega | (simp; done) | (simp; omega))).trans (by simp [go_sem] : _ = some (evA B.ev0)); have hB1 := ((((Below.refl w.heap.size w).alloc (Nat.le_refl _) (.cells (ctA c) 33)).alloc (by first | omega | (simp; done) | (simp; omega)) (.cells (ctA B.cs0) 33)).alloc (by first | omega | (simp; done) | (simp; omega)) (.cells (evA B.ev0) 42)).trans (hbw1.mono (by first | omega | (simp; done) | (simp; omega))); have hz1 : w.heap.size + 3 ≤ w1.heap.size := (by have h := hbw1.size; (try simp at h); omega); have hc0 := rowAt_cell hr0; clear hbw1))
    go_upto_region 4 with fail
    obtain ⟨g, hg⟩ : ∃ g, g = w1.heap.size := ⟨_, rfl⟩
    rw [← hg]
    have hS : SmS w g c B.cs0 B.ev0 B.ev0 (w1.alloc (.cells (mA c B.ev0) 56)) := ⟨rowAt_new _ _ _ _ hg, (rowAt_past _ _ _ (by omega)).trans hr1, (rowAt_past _ _ _ (by omega)).trans hr2, hB1.alloc hB1.size _, by omega⟩
    have hr3 : rowAt (w1.alloc (.cells (mA c B.ev0) 56)) w.heap.size = some (ctA c) := (rowAt_past _ _ _ (by omega)).trans hr0
    clear hr0 hr1 hr2 hB1 hz1 hc0 hg CR
    generalize w1.alloc (.cells (mA c B.ev0) 56) = W at *
    have KS := Lib.hid (show ∀ wa wb, Below wa.heap.size wa wb → ((∀ i, wa.cell? ⟨w.heap.size, i, none⟩ = (ctA c)[i]?) ∧ rowAt wa w.heap.size = some (ctA c) ∧ SmS w g c B.cs0 B.ev0 B.ev0 wa) → ((∀ i, wb.cell? ⟨w.heap.size, i, none⟩ = (ctA c)[i]?) ∧ rowAt wb w.heap.size = some (ctA c) ∧ SmS w g c B.cs0 B.ev0 B.ev0 wb) from
      fun wa wb k ⟨h1, h2, h3⟩ => by have e := (rowAt_below k _ (rowAt_lt h2)).trans h2; exact ⟨rowAt_cell e, e, h3.keep k⟩)
    have hS0 := KS.out _ _ ((Below.refl _ W).drew) ⟨rowAt_cell hr3, hr3, hS⟩
    go_cut [8] from 24 to 28 (fun a wc => a = .func (.func 47) #[] #[] ∧ SmS w g c B.cs0 B.ev0 B.ev0 wc)
    case first =>
      go_region_held3 (fun W' => (∀ i, W'.cell? ⟨w.heap.size, i, none⟩ = (ctA c)[i]?) ∧ rowAt W' w.heap.size = some (ctA c) ∧ SmS w g c B.cs0 B.ev0 B.ev0 W')
        (first | (with_reducible assumption) | (with_reducible exact KS.out _ _ (by with_reducible assumption) (by with_reducible assumption)))
        (first
          | (go_at_call 26; (with_reducible refine (CS.out _).mono ?_); rintro e w2 ⟨rfl, hb2⟩))
      all_goals
        go_wp2_with fail
        go_meet
        case rel => exact ⟨rfl, (‹(∀ i, w2.cell? ⟨w.heap.size, i, none⟩ = (ctA c)[i]?) ∧ rowAt w2 w.heap.size = some (ctA c) ∧ SmS w g c B.cs0 B.ev0 B.ev0 w2›).2.2⟩
    case rest =>
      clear KS hS0 hS hr3
      obtain ⟨rfl, hS⟩ := hcut
      have hRm : rowAt wc g = some (mA c B.ev0) := hS.1
      go_wp2_with (go_at_call 47; (with_reducible refine (CK.out _ _ hRm).mono ?_); rintro e w4 ⟨rfl, hR4, hG4⟩; have hS4 := hS.met hG4 hR4)
      obtain ⟨hm, h1, h2, hB, hg3⟩ := hS4
      have hne1 : ¬ g = w.heap.size + 1 := by omega
      have hne2 : ¬ g = w.heap.size + 2 := by omega
      clear hS hRm hR4 hG4 CK CS HI
      go_region_held3 (fun W' => rowAt W' g = some (mA d v))
        (first | (with_reducible assumption) | (simp [go_sem, hm, hne1, hne2]; done))
        (fail)
      all_goals
        go_wp2_with fail
        refine bodyPost_ret (res_ct_ev_t Tryz.results14 _ _ (w.heap.size + 1) (w.heap.size + 2) d v rfl rfl (by simp [go_sem, h1]) (by simp [go_sem, h2])) rfl ⟨rfl, ?_⟩
        (repeat (first | (with_reducible assumption) | (with_reducible exact Below.refl _ _) | (with_reducible refine Below.drew ?_) | ((with_reducible refine Below.setCell ?_ ?_ _); rotate_left; (focus (first | omega | (simp; done) | (simp; omega)))) | ((with_reducible refine below_row ?_ ?_ _); rotate_left; (focus (first | omega | (simp; done) | (simp; omega)))) | ((with_reducible refine Below.alloc ?_ ?_ _); rotate_left; (focus (first | omega | (simp; done) | (simp; omega))))))
set_option maxRecDepth 100000 in
set_option maxHeartbeats 2000000 in
theorem ctsample_through (c : B.Cs) (b : UInt8) (w : World) (h : B.RightM c) (hst : c.state = 2) (hb : B.okc b = true) :
    Calls Tryz.prog 14 #[.agg (ctA c), .int .u8 (b.toNat : Nat)] w fun e w' => e = .returned (.tuple #[.agg (ctA (c.sample b).1), .agg (evA (c.sample b).2), .int .i64 0]) ∧ Below w.heap.size w w' := by
  have CR := Lib.hid (fun w => ctright_any c w h)
  have CS := Lib.hid (fun w => ctsteps_any w)
  have HI := idx_2
  have CK0 := fun g w hR => st_through c g b w hR h hst hb
  have hbit := B.okc_cases hb
  obtain ⟨d, hd⟩ : ∃ d, d = (c.sample b).1 := ⟨_, rfl⟩
  obtain ⟨v, hv⟩ : ∃ d, d = (c.sample b).2 := ⟨_, rfl⟩
  rw [← hd, ← hv] at CK0
  rw [← hd, ← hv]
  have CK := Lib.hid CK0
  clear CK0 hd hv h hb
  obtain ⟨y, hy⟩ : ∃ y : Int, y = (b.toNat : Nat) := ⟨_, rfl⟩
  rw [← hy] at CK ⊢
  have hb1 : ((y != 48) && (y != 49)) = false := by
    rcases hbit with rfl | rfl <;> (rw [hy]; decide)
  clear hbit hy
  have hq : (y != 48) = false ∨ ((y != 48) = true ∧ (y != 49) = false) := by
    cases e : (y != 48)
    · exact .inl rfl
    · rw [e] at hb1; exact .inr ⟨rfl, by simpa using hb1⟩
  clear hb1
  rcases hq with hq1 | ⟨hq1, hq2⟩
  all_goals
    go_enter Tryz.func14, Tryz.ntmps14
    go_wp2_with (first
      | (go_at_call 21; (with_reducible refine (CR.out _).mono ?_); rintro e w1 ⟨rfl, hbw1⟩; have hr0 := (rowAt_below hbw1 w.heap.size (by first | omega | (simp; done) | (simp; omega))).trans (by simp [go_sem] : _ = some (ctA c)); have hr1 := (rowAt_below hbw1 (w.heap.size + 1) (by first | omega | (simp; done) | (simp; omega))).trans (by simp [go_sem] : _ = some (ctA B.cs0)); have hr2 := (rowAt_below hbw1 (w.heap.size + 2) (by first | omega | (simp; done) | (simp; omega))).trans (by simp [go_sem] : _ = some (evA B.ev0)); have hB1 := ((((Below.refl w.heap.size w).alloc (Nat.le_refl _) (.cells (ctA c) 33)).alloc (by first | omega | (simp; done) | (simp; omega)) (.cells (ctA B.cs0) 33)).alloc (by first | omega | (simp; done) | (simp; omega)) (.cells (evA B.ev0) 42)).trans (hbw1.mono (by first | omega | (simp; done) | (simp; omega))); have hz1 : w.heap.size + 3 ≤ w1.heap.size := (by have h := hbw1.size; (try simp at h); omega); have hc0 := rowAt_cell hr0; clear hbw1))
    go_upto_region 4 with fail
    obtain ⟨g, hg⟩ : ∃ g, g = w1.heap.size := ⟨_, rfl⟩
    rw [← hg]
    have hS : SmS w g c B.cs0 B.ev0 B.ev0 (w1.alloc (.cells (mA c B.ev0) 56)) := ⟨rowAt_new _ _ _ _ hg, (rowAt_past _ _ _ (by omega)).trans hr1, (rowAt_past _ _ _ (by omega)).trans hr2, hB1.alloc hB1.size _, by omega⟩
    have hr3 : rowAt (w1.alloc (.cells (mA c B.ev0) 56)) w.heap.size = some (ctA c) := (rowAt_past _ _ _ (by omega)).trans hr0
    clear hr0 hr1 hr2 hB1 hz1 hc0 hg CR
    generalize w1.alloc (.cells (mA c B.ev0) 56) = W at *
    have KS := Lib.hid (show ∀ wa wb, Below wa.heap.size wa wb → ((∀ i, wa.cell? ⟨w.heap.size, i, none⟩ = (ctA c)[i]?) ∧ rowAt wa w.heap.size = some (ctA c) ∧ SmS w g c B.cs0 B.ev0 B.ev0 wa) → ((∀ i, wb.cell? ⟨w.heap.size, i, none⟩ = (ctA c)[i]?) ∧ rowAt wb w.heap.size = some (ctA c) ∧ SmS w g c B.cs0 B.ev0 B.ev0 wb) from
      fun wa wb k ⟨h1, h2, h3⟩ => by have e := (rowAt_below k _ (rowAt_lt h2)).trans h2; exact ⟨rowAt_cell e, e, h3.keep k⟩)
    have hS0 := KS.out _ _ ((Below.refl _ W).drew) ⟨rowAt_cell hr3, hr3, hS⟩
    go_cut [8] from 24 to 28 (fun a wc => a = .func (.func 48) #[] #[] ∧ SmS w g c B.cs0 B.ev0 B.ev0 wc)
    case first =>
      go_region_held3 (fun W' => (∀ i, W'.cell? ⟨w.heap.size, i, none⟩ = (ctA c)[i]?) ∧ rowAt W' w.heap.size = some (ctA c) ∧ SmS w g c B.cs0 B.ev0 B.ev0 W')
        (first | (with_reducible assumption) | (with_reducible exact KS.out _ _ (by with_reducible assumption) (by with_reducible assumption)))
        (first
          | (go_at_call 26; (with_reducible refine (CS.out _).mono ?_); rintro e w2 ⟨rfl, hb2⟩))
      all_goals
        go_wp2_with fail
        go_meet
        case rel => exact ⟨rfl, (‹(∀ i, w2.cell? ⟨w.heap.size, i, none⟩ = (ctA c)[i]?) ∧ rowAt w2 w.heap.size = some (ctA c) ∧ SmS w g c B.cs0 B.ev0 B.ev0 w2›).2.2⟩
    case rest =>
      clear KS hS0 hS hr3
      obtain ⟨rfl, hS⟩ := hcut
      have hRm : rowAt wc g = some (mA c B.ev0) := hS.1
      go_wp2_with (go_at_call 48; (with_reducible refine (CK.out _ _ hRm).mono ?_); rintro e w4 ⟨rfl, hR4, hG4⟩; have hS4 := hS.met hG4 hR4)
      obtain ⟨hm, h1, h2, hB, hg3⟩ := hS4
      have hne1 : ¬ g = w.heap.size + 1 := by omega
      have hne2 : ¬ g = w.heap.size + 2 := by omega
      clear hS hRm hR4 hG4 CK CS HI
      go_region_held3 (fun W' => rowAt W' g = some (mA d v))
        (first | (with_reducible assumption) | (simp [go_sem, hm, hne1, hne2]; done))
        (fail)
      all_goals
        go_wp2_with fail
        refine bodyPost_ret (res_ct_ev_t Tryz.results14 _ _ (w.heap.size + 1) (w.heap.size + 2) d v rfl rfl (by simp [go_sem, h1]) (by simp [go_sem, h2])) rfl ⟨rfl, ?_⟩
        (repeat (first | (with_reducible assumption) | (with_reducible exact Below.refl _ _) | (with_reducible refine Below.drew ?_) | ((with_reducible refine Below.setCell ?_ ?_ _); rotate_left; (focus (first | omega | (simp; done) | (simp; omega)))) | ((with_reducible refine below_row ?_ ?_ _); rotate_left; (focus (first | omega | (simp; done) | (simp; omega)))) | ((with_reducible refine Below.alloc ?_ ?_ _); rotate_left; (focus (first | omega | (simp; done) | (simp; omega))))))
set_option maxRecDepth 100000 in
set_option maxHeartbeats 2000000 in
theorem ctsample_flag (c : B.Cs) (b : UInt8) (w : World) (h : B.RightM c) (hst : c.state = 3) (hb : B.okc b = true) :
    Calls Tryz.prog 14 #[.agg (ctA c), .int .u8 (b.toNat : Nat)] w fun e w' => e = .returned (.tuple #[.agg (ctA (c.sample b).1), .agg (evA (c.sample b).2), .int .i64 0]) ∧ Below w.heap.size w w' := by
  have CR := Lib.hid (fun w => ctright_any c w h)
  have CS := Lib.hid (fun w => ctsteps_any w)
  have HI := idx_3
  have CK0 := fun g w hR => st_flag c g b w hR h hst hb
  have hbit := B.okc_cases hb
  obtain ⟨d, hd⟩ : ∃ d, d = (c.sample b).1 := ⟨_, rfl⟩
  obtain ⟨v, hv⟩ : ∃ d, d = (c.sample b).2 := ⟨_, rfl⟩
  rw [← hd, ← hv] at CK0
  rw [← hd, ← hv]
  have CK := Lib.hid CK0
  clear CK0 hd hv h hb
  obtain ⟨y, hy⟩ : ∃ y : Int, y = (b.toNat : Nat) := ⟨_, rfl⟩
  rw [← hy] at CK ⊢
  have hb1 : ((y != 48) && (y != 49)) = false := by
    rcases hbit with rfl | rfl <;> (rw [hy]; decide)
  clear hbit hy
  have hq : (y != 48) = false ∨ ((y != 48) = true ∧ (y != 49) = false) := by
    cases e : (y != 48)
    · exact .inl rfl
    · rw [e] at hb1; exact .inr ⟨rfl, by simpa using hb1⟩
  clear hb1
  rcases hq with hq1 | ⟨hq1, hq2⟩
  all_goals
    go_enter Tryz.func14, Tryz.ntmps14
    go_wp2_with (first
      | (go_at_call 21; (with_reducible refine (CR.out _).mono ?_); rintro e w1 ⟨rfl, hbw1⟩; have hr0 := (rowAt_below hbw1 w.heap.size (by first | omega | (simp; done) | (simp; omega))).trans (by simp [go_sem] : _ = some (ctA c)); have hr1 := (rowAt_below hbw1 (w.heap.size + 1) (by first | omega | (simp; done) | (simp; omega))).trans (by simp [go_sem] : _ = some (ctA B.cs0)); have hr2 := (rowAt_below hbw1 (w.heap.size + 2) (by first | omega | (simp; done) | (simp; omega))).trans (by simp [go_sem] : _ = some (evA B.ev0)); have hB1 := ((((Below.refl w.heap.size w).alloc (Nat.le_refl _) (.cells (ctA c) 33)).alloc (by first | omega | (simp; done) | (simp; omega)) (.cells (ctA B.cs0) 33)).alloc (by first | omega | (simp; done) | (simp; omega)) (.cells (evA B.ev0) 42)).trans (hbw1.mono (by first | omega | (simp; done) | (simp; omega))); have hz1 : w.heap.size + 3 ≤ w1.heap.size := (by have h := hbw1.size; (try simp at h); omega); have hc0 := rowAt_cell hr0; clear hbw1))
    go_upto_region 4 with fail
    obtain ⟨g, hg⟩ : ∃ g, g = w1.heap.size := ⟨_, rfl⟩
    rw [← hg]
    have hS : SmS w g c B.cs0 B.ev0 B.ev0 (w1.alloc (.cells (mA c B.ev0) 56)) := ⟨rowAt_new _ _ _ _ hg, (rowAt_past _ _ _ (by omega)).trans hr1, (rowAt_past _ _ _ (by omega)).trans hr2, hB1.alloc hB1.size _, by omega⟩
    have hr3 : rowAt (w1.alloc (.cells (mA c B.ev0) 56)) w.heap.size = some (ctA c) := (rowAt_past _ _ _ (by omega)).trans hr0
    clear hr0 hr1 hr2 hB1 hz1 hc0 hg CR
    generalize w1.alloc (.cells (mA c B.ev0) 56) = W at *
    have KS := Lib.hid (show ∀ wa wb, Below wa.heap.size wa wb → ((∀ i, wa.cell? ⟨w.heap.size, i, none⟩ = (ctA c)[i]?) ∧ rowAt wa w.heap.size = some (ctA c) ∧ SmS w g c B.cs0 B.ev0 B.ev0 wa) → ((∀ i, wb.cell? ⟨w.heap.size, i, none⟩ = (ctA c)[i]?) ∧ rowAt wb w.heap.size = some (ctA c) ∧ SmS w g c B.cs0 B.ev0 B.ev0 wb) from
      fun wa wb k ⟨h1, h2, h3⟩ => by have e := (rowAt_below k _ (rowAt_lt h2)).trans h2; exact ⟨rowAt_cell e, e, h3.keep k⟩)
    have hS0 := KS.out _ _ ((Below.refl _ W).drew) ⟨rowAt_cell hr3, hr3, hS⟩
    go_cut [8] from 24 to 28 (fun a wc => a = .func (.func 49) #[] #[] ∧ SmS w g c B.cs0 B.ev0 B.ev0 wc)
    case first =>
      go_region_held3 (fun W' => (∀ i, W'.cell? ⟨w.heap.size, i, none⟩ = (ctA c)[i]?) ∧ rowAt W' w.heap.size = some (ctA c) ∧ SmS w g c B.cs0 B.ev0 B.ev0 W')
        (first | (with_reducible assumption) | (with_reducible exact KS.out _ _ (by with_reducible assumption) (by with_reducible assumption)))
        (first
          | (go_at_call 26; (with_reducible refine (CS.out _).mono ?_); rintro e w2 ⟨rfl, hb2⟩))
      all_goals
        go_wp2_with fail
        go_meet
        case rel => exact ⟨rfl, (‹(∀ i, w2.cell? ⟨w.heap.size, i, none⟩ = (ctA c)[i]?) ∧ rowAt w2 w.heap.size = some (ctA c) ∧ SmS w g c B.cs0 B.ev0 B.ev0 w2›).2.2⟩
    case rest =>
      clear KS hS0 hS hr3
      obtain ⟨rfl, hS⟩ := hcut
      have hRm : rowAt wc g = some (mA c B.ev0) := hS.1
      go_wp2_with (go_at_call 49; (with_reducible refine (CK.out _ _ hRm).mono ?_); rintro e w4 ⟨rfl, hR4, hG4⟩; have hS4 := hS.met hG4 hR4)
      obtain ⟨hm, h1, h2, hB, hg3⟩ := hS4
      have hne1 : ¬ g = w.heap.size + 1 := by omega
      have hne2 : ¬ g = w.heap.size + 2 := by omega
      clear hS hRm hR4 hG4 CK CS HI
      go_region_held3 (fun W' => rowAt W' g = some (mA d v))
        (first | (with_reducible assumption) | (simp [go_sem, hm, hne1, hne2]; done))
        (fail)
      all_goals
        go_wp2_with fail
        refine bodyPost_ret (res_ct_ev_t Tryz.results14 _ _ (w.heap.size + 1) (w.heap.size + 2) d v rfl rfl (by simp [go_sem, h1]) (by simp [go_sem, h2])) rfl ⟨rfl, ?_⟩
        (repeat (first | (with_reducible assumption) | (with_reducible exact Below.refl _ _) | (with_reducible refine Below.drew ?_) | ((with_reducible refine Below.setCell ?_ ?_ _); rotate_left; (focus (first | omega | (simp; done) | (simp; omega)))) | ((with_reducible refine below_row ?_ ?_ _); rotate_left; (focus (first | omega | (simp; done) | (simp; omega)))) | ((with_reducible refine Below.alloc ?_ ?_ _); rotate_left; (focus (first | omega | (simp; done) | (simp; omega))))))
set_option maxRecDepth 100000 in
set_option maxHeartbeats 2000000 in
theorem ctsample_echo (c : B.Cs) (b : UInt8) (w : World) (h : B.RightM c) (hst : c.state = 4) (hb : B.okc b = true) :
    Calls Tryz.prog 14 #[.agg (ctA c), .int .u8 (b.toNat : Nat)] w fun e w' => e = .returned (.tuple #[.agg (ctA (c.sample b).1), .agg (evA (c.sample b).2), .int .i64 0]) ∧ Below w.heap.size w w' := by
  have CR := Lib.hid (fun w => ctright_any c w h)
  have CS := Lib.hid (fun w => ctsteps_any w)
  have HI := idx_4
  have CK0 := fun g w hR => st_echo c g b w hR h hst hb
  have hbit := B.okc_cases hb
  obtain ⟨d, hd⟩ : ∃ d, d = (c.sample b).1 := ⟨_, rfl⟩
  obtain ⟨v, hv⟩ : ∃ d, d = (c.sample b).2 := ⟨_, rfl⟩
  rw [← hd, ← hv] at CK0
  rw [← hd, ← hv]
  have CK := Lib.hid CK0
  clear CK0 hd hv h hb
  obtain ⟨y, hy⟩ : ∃ y : Int, y = (b.toNat : Nat) := ⟨_, rfl⟩
  rw [← hy] at CK ⊢
  have hb1 : ((y != 48) && (y != 49)) = false := by
    rcases hbit with rfl | rfl <;> (rw [hy]; decide)
  clear hbit hy
  have hq : (y != 48) = false ∨ ((y != 48) = true ∧ (y != 49) = false) := by
    cases e : (y != 48)
    · exact .inl rfl
    · rw [e] at hb1; exact .inr ⟨rfl, by simpa using hb1⟩
  clear hb1
  rcases hq with hq1 | ⟨hq1, hq2⟩
  all_goals
    go_enter Tryz.func14, Tryz.ntmps14
    go_wp2_with (first
      | (go_at_call 21; (with_reducible refine (CR.out _).mono ?_); rintro e w1 ⟨rfl, hbw1⟩; have hr0 := (rowAt_below hbw1 w.heap.size (by first | omega | (simp; done) | (simp; omega))).trans (by simp [go_sem] : _ = some (ctA c)); have hr1 := (rowAt_below hbw1 (w.heap.size + 1) (by first | omega | (simp; done) | (simp; omega))).trans (by simp [go_sem] : _ = some (ctA B.cs0)); have hr2 := (rowAt_below hbw1 (w.heap.size + 2) (by first | omega | (simp; done) | (simp; omega))).trans (by simp [go_sem] : _ = some (evA B.ev0)); have hB1 := ((((Below.refl w.heap.size w).alloc (Nat.le_refl _) (.cells (ctA c) 33)).alloc (by first | omega | (simp; done) | (simp; omega)) (.cells (ctA B.cs0) 33)).alloc (by first | omega | (simp; done) | (simp; omega)) (.cells (evA B.ev0) 42)).trans (hbw1.mono (by first | omega | (simp; done) | (simp; omega))); have hz1 : w.heap.size + 3 ≤ w1.heap.size := (by have h := hbw1.size; (try simp at h); omega); have hc0 := rowAt_cell hr0; clear hbw1))
    go_upto_region 4 with fail
    obtain ⟨g, hg⟩ : ∃ g, g = w1.heap.size := ⟨_, rfl⟩
    rw [← hg]
    have hS : SmS w g c B.cs0 B.ev0 B.ev0 (w1.alloc (.cells (mA c B.ev0) 56)) := ⟨rowAt_new _ _ _ _ hg, (rowAt_past _ _ _ (by omega)).trans hr1, (rowAt_past _ _ _ (by omega)).trans hr2, hB1.alloc hB1.size _, by omega⟩
    have hr3 : rowAt (w1.alloc (.cells (mA c B.ev0) 56)) w.heap.size = some (ctA c) := (rowAt_past _ _ _ (by omega)).trans hr0
    clear hr0 hr1 hr2 hB1 hz1 hc0 hg CR
    generalize w1.alloc (.cells (mA c B.ev0) 56) = W at *
    have KS := Lib.hid (show ∀ wa wb, Below wa.heap.size wa wb → ((∀ i, wa.cell? ⟨w.heap.size, i, none⟩ = (ctA c)[i]?) ∧ rowAt wa w.heap.size = some (ctA c) ∧ SmS w g c B.cs0 B.ev0 B.ev0 wa) → ((∀ i, wb.cell? ⟨w.heap.size, i, none⟩ = (ctA c)[i]?) ∧ rowAt wb w.heap.size = some (ctA c) ∧ SmS w g c B.cs0 B.ev0 B.ev0 wb) from
      fun wa wb k ⟨h1, h2, h3⟩ => by have e := (rowAt_below k _ (rowAt_lt h2)).trans h2; exact ⟨rowAt_cell e, e, h3.keep k⟩)
    have hS0 := KS.out _ _ ((Below.refl _ W).drew) ⟨rowAt_cell hr3, hr3, hS⟩
    go_cut [8] from 24 to 28 (fun a wc => a = .func (.func 50) #[] #[] ∧ SmS w g c B.cs0 B.ev0 B.ev0 wc)
    case first =>
      go_region_held3 (fun W' => (∀ i, W'.cell? ⟨w.heap.size, i, none⟩ = (ctA c)[i]?) ∧ rowAt W' w.heap.size = some (ctA c) ∧ SmS w g c B.cs0 B.ev0 B.ev0 W')
        (first | (with_reducible assumption) | (with_reducible exact KS.out _ _ (by with_reducible assumption) (by with_reducible assumption)))
        (first
          | (go_at_call 26; (with_reducible refine (CS.out _).mono ?_); rintro e w2 ⟨rfl, hb2⟩))
      all_goals
        go_wp2_with fail
        go_meet
        case rel => exact ⟨rfl, (‹(∀ i, w2.cell? ⟨w.heap.size, i, none⟩ = (ctA c)[i]?) ∧ rowAt w2 w.heap.size = some (ctA c) ∧ SmS w g c B.cs0 B.ev0 B.ev0 w2›).2.2⟩
    case rest =>
      clear KS hS0 hS hr3
      obtain ⟨rfl, hS⟩ := hcut
      have hRm : rowAt wc g = some (mA c B.ev0) := hS.1
      go_wp2_with (go_at_call 50; (with_reducible refine (CK.out _ _ hRm).mono ?_); rintro e w4 ⟨rfl, hR4, hG4⟩; have hS4 := hS.met hG4 hR4)
      obtain ⟨hm, h1, h2, hB, hg3⟩ := hS4
      have hne1 : ¬ g = w.heap.size + 1 := by omega
      have hne2 : ¬ g = w.heap.size + 2 := by omega
      clear hS hRm hR4 hG4 CK CS HI
      go_region_held3 (fun W' => rowAt W' g = some (mA d v))
        (first | (with_reducible assumption) | (simp [go_sem, hm, hne1, hne2]; done))
        (fail)
      all_goals
        go_wp2_with fail
        refine bodyPost_ret (res_ct_ev_t Tryz.results14 _ _ (w.heap.size + 1) (w.heap.size + 2) d v rfl rfl (by simp [go_sem, h1]) (by simp [go_sem, h2])) rfl ⟨rfl, ?_⟩
        (repeat (first | (with_reducible assumption) | (with_reducible exact Below.refl _ _) | (with_reducible refine Below.drew ?_) | ((with_reducible refine Below.setCell ?_ ?_ _); rotate_left; (focus (first | omega | (simp; done) | (simp; omega)))) | ((with_reducible refine below_row ?_ ?_ _); rotate_left; (focus (first | omega | (simp; done) | (simp; omega)))) | ((with_reducible refine Below.alloc ?_ ?_ _); rotate_left; (focus (first | omega | (simp; done) | (simp; omega))))))
set_option maxRecDepth 100000 in
set_option maxHeartbeats 2000000 in
theorem ctsample_delim (c : B.Cs) (b : UInt8) (w : World) (h : B.RightM c) (hst : c.state = 5) (hb : B.okc b = true) :
    Calls Tryz.prog 14 #[.agg (ctA c), .int .u8 (b.toNat : Nat)] w fun e w' => e = .returned (.tuple #[.agg (ctA (c.sample b).1), .agg (evA (c.sample b).2), .int .i64 0]) ∧ Below w.heap.size w w' := by
  have CR := Lib.hid (fun w => ctright_any c w h)
  have CS := Lib.hid (fun w => ctsteps_any w)
  have HI := idx_5
  have CK0 := fun g w hR => st_delim c g b w hR h hst hb
  have hbit := B.okc_cases hb
  obtain ⟨d, hd⟩ : ∃ d, d = (c.sample b).1 := ⟨_, rfl⟩
  obtain ⟨v, hv⟩ : ∃ d, d = (c.sample b).2 := ⟨_, rfl⟩
  rw [← hd, ← hv] at CK0
  rw [← hd, ← hv]
  have CK := Lib.hid CK0
  clear CK0 hd hv h hb
  obtain ⟨y, hy⟩ : ∃ y : Int, y = (b.toNat : Nat) := ⟨_, rfl⟩
  rw [← hy] at CK ⊢
  have hb1 : ((y != 48) && (y != 49)) = false := by
    rcases hbit with rfl | rfl <;> (rw [hy]; decide)
  clear hbit hy
  have hq : (y != 48) = false ∨ ((y != 48) = true ∧ (y != 49) = false) := by
    cases e : (y != 48)
    · exact .inl rfl
    · rw [e] at hb1; exact .inr ⟨rfl, by simpa using hb1⟩
  clear hb1
  rcases hq with hq1 | ⟨hq1, hq2⟩
  all_goals
    go_enter Tryz.func14, Tryz.ntmps14
    go_wp2_with (first
      | (go_at_call 21; (with_reducible refine (CR.out _).mono ?_); rintro e w1 ⟨rfl, hbw1⟩; have hr0 := (rowAt_below hbw1 w.heap.size (by first | omega | (simp; done) | (simp; omega))).trans (by simp [go_sem] : _ = some (ctA c)); have hr1 := (rowAt_below hbw1 (w.heap.size + 1) (by first | omega | (simp; done) | (simp; omega))).trans (by simp [go_sem] : _ = some (ctA B.cs0)); have hr2 := (rowAt_below hbw1 (w.heap.size + 2) (by first | omega | (simp; done) | (simp; omega))).trans (by simp [go_sem] : _ = some (evA B.ev0)); have hB1 := ((((Below.refl w.heap.size w).alloc (Nat.le_refl _) (.cells (ctA c) 33)).alloc (by first | omega | (simp; done) | (simp; omega)) (.cells (ctA B.cs0) 33)).alloc (by first | omega | (simp; done) | (simp; omega)) (.cells (evA B.ev0) 42)).trans (hbw1.mono (by first | omega | (simp; done) | (simp; omega))); have hz1 : w.heap.size + 3 ≤ w1.heap.size := (by have h := hbw1.size; (try simp at h); omega); have hc0 := rowAt_cell hr0; clear hbw1))
    go_upto_region 4 with fail
    obtain ⟨g, hg⟩ : ∃ g, g = w1.heap.size := ⟨_, rfl⟩
    rw [← hg]
    have hS : SmS w g c B.cs0 B.ev0 B.ev0 (w1.alloc (.cells (mA c B.ev0) 56)) := ⟨rowAt_new _ _ _ _ hg, (rowAt_past _ _ _ (by omega)).trans hr1, (rowAt_past _ _ _ (by omega)).trans hr2, hB1.alloc hB1.size _, by omega⟩
    have hr3 : rowAt (w1.alloc (.cells (mA c B.ev0) 56)) w.heap.size = some (ctA c) := (rowAt_past _ _ _ (by omega)).trans hr0
    clear hr0 hr1 hr2 hB1 hz1 hc0 hg CR
    generalize w1.alloc (.cells (mA c B.ev0) 56) = W at *
    have KS := Lib.hid (show ∀ wa wb, Below wa.heap.size wa wb → ((∀ i, wa.cell? ⟨w.heap.size, i, none⟩ = (ctA c)[i]?) ∧ rowAt wa w.heap.size = some (ctA c) ∧ SmS w g c B.cs0 B.ev0 B.ev0 wa) → ((∀ i, wb.cell? ⟨w.heap.size, i, none⟩ = (ctA c)[i]?) ∧ rowAt wb w.heap.size = some (ctA c) ∧ SmS w g c B.cs0 B.ev0 B.ev0 wb) from
      fun wa wb k ⟨h1, h2, h3⟩ => by have e := (rowAt_below k _ (rowAt_lt h2)).trans h2; exact ⟨rowAt_cell e, e, h3.keep k⟩)
    have hS0 := KS.out _ _ ((Below.refl _ W).drew) ⟨rowAt_cell hr3, hr3, hS⟩
    go_cut [8] from 24 to 28 (fun a wc => a = .func (.func 51) #[] #[] ∧ SmS w g c B.cs0 B.ev0 B.ev0 wc)
    case first =>
      go_region_held3 (fun W' => (∀ i, W'.cell? ⟨w.heap.size, i, none⟩ = (ctA c)[i]?) ∧ rowAt W' w.heap.size = some (ctA c) ∧ SmS w g c B.cs0 B.ev0 B.ev0 W')
        (first | (with_reducible assumption) | (with_reducible exact KS.out _ _ (by with_reducible assumption) (by with_reducible assumption)))
        (first
          | (go_at_call 26; (with_reducible refine (CS.out _).mono ?_); rintro e w2 ⟨rfl, hb2⟩))
      all_goals
        go_wp2_with fail
        go_meet
        case rel => exact ⟨rfl, (‹(∀ i, w2.cell? ⟨w.heap.size, i, none⟩ = (ctA c)[i]?) ∧ rowAt w2 w.heap.size = some (ctA c) ∧ SmS w g c B.cs0 B.ev0 B.ev0 w2›).2.2⟩
    case rest =>
      clear KS hS0 hS hr3
      obtain ⟨rfl, hS⟩ := hcut
      have hRm : rowAt wc g = some (mA c B.ev0) := hS.1
      go_wp2_with (go_at_call 51; (with_reducible refine (CK.out _ _ hRm).mono ?_); rintro e w4 ⟨rfl, hR4, hG4⟩; have hS4 := hS.met hG4 hR4)
      obtain ⟨hm, h1, h2, hB, hg3⟩ := hS4
      have hne1 : ¬ g = w.heap.size + 1 := by omega
      have hne2 : ¬ g = w.heap.size + 2 := by omega
      clear hS hRm hR4 hG4 CK CS HI
      go_region_held3 (fun W' => rowAt W' g = some (mA d v))
        (first | (with_reducible assumption) | (simp [go_sem, hm, hne1, hne2]; done))
        (fail)
      all_goals
        go_wp2_with fail
        refine bodyPost_ret (res_ct_ev_t Tryz.results14 _ _ (w.heap.size + 1) (w.heap.size + 2) d v rfl rfl (by simp [go_sem, h1]) (by simp [go_sem, h2])) rfl ⟨rfl, ?_⟩
        (repeat (first | (with_reducible assumption) | (with_reducible exact Below.refl _ _) | (with_reducible refine Below.drew ?_) | ((with_reducible refine Below.setCell ?_ ?_ _); rotate_left; (focus (first | omega | (simp; done) | (simp; omega)))) | ((with_reducible refine below_row ?_ ?_ _); rotate_left; (focus (first | omega | (simp; done) | (simp; omega)))) | ((with_reducible refine Below.alloc ?_ ?_ _); rotate_left; (focus (first | omega | (simp; done) | (simp; omega))))))
set_option maxRecDepth 100000 in
set_option maxHeartbeats 2000000 in
theorem ctsample_gap (c : B.Cs) (b : UInt8) (w : World) (h : B.RightM c) (hst : c.state = 6) (hb : B.okc b = true) :
    Calls Tryz.prog 14 #[.agg (ctA c), .int .u8 (b.toNat : Nat)] w fun e w' => e = .returned (.tuple #[.agg (ctA (c.sample b).1), .agg (evA (c.sample b).2), .int .i64 0]) ∧ Below w.heap.size w w' := by
  have CR := Lib.hid (fun w => ctright_any c w h)
  have CS := Lib.hid (fun w => ctsteps_any w)
  have HI := idx_6
  have CK0 := fun g w hR => st_gap c g b w hR h hst hb
  have hbit := B.okc_cases hb
  obtain ⟨d, hd⟩ : ∃ d, d = (c.sample b).1 := ⟨_, rfl⟩
  obtain ⟨v, hv⟩ : ∃ d, d = (c.sample b).2 := ⟨_, rfl⟩
  rw [← hd, ← hv] at CK0
  rw [← hd, ← hv]
  have CK := Lib.hid CK0
  clear CK0 hd hv h hb
  obtain ⟨y, hy⟩ : ∃ y : Int, y = (b.toNat : Nat) := ⟨_, rfl⟩
  rw [← hy] at CK ⊢
  have hb1 : ((y != 48) && (y != 49)) = false := by
    rcases hbit with rfl | rfl <;> (rw [hy]; decide)
  clear hbit hy
  have hq : (y != 48) = false ∨ ((y != 48) = true ∧ (y != 49) = false) := by
    cases e : (y != 48)
    · exact .inl rfl
    · rw [e] at hb1; exact .inr ⟨rfl, by simpa using hb1⟩
  clear hb1
  rcases hq with hq1 | ⟨hq1, hq2⟩
  all_goals
    go_enter Tryz.func14, Tryz.ntmps14
    go_wp2_with (first
      | (go_at_call 21; (with_reducible refine (CR.out _).mono ?_); rintro e w1 ⟨rfl, hbw1⟩; have hr0 := (rowAt_below hbw1 w.heap.size (by first | omega | (simp; done) | (simp; omega))).trans (by simp [go_sem] : _ = some (ctA c)); have hr1 := (rowAt_below hbw1 (w.heap.size + 1) (by first | omega | (simp; done) | (simp; omega))).trans (by simp [go_sem] : _ = some (ctA B.cs0)); have hr2 := (rowAt_below hbw1 (w.heap.size + 2) (by first | omega | (simp; done) | (simp; omega))).trans (by simp [go_sem] : _ = some (evA B.ev0)); have hB1 := ((((Below.refl w.heap.size w).alloc (Nat.le_refl _) (.cells (ctA c) 33)).alloc (by first | omega | (simp; done) | (simp; omega)) (.cells (ctA B.cs0) 33)).alloc (by first | omega | (simp; done) | (simp; omega)) (.cells (evA B.ev0) 42)).trans (hbw1.mono (by first | omega | (simp; done) | (simp; omega))); have hz1 : w.heap.size + 3 ≤ w1.heap.size := (by have h := hbw1.size; (try simp at h); omega); have hc0 := rowAt_cell hr0; clear hbw1))
    go_upto_region 4 with fail
    obtain ⟨g, hg⟩ : ∃ g, g = w1.heap.size := ⟨_, rfl⟩
    rw [← hg]
    have hS : SmS w g c B.cs0 B.ev0 B.ev0 (w1.alloc (.cells (mA c B.ev0) 56)) := ⟨rowAt_new _ _ _ _ hg, (rowAt_past _ _ _ (by omega)).trans hr1, (rowAt_past _ _ _ (by omega)).trans hr2, hB1.alloc hB1.size _, by omega⟩
    have hr3 : rowAt (w1.alloc (.cells (mA c B.ev0) 56)) w.heap.size = some (ctA c) := (rowAt_past _ _ _ (by omega)).trans hr0
    clear hr0 hr1 hr2 hB1 hz1 hc0 hg CR
    generalize w1.alloc (.cells (mA c B.ev0) 56) = W at *
    have KS := Lib.hid (show ∀ wa wb, Below wa.heap.size wa wb → ((∀ i, wa.cell? ⟨w.heap.size, i, none⟩ = (ctA c)[i]?) ∧ rowAt wa w.heap.size = some (ctA c) ∧ SmS w g c B.cs0 B.ev0 B.ev0 wa) → ((∀ i, wb.cell? ⟨w.heap.size, i, none⟩ = (ctA c)[i]?) ∧ rowAt wb w.heap.size = some (ctA c) ∧ SmS w g c B.cs0 B.ev0 B.ev0 wb) from
      fun wa wb k ⟨h1, h2, h3⟩ => by have e := (rowAt_below k _ (rowAt_lt h2)).trans h2; exact ⟨rowAt_cell e, e, h3.keep k⟩)
    have hS0 := KS.out _ _ ((Below.refl _ W).drew) ⟨rowAt_cell hr3, hr3, hS⟩
    go_cut [8] from 24 to 28 (fun a wc => a = .func (.func 52) #[] #[] ∧ SmS w g c B.cs0 B.ev0 B.ev0 wc)
    case first =>
      go_region_held3 (fun W' => (∀ i, W'.cell? ⟨w.heap.size, i, none⟩ = (ctA c)[i]?) ∧ rowAt W' w.heap.size = some (ctA c) ∧ SmS w g c B.cs0 B.ev0 B.ev0 W')
        (first | (with_reducible assumption) | (with_reducible exact KS.out _ _ (by with_reducible assumption) (by with_reducible assumption)))
        (first
          | (go_at_call 26; (with_reducible refine (CS.out _).mono ?_); rintro e w2 ⟨rfl, hb2⟩))
      all_goals
        go_wp2_with fail
        go_meet
        case rel => exact ⟨rfl, (‹(∀ i, w2.cell? ⟨w.heap.size, i, none⟩ = (ctA c)[i]?) ∧ rowAt w2 w.heap.size = some (ctA c) ∧ SmS w g c B.cs0 B.ev0 B.ev0 w2›).2.2⟩
    case rest =>
      clear KS hS0 hS hr3
      obtain ⟨rfl, hS⟩ := hcut
      have hRm : rowAt wc g = some (mA c B.ev0) := hS.1
      go_wp2_with (go_at_call 52; (with_reducible refine (CK.out _ _ hRm).mono ?_); rintro e w4 ⟨rfl, hR4, hG4⟩; have hS4 := hS.met hG4 hR4)
      obtain ⟨hm, h1, h2, hB, hg3⟩ := hS4
      have hne1 : ¬ g = w.heap.size + 1 := by omega
      have hne2 : ¬ g = w.heap.size + 2 := by omega
      clear hS hRm hR4 hG4 CK CS HI
      go_region_held3 (fun W' => rowAt W' g = some (mA d v))
        (first | (with_reducible assumption) | (simp [go_sem, hm, hne1, hne2]; done))
        (fail)
      all_goals
        go_wp2_with fail
        refine bodyPost_ret (res_ct_ev_t Tryz.results14 _ _ (w.heap.size + 1) (w.heap.size + 2) d v rfl rfl (by simp [go_sem, h1]) (by simp [go_sem, h2])) rfl ⟨rfl, ?_⟩
        (repeat (first | (with_reducible assumption) | (with_reducible exact Below.refl _ _) | (with_reducible refine Below.drew ?_) | ((with_reducible refine Below.setCell ?_ ?_ _); rotate_left; (focus (first | omega | (simp; done) | (simp; omega)))) | ((with_reducible refine below_row ?_ ?_ _); rotate_left; (focus (first | omega | (simp; done) | (simp; omega)))) | ((with_reducible refine Below.alloc ?_ ?_ _); rotate_left; (focus (first | omega | (simp; done) | (simp; omega))))))
set_option maxRecDepth 100000 in
set_option maxHeartbeats 2000000 in
theorem ctsample_hold (c : B.Cs) (b : UInt8) (w : World) (h : B.RightM c) (hst : c.state = 7) (hb : B.okc b = true) :
    Calls Tryz.prog 14 #[.agg (ctA c), .int .u8 (b.toNat : Nat)] w fun e w' => e = .returned (.tuple #[.agg (ctA (c.sample b).1), .agg (evA (c.sample b).2), .int .i64 0]) ∧ Below w.heap.size w w' := by
  have CR := Lib.hid (fun w => ctright_any c w h)
  have CS := Lib.hid (fun w => ctsteps_any w)
  have HI := idx_7
  have CK0 := fun g w hR => st_hold c g b w hR h hst hb
  have hbit := B.okc_cases hb
  obtain ⟨d, hd⟩ : ∃ d, d = (c.sample b).1 := ⟨_, rfl⟩
  obtain ⟨v, hv⟩ : ∃ d, d = (c.sample b).2 := ⟨_, rfl⟩
  rw [← hd, ← hv] at CK0
  rw [← hd, ← hv]
  have CK := Lib.hid CK0
  clear CK0 hd hv h hb
  obtain ⟨y, hy⟩ : ∃ y : Int, y = (b.toNat : Nat) := ⟨_, rfl⟩
  rw [← hy] at CK ⊢
  have hb1 : ((y != 48) && (y != 49)) = false := by
    rcases hbit with rfl | rfl <;> (rw [hy]; decide)
  clear hbit hy
  have hq : (y != 48) = false ∨ ((y != 48) = true ∧ (y != 49) = false) := by
    cases e : (y != 48)
    · exact .inl rfl
    · rw [e] at hb1; exact .inr ⟨rfl, by simpa using hb1⟩
  clear hb1
  rcases hq with hq1 | ⟨hq1, hq2⟩
  all_goals
    go_enter Tryz.func14, Tryz.ntmps14
    go_wp2_with (first
      | (go_at_call 21; (with_reducible refine (CR.out _).mono ?_); rintro e w1 ⟨rfl, hbw1⟩; have hr0 := (rowAt_below hbw1 w.heap.size (by first | omega | (simp; done) | (simp; omega))).trans (by simp [go_sem] : _ = some (ctA c)); have hr1 := (rowAt_below hbw1 (w.heap.size + 1) (by first | omega | (simp; done) | (simp; omega))).trans (by simp [go_sem] : _ = some (ctA B.cs0)); have hr2 := (rowAt_below hbw1 (w.heap.size + 2) (by first | omega | (simp; done) | (simp; omega))).trans (by simp [go_sem] : _ = some (evA B.ev0)); have hB1 := ((((Below.refl w.heap.size w).alloc (Nat.le_refl _) (.cells (ctA c) 33)).alloc (by first | omega | (simp; done) | (simp; omega)) (.cells (ctA B.cs0) 33)).alloc (by first | omega | (simp; done) | (simp; omega)) (.cells (evA B.ev0) 42)).trans (hbw1.mono (by first | omega | (simp; done) | (simp; omega))); have hz1 : w.heap.size + 3 ≤ w1.heap.size := (by have h := hbw1.size; (try simp at h); omega); have hc0 := rowAt_cell hr0; clear hbw1))
    go_upto_region 4 with fail
    obtain ⟨g, hg⟩ : ∃ g, g = w1.heap.size := ⟨_, rfl⟩
    rw [← hg]
    have hS : SmS w g c B.cs0 B.ev0 B.ev0 (w1.alloc (.cells (mA c B.ev0) 56)) := ⟨rowAt_new _ _ _ _ hg, (rowAt_past _ _ _ (by omega)).trans hr1, (rowAt_past _ _ _ (by omega)).trans hr2, hB1.alloc hB1.size _, by omega⟩
    have hr3 : rowAt (w1.alloc (.cells (mA c B.ev0) 56)) w.heap.size = some (ctA c) := (rowAt_past _ _ _ (by omega)).trans hr0
    clear hr0 hr1 hr2 hB1 hz1 hc0 hg CR
    generalize w1.alloc (.cells (mA c B.ev0) 56) = W at *
    have KS := Lib.hid (show ∀ wa wb, Below wa.heap.size wa wb → ((∀ i, wa.cell? ⟨w.heap.size, i, none⟩ = (ctA c)[i]?) ∧ rowAt wa w.heap.size = some (ctA c) ∧ SmS w g c B.cs0 B.ev0 B.ev0 wa) → ((∀ i, wb.cell? ⟨w.heap.size, i, none⟩ = (ctA c)[i]?) ∧ rowAt wb w.heap.size = some (ctA c) ∧ SmS w g c B.cs0 B.ev0 B.ev0 wb) from
      fun wa wb k ⟨h1, h2, h3⟩ => by have e := (rowAt_below k _ (rowAt_lt h2)).trans h2; exact ⟨rowAt_cell e, e, h3.keep k⟩)
    have hS0 := KS.out _ _ ((Below.refl _ W).drew) ⟨rowAt_cell hr3, hr3, hS⟩
    go_cut [8] from 24 to 28 (fun a wc => a = .func (.func 53) #[] #[] ∧ SmS w g c B.cs0 B.ev0 B.ev0 wc)
    case first =>
      go_region_held3 (fun W' => (∀ i, W'.cell? ⟨w.heap.size, i, none⟩ = (ctA c)[i]?) ∧ rowAt W' w.heap.size = some (ctA c) ∧ SmS w g c B.cs0 B.ev0 B.ev0 W')
        (first | (with_reducible assumption) | (with_reducible exact KS.out _ _ (by with_reducible assumption) (by with_reducible assumption)))
        (first
          | (go_at_call 26; (with_reducible refine (CS.out _).mono ?_); rintro e w2 ⟨rfl, hb2⟩))
      all_goals
        go_wp2_with fail
        go_meet
        case rel => exact ⟨rfl, (‹(∀ i, w2.cell? ⟨w.heap.size, i, none⟩ = (ctA c)[i]?) ∧ rowAt w2 w.heap.size = some (ctA c) ∧ SmS w g c B.cs0 B.ev0 B.ev0 w2›).2.2⟩
    case rest =>
      clear KS hS0 hS hr3
      obtain ⟨rfl, hS⟩ := hcut
      have hRm : rowAt wc g = some (mA c B.ev0) := hS.1
      go_wp2_with (go_at_call 53; (with_reducible refine (CK.out _ _ hRm).mono ?_); rintro e w4 ⟨rfl, hR4, hG4⟩; have hS4 := hS.met hG4 hR4)
      obtain ⟨hm, h1, h2, hB, hg3⟩ := hS4
      have hne1 : ¬ g = w.heap.size + 1 := by omega
      have hne2 : ¬ g = w.heap.size + 2 := by omega
      clear hS hRm hR4 hG4 CK CS HI
      go_region_held3 (fun W' => rowAt W' g = some (mA d v))
        (first | (with_reducible assumption) | (simp [go_sem, hm, hne1, hne2]; done))
        (fail)
      all_goals
        go_wp2_with fail
        refine bodyPost_ret (res_ct_ev_t Tryz.results14 _ _ (w.heap.size + 1) (w.heap.size + 2) d v rfl rfl (by simp [go_sem, h1]) (by simp [go_sem, h2])) rfl ⟨rfl, ?_⟩
        (repeat (first | (with_reducible assumption) | (with_reducible exact Below.refl _ _) | (with_reducible refine Below.drew ?_) | ((with_reducible refine Below.setCell ?_ ?_ _); rotate_left; (focus (first | omega | (simp; done) | (simp; omega)))) | ((with_reducible refine below_row ?_ ?_ _); rotate_left; (focus (first | omega | (simp; done) | (simp; omega)))) | ((with_reducible refine Below.alloc ?_ ?_ _); rotate_left; (focus (first | omega | (simp; done) | (simp; omega))))))
set_option maxRecDepth 100000 in
set_option maxHeartbeats 2000000 in
theorem ctsample_rest (c : B.Cs) (b : UInt8) (w : World) (h : B.RightM c) (hst : c.state = 8) (hb : B.okc b = true) :
    Calls Tryz.prog 14 #[.agg (ctA c), .int .u8 (b.toNat : Nat)] w fun e w' => e = .returned (.tuple #[.agg (ctA (c.sample b).1), .agg (evA (c.sample b).2), .int .i64 0]) ∧ Below w.heap.size w w' := by
  have CR := Lib.hid (fun w => ctright_any c w h)
  have CS := Lib.hid (fun w => ctsteps_any w)
  have HI := idx_8
  have CK0 := fun g w hR => st_rest c g b w hR h hst hb
  have hbit := B.okc_cases hb
  obtain ⟨d, hd⟩ : ∃ d, d = (c.sample b).1 := ⟨_, rfl⟩
  obtain ⟨v, hv⟩ : ∃ d, d = (c.sample b).2 := ⟨_, rfl⟩
  rw [← hd, ← hv] at CK0
  rw [← hd, ← hv]
  have CK := Lib.hid CK0
  clear CK0 hd hv h hb
  obtain ⟨y, hy⟩ : ∃ y : Int, y = (b.toNat : Nat) := ⟨_, rfl⟩
  rw [← hy] at CK ⊢
  have hb1 : ((y != 48) && (y != 49)) = false := by
    rcases hbit with rfl | rfl <;> (rw [hy]; decide)
  clear hbit hy
  have hq : (y != 48) = false ∨ ((y != 48) = true ∧ (y != 49) = false) := by
    cases e : (y != 48)
    · exact .inl rfl
    · rw [e] at hb1; exact .inr ⟨rfl, by simpa using hb1⟩
  clear hb1
  rcases hq with hq1 | ⟨hq1, hq2⟩
  all_goals
    go_enter Tryz.func14, Tryz.ntmps14
    go_wp2_with (first
      | (go_at_call 21; (with_reducible refine (CR.out _).mono ?_); rintro e w1 ⟨rfl, hbw1⟩; have hr0 := (rowAt_below hbw1 w.heap.size (by first | omega | (simp; done) | (simp; omega))).trans (by simp [go_sem] : _ = some (ctA c)); have hr1 := (rowAt_below hbw1 (w.heap.size + 1) (by first | omega | (simp; done) | (simp; omega))).trans (by simp [go_sem] : _ = some (ctA B.cs0)); have hr2 := (rowAt_below hbw1 (w.heap.size + 2) (by first | omega | (simp; done) | (simp; omega))).trans (by simp [go_sem] : _ = some (evA B.ev0)); have hB1 := ((((Below.refl w.heap.size w).alloc (Nat.le_refl _) (.cells (ctA c) 33)).alloc (by first | omega | (simp; done) | (simp; omega)) (.cells (ctA B.cs0) 33)).alloc (by first | omega | (simp; done) | (simp; omega)) (.cells (evA B.ev0) 42)).trans (hbw1.mono (by first | omega | (simp; done) | (simp; omega))); have hz1 : w.heap.size + 3 ≤ w1.heap.size := (by have h := hbw1.size; (try simp at h); omega); have hc0 := rowAt_cell hr0; clear hbw1))
    go_upto_region 4 with fail
    obtain ⟨g, hg⟩ : ∃ g, g = w1.heap.size := ⟨_, rfl⟩
    rw [← hg]
    have hS : SmS w g c B.cs0 B.ev0 B.ev0 (w1.alloc (.cells (mA c B.ev0) 56)) := ⟨rowAt_new _ _ _ _ hg, (rowAt_past _ _ _ (by omega)).trans hr1, (rowAt_past _ _ _ (by omega)).trans hr2, hB1.alloc hB1.size _, by omega⟩
    have hr3 : rowAt (w1.alloc (.cells (mA c B.ev0) 56)) w.heap.size = some (ctA c) := (rowAt_past _ _ _ (by omega)).trans hr0
    clear hr0 hr1 hr2 hB1 hz1 hc0 hg CR
    generalize w1.alloc (.cells (mA c B.ev0) 56) = W at *
    have KS := Lib.hid (show ∀ wa wb, Below wa.heap.size wa wb → ((∀ i, wa.cell? ⟨w.heap.size, i, none⟩ = (ctA c)[i]?) ∧ rowAt wa w.heap.size = some (ctA c) ∧ SmS w g c B.cs0 B.ev0 B.ev0 wa) → ((∀ i, wb.cell? ⟨w.heap.size, i, none⟩ = (ctA c)[i]?) ∧ rowAt wb w.heap.size = some (ctA c) ∧ SmS w g c B.cs0 B.ev0 B.ev0 wb) from
      fun wa wb k ⟨h1, h2, h3⟩ => by have e := (rowAt_below k _ (rowAt_lt h2)).trans h2; exact ⟨rowAt_cell e, e, h3.keep k⟩)
    have hS0 := KS.out _ _ ((Below.refl _ W).drew) ⟨rowAt_cell hr3, hr3, hS⟩
    go_cut [8] from 24 to 28 (fun a wc => a = .func (.func 54) #[] #[] ∧ SmS w g c B.cs0 B.ev0 B.ev0 wc)
    case first =>
      go_region_held3 (fun W' => (∀ i, W'.cell? ⟨w.heap.size, i, none⟩ = (ctA c)[i]?) ∧ rowAt W' w.heap.size = some (ctA c) ∧ SmS w g c B.cs0 B.ev0 B.ev0 W')
        (first | (with_reducible assumption) | (with_reducible exact KS.out _ _ (by with_reducible assumption) (by with_reducible assumption)))
        (first
          | (go_at_call 26; (with_reducible refine (CS.out _).mono ?_); rintro e w2 ⟨rfl, hb2⟩))
      all_goals
        go_wp2_with fail
        go_meet
        case rel => exact ⟨rfl, (‹(∀ i, w2.cell? ⟨w.heap.size, i, none⟩ = (ctA c)[i]?) ∧ rowAt w2 w.heap.size = some (ctA c) ∧ SmS w g c B.cs0 B.ev0 B.ev0 w2›).2.2⟩
    case rest =>
      clear KS hS0 hS hr3
      obtain ⟨rfl, hS⟩ := hcut
      have hRm : rowAt wc g = some (mA c B.ev0) := hS.1
      go_wp2_with (go_at_call 54; (with_reducible refine (CK.out _ _ hRm).mono ?_); rintro e w4 ⟨rfl, hR4, hG4⟩; have hS4 := hS.met hG4 hR4)
      obtain ⟨hm, h1, h2, hB, hg3⟩ := hS4
      have hne1 : ¬ g = w.heap.size + 1 := by omega
      have hne2 : ¬ g = w.heap.size + 2 := by omega
      clear hS hRm hR4 hG4 CK CS HI
      go_region_held3 (fun W' => rowAt W' g = some (mA d v))
        (first | (with_reducible assumption) | (simp [go_sem, hm, hne1, hne2]; done))
        (fail)
      all_goals
        go_wp2_with fail
        refine bodyPost_ret (res_ct_ev_t Tryz.results14 _ _ (w.heap.size + 1) (w.heap.size + 2) d v rfl rfl (by simp [go_sem, h1]) (by simp [go_sem, h2])) rfl ⟨rfl, ?_⟩
        (repeat (first | (with_reducible assumption) | (with_reducible exact Below.refl _ _) | (with_reducible refine Below.drew ?_) | ((with_reducible refine Below.setCell ?_ ?_ _); rotate_left; (focus (first | omega | (simp; done) | (simp; omega)))) | ((with_reducible refine below_row ?_ ?_ _); rotate_left; (focus (first | omega | (simp; done) | (simp; omega)))) | ((with_reducible refine Below.alloc ?_ ?_ _); rotate_left; (focus (first | omega | (simp; done) | (simp; omega))))))
/-- Sample, of a controller that may be -/
theorem sample7 (c : B.Cs) (b : UInt8) (w : World) (h : B.RightM c) (hb : B.okc b = true) :
    Calls Tryz.prog 14 #[.agg (ctA c), .int .u8 (b.toNat : Nat)] w fun e w' => e = .returned (.tuple #[.agg (ctA (c.sample b).1), .agg (evA (c.sample b).2), .int .i64 0]) ∧ Below w.heap.size w w' := by
  have := h.st8
  rcases (by omega : c.state = 0 ∨ c.state = 1 ∨ c.state = 2 ∨ c.state = 3 ∨ c.state = 4 ∨ c.state = 5 ∨ c.state = 6 ∨ c.state = 7 ∨ c.state = 8) with e | e | e | e | e | e | e | e | e
  · exact ctsample_join c b w h e hb
  · exact ctsample_idle c b w h e hb
  · exact ctsample_through c b w h e hb
  · exact ctsample_flag c b w h e hb
  · exact ctsample_echo c b w h e hb
  · exact ctsample_delim c b w h e hb
  · exact ctsample_gap c b w h e hb
  · exact ctsample_hold c b w h e hb
  · exact ctsample_rest c b w h e hb
end Go.Proofs.YtcaeobkaoebndaaGreat
