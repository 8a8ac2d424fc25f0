/- Layer 7: driven, Drive, Submit, Cancel. -/
import Derived.Test.YtcaeobkaoebndaaGreatCtG
namespace Go.Proofs.YtcaeobkaoebndaaGreat
open Go.RowKit Go.Lib
attribute [local go_sem ↓] ld_ct st_ct ld_ev st_ev ld_ma st_ma bd_ma
attribute [local go_sem] ldCt_at stCt_at ldEv_at stEv_at ldMa_at stMa_at bdMa_at ldp_ct ldp_ma ldp_ev ldp_mev stp_ct stp_ma stp_ev stp_mev stp_mm zero_ct zero_ev zero_ma ev_err ev_sent
attribute [local go_sem] rowAt_drew rowAt_drewN rowAt_new rowAt_past rowAt_setRow rowAt_setRow_other rowAt_setCell_other rowAt_setCell_map cell_setRow free_setRow cell_setRow_other free_setRow_other setRow_alloc_at setRow_alloc_past
attribute [local go_sem] ctA_0 ctA_1 ctA_2 ctA_3 ctA_4 ctA_5 ctA_6 ctA_7 ctA_8 ctA_9 ctA_10 ctA_11 ctA_12 ctA_13 ctA_14 ctA_15 ctA_16 ctA_17 ctA_18 ctA_19 ctA_20 ctA_21 ctA_22 evA_0 evA_1 evA_2 evA_3 evA_4 evA_5 evA_6 mA_0 mA_1 mA_2 mA_3 mA_4 mA_5 mA_6 mA_7 mA_8 mA_9 mA_10 mA_11 mA_12 mA_13 mA_14 mA_15 mA_16 mA_17 mA_18 mA_19 mA_20 mA_21 mA_22 mA_23 mA_24 mA_25 mA_26 mA_27 mA_28 mA_29
attribute [local go_sem] ctA_set0 ctA_set0_0 ctA_set1_0 ctA_suc0 ctA_set1 ctA_set0_1 ctA_set1_1 ctA_suc1 ctA_set2 ctA_set3 ctA_set0_3 ctA_set1_3 ctA_suc3 ctA_set4 ctA_set0_4 ctA_set1_4 ctA_suc4 ctA_set5 ctA_set0_5 ctA_set1_5 ctA_suc5 ctA_set6 ctA_set7 ctA_set8 ctA_set9 ctA_set0_9 ctA_set1_9 ctA_suc9 ctA_set10 ctA_set11 ctA_set12 ctA_set0_12 ctA_set1_12 ctA_suc12 ctA_set13 ctA_set14 ctA_set15 ctA_set16 ctA_set0_16 ctA_set1_16 ctA_suc16 ctA_set17 ctA_set0_17 ctA_set1_17 ctA_suc17 ctA_set18 ctA_set0_18 ctA_set1_18 ctA_suc18 ctA_set19 ctA_set20 ctA_set21 ctA_set0_21 ctA_set1_21 ctA_suc21 ctA_set22 mA_set0 mA_set0_0 mA_set1_0 mA_suc0 mA_set1 mA_set0_1 mA_set1_1 mA_suc1 mA_set2 mA_set3 mA_set0_3 mA_set1_3 mA_suc3 mA_set4 mA_set0_4 mA_set1_4 mA_suc4 mA_set5 mA_set0_5 mA_set1_5 mA_set1000000000_5 mA_suc5 mA_set6 mA_set7 mA_set8 mA_set9 mA_set0_9 mA_set1_9 mA_suc9 mA_set10 mA_set11 mA_set12 mA_set0_12 mA_set1_12 mA_suc12 mA_set13 mA_set14 mA_set15 mA_set16 mA_set0_16 mA_set1_16 mA_suc16 mA_set17 mA_set0_17 mA_set1_17 mA_set48_17 mA_suc17 mA_set18 mA_set0_18 mA_set1_18 mA_suc18 mA_set19 mA_set20 mA_set21 mA_set0_21 mA_set1_21 mA_suc21 mA_set22 evA_set0 evA_set0_0 evA_set1_0 evA_set2_0 evA_set3_0 evA_set4_0 evA_suc0 evA_set1 evA_set0_1 evA_set1_1 evA_suc1 evA_set2 evA_set3 evA_set4 evA_set0_4 evA_set1_4 evA_suc4 evA_set5 evA_set6 evA_set0_6 evA_set1_6 evA_set14_6 evA_suc6 mA_set23 mA_set0_23 mA_set1_23 mA_set2_23 mA_set3_23 mA_set4_23 mA_suc23 mA_set24 mA_set0_24 mA_set1_24 mA_suc24 mA_set25 mA_set26 mA_set27 mA_set0_27 mA_set1_27 mA_suc27 mA_set28 mA_set29 mA_set0_29 mA_set1_29 mA_suc29

theorem at_lt {c : B.Cs} (h : B.FrameM c) (hs : c.sends = true) : c.at_ < c.out.length := by
  obtain ⟨hh, ho⟩ := h.sendsY hs
  have hbl : (B.bitsL c.fr).length = (B.stfF c.fr).length + 10 := by rw [B.bitsL_stf, List.length_append, List.length_replicate]
  rw [ho, hbl]
  cases hf : c.fin
  · have := (h.going hs hf).2.1; omega
  · have := (h.gone hs hf).1; have := h.tail; omega
set_option maxRecDepth 100000 in
theorem driven_any (c : B.Cs) (w : World) (h : B.RightM c) : Calls Tryz.prog 25 #[.agg (ctA c)] w fun e w' => e = .returned (.int .u8 (c.drive.toNat : Nat)) ∧ Below w.heap.size w w' := by
  by_cases h1 : c.state = 1
  · clear h
    cases hh : c.has
    · have hv : c.drive = 49 := by unfold B.Cs.drive; simp [h1, hh]
      rw [hv]
      go_enter Tryz.func25, Tryz.ntmps25
      go_wp2
      go_ret
      exact ⟨rfl, by (repeat (first | (with_reducible assumption) | (with_reducible exact Below.refl _ _) | (with_reducible refine Below.drew ?_) | ((with_reducible refine Below.setCell ?_ ?_ _); rotate_left; (focus (first | omega | (simp; done) | (simp; omega)))) | ((with_reducible refine below_row ?_ ?_ _); rotate_left; (focus (first | omega | (simp; done) | (simp; omega)))) | ((with_reducible refine Below.alloc ?_ ?_ _); rotate_left; (focus (first | omega | (simp; done) | (simp; omega))))))⟩
    · have hv : c.drive = 48 := by unfold B.Cs.drive; simp [h1, hh]
      rw [hv]
      go_enter Tryz.func25, Tryz.ntmps25
      go_wp2
      go_ret
      exact ⟨rfl, by (repeat (first | (with_reducible assumption) | (with_reducible exact Below.refl _ _) | (with_reducible refine Below.drew ?_) | ((with_reducible refine Below.setCell ?_ ?_ _); rotate_left; (focus (first | omega | (simp; done) | (simp; omega)))) | ((with_reducible refine below_row ?_ ?_ _); rotate_left; (focus (first | omega | (simp; done) | (simp; omega)))) | ((with_reducible refine Below.alloc ?_ ?_ _); rotate_left; (focus (first | omega | (simp; done) | (simp; omega))))))⟩
  · by_cases h2 : c.state = 2
    · cases hs : c.sends
      · have hg : c.good = true → c.fin = true := fun e => by have := (h.frm h2).good; rw [e] at this; cases hf : c.fin <;> simp [hf] at this ⊢
        have ht := (h.frm h2).tail
        clear h
        cases hgd : c.good
        · have hv : c.drive = 49 := by unfold B.Cs.drive; simp [h2, hs, hgd]
          rw [hv]
          go_enter Tryz.func25, Tryz.ntmps25
          go_wp2
          go_ret
          exact ⟨rfl, by (repeat (first | (with_reducible assumption) | (with_reducible exact Below.refl _ _) | (with_reducible refine Below.drew ?_) | ((with_reducible refine Below.setCell ?_ ?_ _); rotate_left; (focus (first | omega | (simp; done) | (simp; omega)))) | ((with_reducible refine below_row ?_ ?_ _); rotate_left; (focus (first | omega | (simp; done) | (simp; omega)))) | ((with_reducible refine Below.alloc ?_ ?_ _); rotate_left; (focus (first | omega | (simp; done) | (simp; omega))))))⟩
        · have hf := hg hgd
          clear hg
          by_cases h7 : c.tail = 1
          · have hv : c.drive = 48 := by unfold B.Cs.drive; simp [h2, hs, hgd, h7, hf]
            rw [hv]
            go_enter Tryz.func25, Tryz.ntmps25
            go_wp2
            go_ret
            exact ⟨rfl, by (repeat (first | (with_reducible assumption) | (with_reducible exact Below.refl _ _) | (with_reducible refine Below.drew ?_) | ((with_reducible refine Below.setCell ?_ ?_ _); rotate_left; (focus (first | omega | (simp; done) | (simp; omega)))) | ((with_reducible refine below_row ?_ ?_ _); rotate_left; (focus (first | omega | (simp; done) | (simp; omega)))) | ((with_reducible refine Below.alloc ?_ ?_ _); rotate_left; (focus (first | omega | (simp; done) | (simp; omega))))))⟩
          · have hv : c.drive = 49 := by unfold B.Cs.drive; simp [h2, hs, hgd, h7]
            have h7' : (((c.tail : Nat) : Int) == 1) = false := by rw [beq_eq_false_iff_ne]; omega
            rw [hv]
            clear h7
            go_enter Tryz.func25, Tryz.ntmps25
            go_wp2
            go_ret
            exact ⟨rfl, by (repeat (first | (with_reducible assumption) | (with_reducible exact Below.refl _ _) | (with_reducible refine Below.drew ?_) | ((with_reducible refine Below.setCell ?_ ?_ _); rotate_left; (focus (first | omega | (simp; done) | (simp; omega)))) | ((with_reducible refine below_row ?_ ?_ _); rotate_left; (focus (first | omega | (simp; done) | (simp; omega)))) | ((with_reducible refine Below.alloc ?_ ?_ _); rotate_left; (focus (first | omega | (simp; done) | (simp; omega))))))⟩
      · have hlt := at_lt (h.frm h2) hs
        have hv : c.drive = (strB c.out)[c.at_]'(by rw [strB_size]; exact hlt) := by
          unfold B.Cs.drive
          rw [if_neg (by omega), if_pos h2, if_pos hs, strB_at, List.getD_eq_getElem?_getD, List.getElem?_eq_getElem hlt]; rfl
        rw [hv]
        clear hv h
        have q0 : (0 : Int) ≤ ((c.at_ : Nat) : Int) := by omega
        have q1 : ((c.at_ : Nat) : Int) < ((c.out.length : Nat) : Int) := by omega
        go_enter Tryz.func25, Tryz.ntmps25
        go_wp2
        go_ret
        exact ⟨rfl, by (repeat (first | (with_reducible assumption) | (with_reducible exact Below.refl _ _) | (with_reducible refine Below.drew ?_) | ((with_reducible refine Below.setCell ?_ ?_ _); rotate_left; (focus (first | omega | (simp; done) | (simp; omega)))) | ((with_reducible refine below_row ?_ ?_ _); rotate_left; (focus (first | omega | (simp; done) | (simp; omega)))) | ((with_reducible refine Below.alloc ?_ ?_ _); rotate_left; (focus (first | omega | (simp; done) | (simp; omega))))))⟩
    · by_cases h3 : c.state = 3
      · clear h
        cases hh : c.hard
        · have hv : c.drive = 49 := by unfold B.Cs.drive; simp [h3, hh]
          rw [hv]
          go_enter Tryz.func25, Tryz.ntmps25
          go_wp2
          go_ret
          exact ⟨rfl, by (repeat (first | (with_reducible assumption) | (with_reducible exact Below.refl _ _) | (with_reducible refine Below.drew ?_) | ((with_reducible refine Below.setCell ?_ ?_ _); rotate_left; (focus (first | omega | (simp; done) | (simp; omega)))) | ((with_reducible refine below_row ?_ ?_ _); rotate_left; (focus (first | omega | (simp; done) | (simp; omega)))) | ((with_reducible refine Below.alloc ?_ ?_ _); rotate_left; (focus (first | omega | (simp; done) | (simp; omega))))))⟩
        · have hv : c.drive = 48 := by unfold B.Cs.drive; simp [h3, hh]
          rw [hv]
          go_enter Tryz.func25, Tryz.ntmps25
          go_wp2
          go_ret
          exact ⟨rfl, by (repeat (first | (with_reducible assumption) | (with_reducible exact Below.refl _ _) | (with_reducible refine Below.drew ?_) | ((with_reducible refine Below.setCell ?_ ?_ _); rotate_left; (focus (first | omega | (simp; done) | (simp; omega)))) | ((with_reducible refine below_row ?_ ?_ _); rotate_left; (focus (first | omega | (simp; done) | (simp; omega)))) | ((with_reducible refine Below.alloc ?_ ?_ _); rotate_left; (focus (first | omega | (simp; done) | (simp; omega))))))⟩
      · have hv : c.drive = 49 := by unfold B.Cs.drive; simp [h1, h2, h3]
        rw [hv]
        clear h
        have k1 : (((c.state : Nat) : Int) == 1) = false := by rw [beq_eq_false_iff_ne]; omega
        have k2 : (((c.state : Nat) : Int) == 2) = false := by rw [beq_eq_false_iff_ne]; omega
        have k3 : (((c.state : Nat) : Int) == 3) = false := by rw [beq_eq_false_iff_ne]; omega
        clear h1 h2 h3
        go_enter Tryz.func25, Tryz.ntmps25
        go_wp2
        go_ret
        exact ⟨rfl, by (repeat (first | (with_reducible assumption) | (with_reducible exact Below.refl _ _) | (with_reducible refine Below.drew ?_) | ((with_reducible refine Below.setCell ?_ ?_ _); rotate_left; (focus (first | omega | (simp; done) | (simp; omega)))) | ((with_reducible refine below_row ?_ ?_ _); rotate_left; (focus (first | omega | (simp; done) | (simp; omega)))) | ((with_reducible refine Below.alloc ?_ ?_ _); rotate_left; (focus (first | omega | (simp; done) | (simp; omega))))))⟩

theorem drive7 (c : B.Cs) (w : World) (h : B.RightM c) : Calls Tryz.prog 13 #[.agg (ctA c)] w fun e w' => e = .returned (.tuple #[.int .u8 (c.drive.toNat : Nat), .int .i64 0]) ∧ Below w.heap.size w w' := by
  have CR := Lib.hid (fun w => ctright_any c w h)
  have CD := Lib.hid (fun w => driven_any c w h)
  clear h
  go_enter Tryz.func13, Tryz.ntmps13
  go_wp2_with (first
    | (go_at_call 21; (with_reducible refine (CR.out _).mono ?_); rintro e w1 ⟨rfl, hbw1⟩; obtain ⟨hcw1, hfw1, hrw1⟩ := bcell7 hbw1; have hzw1 : w.heap.size < w1.heap.size := (by have h := hbw1.size; (try simp at h); omega); have hBw1 : Below w.heap.size w w1 := ((Below.refl w.heap.size w).alloc (Nat.le_refl _) (.cells (ctA c) 33)).trans (hbw1.mono (by first | omega | (simp; done) | (simp; omega))))
    | (go_at_call 25; (with_reducible refine (CD.out _).mono ?_); rintro e w2 ⟨rfl, hbw2⟩; obtain ⟨hcw2, hfw2, hrw2⟩ := bcell7 hbw2; have hzw2 : w.heap.size < w2.heap.size := (by have h := hbw2.size; (try simp at h); omega); have hBw2 : Below w.heap.size w w2 := (hBw1).trans (hbw2.mono (by first | omega | (simp; done) | (simp; omega)))))
  go_ret2
  exact ⟨rfl, by (repeat (first | (with_reducible assumption) | (with_reducible exact Below.refl _ _) | (with_reducible refine Below.drew ?_) | ((with_reducible refine Below.setCell ?_ ?_ _); rotate_left; (focus (first | omega | (simp; done) | (simp; omega)))) | ((with_reducible refine below_row ?_ ?_ _); rotate_left; (focus (first | omega | (simp; done) | (simp; omega)))) | ((with_reducible refine Below.alloc ?_ ?_ _); rotate_left; (focus (first | omega | (simp; done) | (simp; omega))))))⟩

theorem fright7 {f : B.Fr} (h : B.FrR f) (w : World) : Calls Tryz.prog 27 #[.agg (frC5 f)] w fun e w' => e = .returned (.bool true) ∧ Below w.heap.size w w' := by
  have := right4_any f.id f.ext f.remote (f.dlc : Int) (strB f.data) w
  rwa [frI_yes7 h] at this
set_option maxRecDepth 100000 in
set_option maxHeartbeats 1000000 in
theorem submit_ok (c : B.Cs) (f : B.Fr) (w : World) (h : B.RightM c) (hf : B.FrR f) (hh : c.has = false) : Calls Tryz.prog 16 #[.agg (ctA c), .agg (frC5 f)] w fun e w' => e = .returned (.tuple #[.agg (ctA { c with has := true, fr := f }), .int .i64 0]) ∧ Below w.heap.size w w' := by
  have CR := Lib.hid (fun w => ctright_any c w h)
  have CF := Lib.hid (fun w => fright7 hf w)
  clear h hf
  go_enter Tryz.func16, Tryz.ntmps16
  go_wp2_with (first
    | (go_at_call 21; (with_reducible refine (CR.out _).mono ?_); rintro e w1 ⟨rfl, hbw1⟩; obtain ⟨hcw1, hfw1, hrw1⟩ := bcell7 hbw1; have hzw1 : w.heap.size < w1.heap.size := (by have h := hbw1.size; (try simp at h); omega); have hBw1 : Below w.heap.size w w1 := ((((Below.refl w.heap.size w).alloc (Nat.le_refl _) (.cells (ctA c) 33)).alloc (by first | omega | (simp; done) | (simp; omega)) (.cells (frC5 f) 24)).alloc (by first | omega | (simp; done) | (simp; omega)) (.cells (ctA B.cs0) 33)).trans (hbw1.mono (by first | omega | (simp; done) | (simp; omega))); have hzz1 : w.heap.size + 2 < w1.heap.size := (by have h := hbw1.size; (try simp at h); omega); have hyy1 : w.heap.size + 1 < w1.heap.size := (by omega))
    | (go_at_call 27; (with_reducible refine (CF.out _).mono ?_); rintro e w2 ⟨rfl, hbw2⟩; obtain ⟨hcw2, hfw2, hrw2⟩ := bcell7 hbw2; have hzw2 : w.heap.size < w2.heap.size := (by have h := hbw2.size; (try simp at h); omega); have hBw2 : Below w.heap.size w w2 := (hBw1).trans (hbw2.mono (by first | omega | (simp; done) | (simp; omega))); have hzz2 : w.heap.size + 2 < w2.heap.size := (by have h := hbw2.size; omega); have hyy2 : w.heap.size + 1 < w2.heap.size := (by omega)))
  have hR0 : rowAt w2 w.heap.size = some (ctA c) := by rw [hrw2 _ (by omega), hrw1 _ (by simp; omega)]; simp [go_sem]
  have hR1 : rowAt w2 (w.heap.size + 1) = some (frC5 f) := by rw [hrw2 _ (by omega), hrw1 _ (by simp)]; simp [go_sem]
  have hR2 : rowAt w2 (w.heap.size + 2) = some (ctA B.cs0) := by rw [hrw2 _ (by omega), hrw1 _ (by simp)]; simp [go_sem]
  clear hbw1 hcw1 hfw1 hrw1 hzw1 hBw1 hzz1 hyy1 hbw2 hcw2 hfw2 hrw2
  have c0 := rowAt_cell hR0
  have f0 := rowAt_free hR0
  have c1 := rowAt_cell hR1
  have KO := Lib.hid (show ∀ (wa : World) (g i : Nat) (u : Value), (∀ i, wa.cell? ⟨w.heap.size + 1, i, none⟩ = (frC5 f)[i]?) → g ≠ w.heap.size + 1 → (∀ j, (wa.setCell ⟨g, i, none⟩ u).cell? ⟨w.heap.size + 1, j, none⟩ = (frC5 f)[j]?) from
    fun wa g i u h hg j => by rw [World.cell?_setCell_other _ _ _ _ (by intro e; injection e with e; exact hg e)]; exact h j)
  have KD := Lib.hid (show ∀ (wa : World), (∀ i, wa.cell? ⟨w.heap.size + 1, i, none⟩ = (frC5 f)[i]?) → (∀ i, wa.drew.cell? ⟨w.heap.size + 1, i, none⟩ = (frC5 f)[i]?) from fun _ h => h)
  go_upto_region 5 with fail
  go_cut [] from 20 to 23 (fun wc => rowAt wc w.heap.size = some (ctA { c with has := true, fr := f }) ∧ rowAt wc (w.heap.size + 2) = some (ctA B.cs0) ∧ Below w.heap.size w wc)
  case first =>
   go_region_held3 (fun W' => ∀ i, W'.cell? ⟨w.heap.size + 1, i, none⟩ = (frC5 f)[i]?)
    (first | (with_reducible assumption) | (with_reducible exact KD.out _ c1) | (with_reducible exact KD.out _ (KO.out _ _ _ _ c1 (by omega))) | (with_reducible exact KD.out _ (KO.out _ _ _ _ (KO.out _ _ _ _ (KO.out _ _ _ _ (KO.out _ _ _ _ (KO.out _ _ _ _ (c1) (by omega)) (by omega)) (by omega)) (by omega)) (by omega))) | (with_reducible exact KD.out _ (KO.out _ _ _ _ (KO.out _ _ _ _ (KO.out _ _ _ _ (KO.out _ _ _ _ (KO.out _ _ _ _ (KO.out _ _ _ _ (c1) (by omega)) (by omega)) (by omega)) (by omega)) (by omega)) (by omega))))
    (fail)
   all_goals
    go_wp2
    go_meet
    case rel => exact ⟨by simp [go_sem, hR0], by simp [go_sem, hR2], by (repeat (first | (with_reducible assumption) | (with_reducible exact Below.refl _ _) | (with_reducible refine Below.drew ?_) | ((with_reducible refine Below.setCell ?_ ?_ _); rotate_left; (focus (first | omega | (simp; done) | (simp; omega)))) | ((with_reducible refine below_row ?_ ?_ _); rotate_left; (focus (first | omega | (simp; done) | (simp; omega)))) | ((with_reducible refine Below.alloc ?_ ?_ _); rotate_left; (focus (first | omega | (simp; done) | (simp; omega))))))⟩
  case rest =>
    clear hR0 hR1 hR2 c0 f0 c1 KO KD
    obtain ⟨hR0, hR2, hB⟩ := hcut
    go_wp2
    refine bodyPost_ret (res_ct_t Tryz.results16 _ _ (w.heap.size + 2) { c with has := true, fr := f } rfl (by simp [go_sem, hR2])) rfl ⟨rfl, ?_⟩
    (repeat (first | (with_reducible assumption) | (with_reducible exact Below.refl _ _) | (with_reducible refine Below.drew ?_) | ((with_reducible refine Below.setCell ?_ ?_ _); rotate_left; (focus (first | omega | (simp; done) | (simp; omega)))) | ((with_reducible refine below_row ?_ ?_ _); rotate_left; (focus (first | omega | (simp; done) | (simp; omega)))) | ((with_reducible refine Below.alloc ?_ ?_ _); rotate_left; (focus (first | omega | (simp; done) | (simp; omega))))))

set_option maxRecDepth 100000 in
set_option maxHeartbeats 1000000 in
theorem submit_arg (c : B.Cs) (id : Nat) (ext rem : Bool) (dlc : Int) (data : ByteArray) (w : World) (h : B.RightM c) (hf : B.frI id ext rem dlc data.size = false) : Calls Tryz.prog 16 #[.agg (ctA c), .agg (frV id ext rem dlc data)] w fun e w' => e = .returned (.tuple #[.agg (ctA B.cs0), .int .i64 1]) ∧ Below w.heap.size w w' := by
  have CR := Lib.hid (fun w => ctright_any c w h)
  have CF : Hid (∀ w, Calls Tryz.prog 27 #[.agg (frV id ext rem dlc data)] w fun e w' => e = .returned (.bool false) ∧ Below w.heap.size w w') := Lib.hid (fun w => hf ▸ right4_any id ext rem dlc data w)
  clear h hf
  go_enter Tryz.func16, Tryz.ntmps16
  go_wp2_with (first
    | (go_at_call 21; (with_reducible refine (CR.out _).mono ?_); rintro e w1 ⟨rfl, hbw1⟩; obtain ⟨hcw1, hfw1, hrw1⟩ := bcell7 hbw1; have hzw1 : w.heap.size < w1.heap.size := (by have h := hbw1.size; (try simp at h); omega); have hBw1 : Below w.heap.size w w1 := ((((Below.refl w.heap.size w).alloc (Nat.le_refl _) (.cells (ctA c) 33)).alloc (by first | omega | (simp; done) | (simp; omega)) (.cells (frV id ext rem dlc data) 24)).alloc (by first | omega | (simp; done) | (simp; omega)) (.cells (ctA B.cs0) 33)).trans (hbw1.mono (by first | omega | (simp; done) | (simp; omega))); have hzz1 : w.heap.size + 2 < w1.heap.size := (by have h := hbw1.size; (try simp at h); omega); have hyy1 : w.heap.size + 1 < w1.heap.size := (by omega))
    | (go_at_call 27; (with_reducible refine (CF.out _).mono ?_); rintro e w2 ⟨rfl, hbw2⟩; obtain ⟨hcw2, hfw2, hrw2⟩ := bcell7 hbw2; have hzw2 : w.heap.size < w2.heap.size := (by have h := hbw2.size; (try simp at h); omega); have hBw2 : Below w.heap.size w w2 := (hBw1).trans (hbw2.mono (by first | omega | (simp; done) | (simp; omega))); have hzz2 : w.heap.size + 2 < w2.heap.size := (by have h := hbw2.size; omega); have hR2 : rowAt w2 (w.heap.size + 2) = some (ctA B.cs0) := (by rw [hrw2 _ (by omega), hrw1 _ (by simp)]; simp [go_sem])))
  refine bodyPost_ret (res_ct_t Tryz.results16 _ _ (w.heap.size + 2) B.cs0 rfl (by simp [go_sem, hR2])) rfl ⟨rfl, ?_⟩
  (repeat (first | (with_reducible assumption) | (with_reducible exact Below.refl _ _) | (with_reducible refine Below.drew ?_) | ((with_reducible refine Below.setCell ?_ ?_ _); rotate_left; (focus (first | omega | (simp; done) | (simp; omega)))) | ((with_reducible refine below_row ?_ ?_ _); rotate_left; (focus (first | omega | (simp; done) | (simp; omega)))) | ((with_reducible refine Below.alloc ?_ ?_ _); rotate_left; (focus (first | omega | (simp; done) | (simp; omega))))))
set_option maxRecDepth 100000 in
set_option maxHeartbeats 1000000 in
theorem submit_busy (c : B.Cs) (f : B.Fr) (w : World) (h : B.RightM c) (hf : B.FrR f) (hh : c.has = true) : Calls Tryz.prog 16 #[.agg (ctA c), .agg (frC5 f)] w fun e w' => e = .returned (.tuple #[.agg (ctA B.cs0), .int .i64 20]) ∧ Below w.heap.size w w' := by
  have CR := Lib.hid (fun w => ctright_any c w h)
  have CF := Lib.hid (fun w => fright7 hf w)
  clear h hf
  go_enter Tryz.func16, Tryz.ntmps16
  go_wp2_with (first
    | (go_at_call 21; (with_reducible refine (CR.out _).mono ?_); rintro e w1 ⟨rfl, hbw1⟩; obtain ⟨hcw1, hfw1, hrw1⟩ := bcell7 hbw1; have hzw1 : w.heap.size < w1.heap.size := (by have h := hbw1.size; (try simp at h); omega); have hBw1 : Below w.heap.size w w1 := ((((Below.refl w.heap.size w).alloc (Nat.le_refl _) (.cells (ctA c) 33)).alloc (by first | omega | (simp; done) | (simp; omega)) (.cells (frC5 f) 24)).alloc (by first | omega | (simp; done) | (simp; omega)) (.cells (ctA B.cs0) 33)).trans (hbw1.mono (by first | omega | (simp; done) | (simp; omega))); have hzz1 : w.heap.size + 2 < w1.heap.size := (by have h := hbw1.size; (try simp at h); omega); have hyy1 : w.heap.size + 1 < w1.heap.size := (by omega))
    | (go_at_call 27; (with_reducible refine (CF.out _).mono ?_); rintro e w2 ⟨rfl, hbw2⟩; obtain ⟨hcw2, hfw2, hrw2⟩ := bcell7 hbw2; have hzw2 : w.heap.size < w2.heap.size := (by have h := hbw2.size; (try simp at h); omega); have hBw2 : Below w.heap.size w w2 := (hBw1).trans (hbw2.mono (by first | omega | (simp; done) | (simp; omega))); have hzz2 : w.heap.size + 2 < w2.heap.size := (by have h := hbw2.size; omega); have hR2 : rowAt w2 (w.heap.size + 2) = some (ctA B.cs0) := (by rw [hrw2 _ (by omega), hrw1 _ (by simp)]; simp [go_sem])))
  refine bodyPost_ret (res_ct_t Tryz.results16 _ _ (w.heap.size + 2) B.cs0 rfl (by simp [go_sem, hR2])) rfl ⟨rfl, ?_⟩
  (repeat (first | (with_reducible assumption) | (with_reducible exact Below.refl _ _) | (with_reducible refine Below.drew ?_) | ((with_reducible refine Below.setCell ?_ ?_ _); rotate_left; (focus (first | omega | (simp; done) | (simp; omega)))) | ((with_reducible refine below_row ?_ ?_ _); rotate_left; (focus (first | omega | (simp; done) | (simp; omega)))) | ((with_reducible refine Below.alloc ?_ ?_ _); rotate_left; (focus (first | omega | (simp; done) | (simp; omega))))))
end Go.Proofs.YtcaeobkaoebndaaGreat
