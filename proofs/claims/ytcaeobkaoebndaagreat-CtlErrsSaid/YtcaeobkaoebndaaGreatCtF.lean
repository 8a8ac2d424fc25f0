/- Layer 7: isSending. -/
import Derived.Test.YtcaeobkaoebndaaGreatCtE
import Derived.Test.YtcaeobkaoebndaaGreatJ8
namespace Go.Proofs.YtcaeobkaoebndaaGreat
open Go.RowKit Go.Lib
attribute [local go_sem ↓] ld_ct st_ct ld_ev st_ev ld_ma st_ma bd_ma
attribute [local go_sem] ldCt_at stCt_at ldEv_at stEv_at ldMa_at stMa_at bdMa_at ldp_ct ldp_ma ldp_ev ldp_mev stp_ct stp_ma stp_ev stp_mev stp_mm zero_ct zero_ev zero_ma ev_err ev_sent
attribute [local go_sem] rowAt_drew rowAt_drewN rowAt_new rowAt_past rowAt_setRow rowAt_setRow_other rowAt_setCell_other rowAt_setCell_map cell_setRow free_setRow cell_setRow_other free_setRow_other setRow_alloc_at setRow_alloc_past
attribute [local go_sem] ctA_0 ctA_1 ctA_2 ctA_3 ctA_4 ctA_5 ctA_6 ctA_7 ctA_8 ctA_9 ctA_10 ctA_11 ctA_12 ctA_13 ctA_14 ctA_15 ctA_16 ctA_17 ctA_18 ctA_19 ctA_20 ctA_21 ctA_22 evA_0 evA_1 evA_2 evA_3 evA_4 evA_5 evA_6 mA_0 mA_1 mA_2 mA_3 mA_4 mA_5 mA_6 mA_7 mA_8 mA_9 mA_10 mA_11 mA_12 mA_13 mA_14 mA_15 mA_16 mA_17 mA_18 mA_19 mA_20 mA_21 mA_22 mA_23 mA_24 mA_25 mA_26 mA_27 mA_28 mA_29
attribute [local go_sem] ctA_set0 ctA_set0_0 ctA_set1_0 ctA_suc0 ctA_set1 ctA_set0_1 ctA_set1_1 ctA_suc1 ctA_set2 ctA_set3 ctA_set0_3 ctA_set1_3 ctA_suc3 ctA_set4 ctA_set0_4 ctA_set1_4 ctA_suc4 ctA_set5 ctA_set0_5 ctA_set1_5 ctA_suc5 ctA_set6 ctA_set7 ctA_set8 ctA_set9 ctA_set0_9 ctA_set1_9 ctA_suc9 ctA_set10 ctA_set11 ctA_set12 ctA_set0_12 ctA_set1_12 ctA_suc12 ctA_set13 ctA_set14 ctA_set15 ctA_set16 ctA_set0_16 ctA_set1_16 ctA_suc16 ctA_set17 ctA_set0_17 ctA_set1_17 ctA_suc17 ctA_set18 ctA_set0_18 ctA_set1_18 ctA_suc18 ctA_set19 ctA_set20 ctA_set21 ctA_set0_21 ctA_set1_21 ctA_suc21 ctA_set22 mA_set0 mA_set0_0 mA_set1_0 mA_suc0 mA_set1 mA_set0_1 mA_set1_1 mA_suc1 mA_set2 mA_set3 mA_set0_3 mA_set1_3 mA_suc3 mA_set4 mA_set0_4 mA_set1_4 mA_suc4 mA_set5 mA_set0_5 mA_set1_5 mA_set1000000000_5 mA_suc5 mA_set6 mA_set7 mA_set8 mA_set9 mA_set0_9 mA_set1_9 mA_suc9 mA_set10 mA_set11 mA_set12 mA_set0_12 mA_set1_12 mA_suc12 mA_set13 mA_set14 mA_set15 mA_set16 mA_set0_16 mA_set1_16 mA_suc16 mA_set17 mA_set0_17 mA_set1_17 mA_set48_17 mA_suc17 mA_set18 mA_set0_18 mA_set1_18 mA_suc18 mA_set19 mA_set20 mA_set21 mA_set0_21 mA_set1_21 mA_suc21 mA_set22 evA_set0 evA_set0_0 evA_set1_0 evA_set2_0 evA_set3_0 evA_set4_0 evA_suc0 evA_set1 evA_set0_1 evA_set1_1 evA_suc1 evA_set2 evA_set3 evA_set4 evA_set0_4 evA_set1_4 evA_suc4 evA_set5 evA_set6 evA_set0_6 evA_set1_6 evA_set14_6 evA_suc6 mA_set23 mA_set0_23 mA_set1_23 mA_set2_23 mA_set3_23 mA_set4_23 mA_suc23 mA_set24 mA_set0_24 mA_set1_24 mA_suc24 mA_set25 mA_set26 mA_set27 mA_set0_27 mA_set1_27 mA_suc27 mA_set28 mA_set29 mA_set0_29 mA_set1_29 mA_suc29

abbrev frC5 (f : B.Fr) : Array Value := #[.int .u32 (f.id : Nat), .bool f.ext, .bool f.remote, .int .i64 (f.dlc : Nat), .string (strB f.data)]
theorem bits7 {f : B.Fr} (h : B.FrR f) (w : World) : Calls Tryz.prog 67 #[.agg (frC5 f)] w fun e w' => e = .returned (.tuple #[.string (strB (B.bitsL f)), .int .i64 0]) ∧ Below w.heap.size w w' := by
  have e : (⟨f.id, f.ext, f.remote, f.dlc, (strB f.data).data.toList⟩ : B.Fr) = f := by rw [list_of]
  have := bits4_yes f.id f.dlc f.ext f.remote (strB f.data) w (by rw [e]; exact h)
  rwa [e] at this
theorem bits_cut (f : B.Fr) (m : Nat) (h : m ≤ (B.stfF f).length) : (strB (B.bitsL f)).extract 0 m = strB ((B.stfF f).take m) := bytes_eq (by
  rw [ByteArray.data_extract, Array.toList_extract, list_of, B.bitsL_stf]
  simp [List.extract, List.take_append_of_le_length h])
theorem takenf {f : B.Fr} (h : B.FrR f) (m : Nat) (hm : m ≤ (B.stfF f).length) (w : World) : Calls Tryz.prog 68 #[.string (strB ((B.stfF f).take m))] w fun e w' => e = .returned (.tuple #[.agg (st2 (B.stA f m).1), .string (strB (B.stA f m).2)]) ∧ Below w.heap.size w w' := by
  have hl := B.stfF_length h
  refine taken_any (strB ((B.stfF f).take m)) w (by rw [strB_size, List.length_take]; omega) (by rw [list_of]; exact B.all_take (B.stf_all (B.sumL_all (B.headL_all f))) m) _ _ (by rw [list_of]; exact B.stA_us h m)
set_option maxRecDepth 100000 in
set_option maxHeartbeats 1000000 in
theorem issending_any (c : B.Cs) (w : World) (h : B.FrameM c) (hr : c.has = true → B.FrR c.fr) : Calls Tryz.prog 42 #[.agg (ctA c)] w fun e w' => e = .returned (.bool true) ∧ Below w.heap.size w w' := by
  cases hs : c.sends
  · obtain ⟨ho, ha⟩ := h.sendsN hs
    clear h hr
    go_enter Tryz.func42, Tryz.ntmps42
    go_wp2
    go_ret
    exact ⟨rfl, by (repeat (first | (with_reducible assumption) | (with_reducible exact Below.refl _ _) | (with_reducible refine Below.drew ?_) | ((with_reducible refine Below.setCell ?_ ?_ _); rotate_left; (focus (first | omega | (simp; done) | (simp; omega)))) | ((with_reducible refine below_row ?_ ?_ _); rotate_left; (focus (first | omega | (simp; done) | (simp; omega)))) | ((with_reducible refine Below.alloc ?_ ?_ _); rotate_left; (focus (first | omega | (simp; done) | (simp; omega))))))⟩
  · obtain ⟨hh, ho⟩ := h.sendsY hs
    have hfr := hr hh
    have hl := B.stfF_length hfr
    have CB := Lib.hid (fun w => bits7 hfr w)
    have hbl : (B.bitsL c.fr).length = (B.stfF c.fr).length + 10 := by rw [B.bitsL_stf, List.length_append, List.length_replicate]
    cases hf : c.fin
    · obtain ⟨a1, a2, a3⟩ := h.going hs hf
      have CT : Hid (∀ w, Calls Tryz.prog 68 #[.string (strB ((B.stfF c.fr).take c.at_))] w fun e w' => e = .returned (.tuple #[.agg (st2 c.st), .string (strB c.got)]) ∧ Below w.heap.size w w') := Lib.hid (fun w => by
        have := takenf hfr c.at_ (by omega) w
        rwa [a3] at this)
      have hx := bits_cut c.fr c.at_ (by omega)
      have CW : Hid (∀ w, Calls Tryz.prog 62 #[.int .i64 (c.at_ : Nat), .int .i64 1, .int .i64 (((B.stfF c.fr).length : Nat) - 1 : Int)] w fun e w' => e = .returned (.bool true) ∧ w = w') := Lib.hid (fun w => within_yes _ _ _ w (by omega) (by omega))
      clear a3 h hr hfr
      obtain ⟨L, hL⟩ : ∃ L, L = (B.stfF c.fr).length := ⟨_, rfl⟩
      rw [← hL] at CW hbl hl a2
      clear hL
      go_enter Tryz.func42, Tryz.ntmps42
      go_wp2_with (first
        | (go_at_call 67; (with_reducible refine (CB.out _).mono ?_); rintro e w1 ⟨rfl, hbw1⟩; obtain ⟨hcw1, hfw1, hrw1⟩ := bcell7 hbw1; have hzw1 : w.heap.size < w1.heap.size := (by have h := hbw1.size; (try simp at h); omega); have hBw1 : Below w.heap.size w w1 := ((Below.refl w.heap.size w).alloc (Nat.le_refl _) (.cells (ctA c) 33)).trans (hbw1.mono (by first | omega | (simp; done) | (simp; omega))))
        | (go_at_call 62; (with_reducible refine (CW.out _).mono ?_); rintro e w' ⟨rfl, rfl⟩)
        | (go_at_call 68; (with_reducible refine (CT.out _).mono ?_); rintro e w2 ⟨rfl, hbw2⟩; obtain ⟨hcw2, hfw2, hrw2⟩ := bcell7 hbw2; have hzw2 : w.heap.size < w2.heap.size := (by have h := hbw2.size; (try simp at h); omega); have hBw2 : Below w.heap.size w w2 := (hBw1).trans (hbw2.mono (by first | omega | (simp; done) | (simp; omega)))))
      go_ret
      exact ⟨rfl, by (repeat (first | (with_reducible assumption) | (with_reducible exact Below.refl _ _) | (with_reducible refine Below.drew ?_) | ((with_reducible refine Below.setCell ?_ ?_ _); rotate_left; (focus (first | omega | (simp; done) | (simp; omega)))) | ((with_reducible refine below_row ?_ ?_ _); rotate_left; (focus (first | omega | (simp; done) | (simp; omega)))) | ((with_reducible refine Below.alloc ?_ ?_ _); rotate_left; (focus (first | omega | (simp; done) | (simp; omega))))))⟩
    · obtain ⟨a1, a2⟩ := h.gone hs hf
      have ht9 := h.tail
      have CT : Hid (∀ w, Calls Tryz.prog 68 #[.string (strB ((B.stfF c.fr).take (B.stfF c.fr).length))] w fun e w' => e = .returned (.tuple #[.agg (st2 c.st), .string (strB c.got)]) ∧ Below w.heap.size w w') := Lib.hid (fun w => by
        have := takenf hfr (B.stfF c.fr).length (by omega) w
        rwa [a2] at this)
      have hx := bits_cut c.fr (B.stfF c.fr).length (by omega)
      clear a2 h hr hfr
      rw [List.take_length] at CT hx
      obtain ⟨L, hL⟩ : ∃ L, L = (B.stfF c.fr).length := ⟨_, rfl⟩
      rw [← hL] at hbl hl a1 hx
      clear hL
      have a3 : (((c.at_ : Nat) : Int) != (L : Int) + ((c.tail : Nat) : Int)) = false := by rw [a1]; simp
      by_cases h0 : c.tail = 0
      · have a4 : c.at_ ≤ L := by omega
        have a5 : L ≤ c.at_ := by omega
        have hx2 : (strB (B.bitsL c.fr)).extract 0 c.at_ = strB (B.stfF c.fr) := by rw [show c.at_ = L by omega]; exact hx
        have a6 : (((c.at_ : Nat) : Int) != (L : Int)) = false := by rw [show c.at_ = L by omega]; simp
        clear a1 hx
        go_enter Tryz.func42, Tryz.ntmps42
        go_wp2_with (first
          | (go_at_call 67; (with_reducible refine (CB.out _).mono ?_); rintro e w1 ⟨rfl, hbw1⟩; obtain ⟨hcw1, hfw1, hrw1⟩ := bcell7 hbw1; have hzw1 : w.heap.size < w1.heap.size := (by have h := hbw1.size; (try simp at h); omega); have hBw1 : Below w.heap.size w w1 := ((Below.refl w.heap.size w).alloc (Nat.le_refl _) (.cells (ctA c) 33)).trans (hbw1.mono (by first | omega | (simp; done) | (simp; omega))))
          | (go_at_call 62; (with_reducible refine (CB.out _).mono ?_); rintro e w' ⟨rfl, rfl⟩)
          | (go_at_call 68; (with_reducible refine (CT.out _).mono ?_); rintro e w2 ⟨rfl, hbw2⟩; obtain ⟨hcw2, hfw2, hrw2⟩ := bcell7 hbw2; have hzw2 : w.heap.size < w2.heap.size := (by have h := hbw2.size; (try simp at h); omega); have hBw2 : Below w.heap.size w w2 := (hBw1).trans (hbw2.mono (by first | omega | (simp; done) | (simp; omega)))))
        go_ret
        exact ⟨rfl, by (repeat (first | (with_reducible assumption) | (with_reducible exact Below.refl _ _) | (with_reducible refine Below.drew ?_) | ((with_reducible refine Below.setCell ?_ ?_ _); rotate_left; (focus (first | omega | (simp; done) | (simp; omega)))) | ((with_reducible refine below_row ?_ ?_ _); rotate_left; (focus (first | omega | (simp; done) | (simp; omega)))) | ((with_reducible refine Below.alloc ?_ ?_ _); rotate_left; (focus (first | omega | (simp; done) | (simp; omega))))))⟩
      · have a4 : L < c.at_ := by omega
        clear a1
        go_enter Tryz.func42, Tryz.ntmps42
        go_wp2_with (first
          | (go_at_call 67; (with_reducible refine (CB.out _).mono ?_); rintro e w1 ⟨rfl, hbw1⟩; obtain ⟨hcw1, hfw1, hrw1⟩ := bcell7 hbw1; have hzw1 : w.heap.size < w1.heap.size := (by have h := hbw1.size; (try simp at h); omega); have hBw1 : Below w.heap.size w w1 := ((Below.refl w.heap.size w).alloc (Nat.le_refl _) (.cells (ctA c) 33)).trans (hbw1.mono (by first | omega | (simp; done) | (simp; omega))))
          | (go_at_call 62; (with_reducible refine (CB.out _).mono ?_); rintro e w' ⟨rfl, rfl⟩)
          | (go_at_call 68; (with_reducible refine (CT.out _).mono ?_); rintro e w2 ⟨rfl, hbw2⟩; obtain ⟨hcw2, hfw2, hrw2⟩ := bcell7 hbw2; have hzw2 : w.heap.size < w2.heap.size := (by have h := hbw2.size; (try simp at h); omega); have hBw2 : Below w.heap.size w w2 := (hBw1).trans (hbw2.mono (by first | omega | (simp; done) | (simp; omega)))))
        go_ret
        exact ⟨rfl, by (repeat (first | (with_reducible assumption) | (with_reducible exact Below.refl _ _) | (with_reducible refine Below.drew ?_) | ((with_reducible refine Below.setCell ?_ ?_ _); rotate_left; (focus (first | omega | (simp; done) | (simp; omega)))) | ((with_reducible refine below_row ?_ ?_ _); rotate_left; (focus (first | omega | (simp; done) | (simp; omega)))) | ((with_reducible refine Below.alloc ?_ ?_ _); rotate_left; (focus (first | omega | (simp; done) | (simp; omega))))))⟩
end Go.Proofs.YtcaeobkaoebndaaGreat
