/- Layer 7: isWhole, came, isGood, isGot, isEnd. -/
import Derived.Test.YtcaeobkaoebndaaGreatCtB
import Derived.Test.YtcaeobkaoebndaaGreatJ6
namespace Go.Proofs.YtcaeobkaoebndaaGreat
open Go.RowKit Go.Lib
attribute [local go_sem ↓] ld_ct st_ct ld_ev st_ev ld_ma st_ma bd_ma
attribute [local go_sem] ldCt_at stCt_at ldEv_at stEv_at ldMa_at stMa_at bdMa_at ldp_ct ldp_ma ldp_ev ldp_mev stp_ct stp_ma stp_ev stp_mev stp_mm zero_ct zero_ev zero_ma ev_err ev_sent
attribute [local go_sem] rowAt_drew rowAt_drewN rowAt_new rowAt_past rowAt_setRow rowAt_setRow_other rowAt_setCell_other rowAt_setCell_map cell_setRow free_setRow cell_setRow_other free_setRow_other setRow_alloc_at setRow_alloc_past
attribute [local go_sem] ctA_0 ctA_1 ctA_2 ctA_3 ctA_4 ctA_5 ctA_6 ctA_7 ctA_8 ctA_9 ctA_10 ctA_11 ctA_12 ctA_13 ctA_14 ctA_15 ctA_16 ctA_17 ctA_18 ctA_19 ctA_20 ctA_21 ctA_22 evA_0 evA_1 evA_2 evA_3 evA_4 evA_5 evA_6 mA_0 mA_1 mA_2 mA_3 mA_4 mA_5 mA_6 mA_7 mA_8 mA_9 mA_10 mA_11 mA_12 mA_13 mA_14 mA_15 mA_16 mA_17 mA_18 mA_19 mA_20 mA_21 mA_22 mA_23 mA_24 mA_25 mA_26 mA_27 mA_28 mA_29
attribute [local go_sem] ctA_set0 ctA_set0_0 ctA_set1_0 ctA_suc0 ctA_set1 ctA_set0_1 ctA_set1_1 ctA_suc1 ctA_set2 ctA_set3 ctA_set0_3 ctA_set1_3 ctA_suc3 ctA_set4 ctA_set0_4 ctA_set1_4 ctA_suc4 ctA_set5 ctA_set0_5 ctA_set1_5 ctA_suc5 ctA_set6 ctA_set7 ctA_set8 ctA_set9 ctA_set0_9 ctA_set1_9 ctA_suc9 ctA_set10 ctA_set11 ctA_set12 ctA_set0_12 ctA_set1_12 ctA_suc12 ctA_set13 ctA_set14 ctA_set15 ctA_set16 ctA_set0_16 ctA_set1_16 ctA_suc16 ctA_set17 ctA_set0_17 ctA_set1_17 ctA_suc17 ctA_set18 ctA_set0_18 ctA_set1_18 ctA_suc18 ctA_set19 ctA_set20 ctA_set21 ctA_set0_21 ctA_set1_21 ctA_suc21 ctA_set22 mA_set0 mA_set0_0 mA_set1_0 mA_suc0 mA_set1 mA_set0_1 mA_set1_1 mA_suc1 mA_set2 mA_set3 mA_set0_3 mA_set1_3 mA_suc3 mA_set4 mA_set0_4 mA_set1_4 mA_suc4 mA_set5 mA_set0_5 mA_set1_5 mA_set1000000000_5 mA_suc5 mA_set6 mA_set7 mA_set8 mA_set9 mA_set0_9 mA_set1_9 mA_suc9 mA_set10 mA_set11 mA_set12 mA_set0_12 mA_set1_12 mA_suc12 mA_set13 mA_set14 mA_set15 mA_set16 mA_set0_16 mA_set1_16 mA_suc16 mA_set17 mA_set0_17 mA_set1_17 mA_set48_17 mA_suc17 mA_set18 mA_set0_18 mA_set1_18 mA_suc18 mA_set19 mA_set20 mA_set21 mA_set0_21 mA_set1_21 mA_suc21 mA_set22 evA_set0 evA_set0_0 evA_set1_0 evA_set2_0 evA_set3_0 evA_set4_0 evA_suc0 evA_set1 evA_set0_1 evA_set1_1 evA_suc1 evA_set2 evA_set3 evA_set4 evA_set0_4 evA_set1_4 evA_suc4 evA_set5 evA_set6 evA_set0_6 evA_set1_6 evA_set14_6 evA_suc6 mA_set23 mA_set0_23 mA_set1_23 mA_set2_23 mA_set3_23 mA_set4_23 mA_suc23 mA_set24 mA_set0_24 mA_set1_24 mA_suc24 mA_set25 mA_set26 mA_set27 mA_set0_27 mA_set1_27 mA_suc27 mA_set28 mA_set29 mA_set0_29 mA_set1_29 mA_suc29

theorem toList_beq (a b : ByteArray) : (a.toList == b.toList) = decide (a.data.toList = b.data.toList) := by
  rw [Bool.eq_iff_iff, beq_iff_eq, decide_eq_true_eq, ByteArray.toList_eq, ByteArray.toList_eq]
theorem headB_eq (f : B.Fr) (l : List UInt8) : B.headB f (strB l) = decide (B.headL f = l) := by
  unfold B.headB
  rw [toList_beq]
set_option maxRecDepth 100000 in
theorem iswhole_any (c : B.Cs) (w : World) (ha : c.got.all B.okc = true) (hl : c.got.length ≤ 300) : Calls Tryz.prog 65 #[.agg (ctA c)] w fun e w' => e = .returned (.bool (B.stopB c.st c.got)) ∧ Below w.heap.size w w' := by
  have hn := B.size_le c.got
  have CS : Hid (∀ w, Calls Tryz.prog 64 #[.string (strB c.got)] w fun e w' => e = .returned (.tuple #[.int .i64 ((B.sizeL c.got).1 : Nat), .int .i64 ((B.sizeL c.got).2 : Nat)]) ∧ Below w.heap.size w w') := Lib.hid (fun w => by
    have := size4_any (strB c.got) w (strB_right ha (by omega))
    rwa [list_of] at this)
  unfold B.stopB
  obtain ⟨n, en⟩ : ∃ n, n = (B.sizeL c.got).1 := ⟨_, rfl⟩
  obtain ⟨z, ez⟩ : ∃ n, n = (B.sizeL c.got).2 := ⟨_, rfl⟩
  rw [← en] at CS hn ⊢
  rw [← ez] at CS ⊢
  clear en ez ha
  by_cases hz : z = 0
  · subst hz
    by_cases hq : c.got.length = n + 15
    · have h1 : (((c.got.length : Nat) : Int) == (n : Int) + 15) = true := by rw [beq_iff_eq]; omega
      have h2 : decide ((0 : Nat) = 0 ∧ c.got.length = n + 15 ∧ c.st.2 < 5) = decide ((c.st.2 : Int) < 5) := by rw [hq]; simp; omega
      rw [h2]
      clear hq h2
      go_enter Tryz.func65, Tryz.ntmps65
      go_wp2_with (first
        | (go_at_call 64; (with_reducible refine (CS.out _).mono ?_); rintro e w1 ⟨rfl, hbw1⟩; obtain ⟨hc1, hf1, hr1⟩ := bcell7 hbw1))
      go_ret
      exact ⟨rfl, ((Below.refl _ w).alloc (Nat.le_refl _) _).trans (hbw1.mono (by simp))⟩
    · have h1 : (((c.got.length : Nat) : Int) == (n : Int) + 15) = false := by rw [beq_eq_false_iff_ne]; omega
      have h2 : decide ((0 : Nat) = 0 ∧ c.got.length = n + 15 ∧ c.st.2 < 5) = false := by simp [hq]
      rw [h2]
      clear hq h2
      go_enter Tryz.func65, Tryz.ntmps65
      go_wp2_with (first
        | (go_at_call 64; (with_reducible refine (CS.out _).mono ?_); rintro e w1 ⟨rfl, hbw1⟩; obtain ⟨hc1, hf1, hr1⟩ := bcell7 hbw1))
      go_ret
      exact ⟨rfl, ((Below.refl _ w).alloc (Nat.le_refl _) _).trans (hbw1.mono (by simp))⟩
  · have h1 : ((z : Int) == 0) = false := by rw [beq_eq_false_iff_ne]; omega
    have h2 : decide (z = 0 ∧ c.got.length = n + 15 ∧ c.st.2 < 5) = false := by simp [hz]
    rw [h2]
    clear hz h2
    go_enter Tryz.func65, Tryz.ntmps65
    go_wp2_with (first
      | (go_at_call 64; (with_reducible refine (CS.out _).mono ?_); rintro e w1 ⟨rfl, hbw1⟩; obtain ⟨hc1, hf1, hr1⟩ := bcell7 hbw1))
    go_ret
    exact ⟨rfl, ((Below.refl _ w).alloc (Nat.le_refl _) _).trans (hbw1.mono (by simp))⟩
set_option maxRecDepth 100000 in
theorem came_yes (c : B.Cs) (w : World) (q : List UInt8) (ha : c.got.all B.okc = true) (hl : c.got.length ≤ 300) (h15 : 15 ≤ c.got.length) (hq : c.got.take (c.got.length - 15) = q) (hs : B.sizeL q = (q.length, 0)) (hh : B.headL (B.decode q) = q) :
    Calls Tryz.prog 87 #[.agg (ctA c)] w fun e w' => e = .returned (.tuple #[.agg #[.int .u32 ((B.decode q).id : Nat), .bool (B.decode q).ext, .bool (B.decode q).remote, .int .i64 ((B.decode q).dlc : Nat), .string (strB (B.decode q).data)], .int .i64 0]) ∧ Below w.heap.size w w' := by
  have hql : q.length ≤ 300 := by rw [← hq, List.length_take]; omega
  have hqa : q.all B.okc = true := by rw [← hq]; exact B.all_take ha _
  have hx : (strB c.got).extract 0 (c.got.length - 15) = strB q := by
    rw [← hq]; exact bytes_eq (by rw [ByteArray.data_extract, Array.toList_extract]; simp [List.extract])
  have hz1 : ((c.got.length : Nat) : Int) - 15 = ((c.got.length - 15 : Nat) : Int) := by omega
  have hz2 : ((strB c.got).size : Int) = ((c.got.length : Nat) : Int) := by rw [strB_size]
  have CR : Hid (∀ w, Calls Tryz.prog 101 #[.string (strB q)] w fun e w' => e = .returned (.tuple #[.agg #[.int .u32 ((B.decode q).id : Nat), .bool (B.decode q).ext, .bool (B.decode q).remote, .int .i64 ((B.decode q).dlc : Nat), .string (strB (B.decode q).data)], .int .i64 0]) ∧ Below w.heap.size w w') := Lib.hid (fun w => by
    have hb : B.headB (B.decode q) (strB q) = true := by rw [headB_eq]; exact decide_eq_true hh
    have := read4_yes (strB q) w (strB_right hqa (by omega)) (by rw [list_of, strB_size]; exact hs) (by rw [list_of]; exact hb)
    rwa [list_of] at this)
  clear hq hs hh ha hql hqa
  go_enter Tryz.func87, Tryz.ntmps87
  go_wp2_with (first
    | (go_at_call 101; (with_reducible refine (CR.out _).mono ?_); rintro e w1 ⟨rfl, hbw1⟩; obtain ⟨hc1, hf1, hr1⟩ := bcell7 hbw1))
  refine bodyPost_ret (res_fr_t Tryz.results87 _ _ (w.heap.size + 1) #[.int .u32 ((B.decode q).id : Nat), .bool (B.decode q).ext, .bool (B.decode q).remote, .int .i64 ((B.decode q).dlc : Nat), .string (strB (B.decode q).data)] rfl (by simp [go_sem, hr1]) rfl) rfl ⟨rfl, ?_⟩
  have hb := (((Below.refl _ w).alloc (Nat.le_refl _) (.cells (ctA c) 33)).alloc (by simp) (.cells #[.int .u32 0, .bool false, .bool false, .int .i64 0, .string ⟨#[]⟩] 24)).trans (hbw1.mono (by first | omega | (simp; done) | (simp; omega)))
  (repeat (first | (with_reducible assumption) | (with_reducible exact Below.refl _ _) | (with_reducible refine Below.drew ?_) | ((with_reducible refine Below.setCell ?_ ?_ _); rotate_left; (focus (first | omega | (simp; done) | (simp; omega)))) | ((with_reducible refine below_row ?_ ?_ _); rotate_left; (focus (first | omega | (simp; done) | (simp; omega)))) | ((with_reducible refine Below.alloc ?_ ?_ _); rotate_left; (focus (first | omega | (simp; done) | (simp; omega))))))
set_option maxRecDepth 100000 in
theorem came_no (c : B.Cs) (w : World) (q : List UInt8) (ha : c.got.all B.okc = true) (hl : c.got.length ≤ 300) (h15 : 15 ≤ c.got.length) (hq : c.got.take (c.got.length - 15) = q) (hs : B.sizeL q = (q.length, 0)) (hh : ¬ B.headL (B.decode q) = q) :
    Calls Tryz.prog 87 #[.agg (ctA c)] w fun e w' => e = .returned (.tuple #[.agg #[.int .u32 0, .bool false, .bool false, .int .i64 0, .string ⟨#[]⟩], .int .i64 12]) ∧ Below w.heap.size w w' := by
  have hql : q.length ≤ 300 := by rw [← hq, List.length_take]; omega
  have hqa : q.all B.okc = true := by rw [← hq]; exact B.all_take ha _
  have hx : (strB c.got).extract 0 (c.got.length - 15) = strB q := by
    rw [← hq]; exact bytes_eq (by rw [ByteArray.data_extract, Array.toList_extract]; simp [List.extract])
  have hz1 : ((c.got.length : Nat) : Int) - 15 = ((c.got.length - 15 : Nat) : Int) := by omega
  have hz2 : ((strB c.got).size : Int) = ((c.got.length : Nat) : Int) := by rw [strB_size]
  have CR : Hid (∀ w, Calls Tryz.prog 101 #[.string (strB q)] w fun e w' => e = .returned (.tuple #[.agg #[.int .u32 0, .bool false, .bool false, .int .i64 0, .string ⟨#[]⟩], .int .i64 12]) ∧ Below w.heap.size w w') := Lib.hid (fun w => by
    have hb : B.headB (B.decode q) (strB q) = false := by rw [headB_eq]; exact decide_eq_false hh
    have := read4_other (strB q) w (strB_right hqa (by omega)) (by rw [list_of, strB_size]; exact hs) (by rw [list_of]; exact hb)
    exact this)
  clear hq hs hh ha hql hqa
  go_enter Tryz.func87, Tryz.ntmps87
  go_wp2_with (first
    | (go_at_call 101; (with_reducible refine (CR.out _).mono ?_); rintro e w1 ⟨rfl, hbw1⟩; obtain ⟨hc1, hf1, hr1⟩ := bcell7 hbw1))
  refine bodyPost_ret (res_fr_t Tryz.results87 _ _ (w.heap.size + 1) #[.int .u32 0, .bool false, .bool false, .int .i64 0, .string ⟨#[]⟩] rfl (by simp [go_sem, hr1]) rfl) rfl ⟨rfl, ?_⟩
  have hb := (((Below.refl _ w).alloc (Nat.le_refl _) (.cells (ctA c) 33)).alloc (by simp) (.cells #[.int .u32 0, .bool false, .bool false, .int .i64 0, .string ⟨#[]⟩] 24)).trans (hbw1.mono (by first | omega | (simp; done) | (simp; omega)))
  (repeat (first | (with_reducible assumption) | (with_reducible exact Below.refl _ _) | (with_reducible refine Below.drew ?_) | ((with_reducible refine Below.setCell ?_ ?_ _); rotate_left; (focus (first | omega | (simp; done) | (simp; omega)))) | ((with_reducible refine below_row ?_ ?_ _); rotate_left; (focus (first | omega | (simp; done) | (simp; omega)))) | ((with_reducible refine Below.alloc ?_ ?_ _); rotate_left; (focus (first | omega | (simp; done) | (simp; omega))))))
theorem B.size_take7 {b : List UInt8} (h : (sizeL b).2 = 0) (hl : (sizeL b).1 ≤ b.length) : sizeL (b.take (sizeL b).1) = sizeL b := by
  obtain ⟨h1, h2, h3⟩ := size_ge h
  have hp : (b.take (sizeL b).1).length = (sizeL b).1 := by rw [List.length_take]; omega
  have hb : b.take (sizeL b).1 ++ b.drop (sizeL b).1 = b := List.take_append_drop _ _
  have hbo := baseL_or b
  have hbase : baseL b = baseL (b.take (sizeL b).1) := by
    have := baseL_append (p := b.take (sizeL b).1) (by omega) (b.drop (sizeL b).1)
    rwa [hb] at this
  have hne : (sizeL (b.take (sizeL b).1)).2 ≠ 3 := by
    intro e
    rcases size_lt e with h4 | h4
    · omega
    · rw [← hbase] at h4; omega
  have := size_append hne (b.drop (sizeL b).1)
  rw [hb] at this
  exact this.symm

/-- what a row is, where a head and its sum were found -/
theorem goodB_parts (g : List UInt8) (h15 : 15 ≤ g.length) (ha : g.all B.okc = true) (hl : g.length ≤ 300) (hs : B.sizeL (g.take (g.length - 15)) = ((g.take (g.length - 15)).length, 0)) :
    B.goodB g = (B.check (strB g) && decide (B.headL (B.decode (g.take (g.length - 15))) = g.take (g.length - 15))) := by
  unfold B.goodB B.check B.sum
  have hd := B.decode_fr (B.all_take ha (g.length - 15)) hs
  rw [(B.frB_iff _).2 hd, strB_right ha (by omega), strB_size, list_of, Bool.and_true, Bool.and_true, decide_eq_true h15, Bool.true_and]
  rfl
set_option maxRecDepth 100000 in
theorem isgood_any (c : B.Cs) (w : World) (ha : c.got.all B.okc = true) (hl : c.got.length ≤ 300) (hfin : c.fin = true → (B.sizeL c.got).2 = 0 ∧ c.got.length = (B.sizeL c.got).1 + 15) :
    Calls Tryz.prog 66 #[.agg (ctA c)] w fun e w' => e = .returned (.bool (c.fin && B.goodB c.got)) ∧ Below w.heap.size w w' := by
  cases hf : c.fin
  · clear hfin ha hl
    go_enter Tryz.func66, Tryz.ntmps66
    go_wp2
    go_ret
    exact ⟨rfl, by (repeat (first | (with_reducible assumption) | (with_reducible exact Below.refl _ _) | (with_reducible refine Below.drew ?_) | ((with_reducible refine Below.setCell ?_ ?_ _); rotate_left; (focus (first | omega | (simp; done) | (simp; omega)))) | ((with_reducible refine below_row ?_ ?_ _); rotate_left; (focus (first | omega | (simp; done) | (simp; omega)))) | ((with_reducible refine Below.alloc ?_ ?_ _); rotate_left; (focus (first | omega | (simp; done) | (simp; omega))))))⟩
  · obtain ⟨hz, hn⟩ := hfin hf
    have h15 : 15 ≤ c.got.length := by omega
    obtain ⟨q, hq⟩ : ∃ q, q = c.got.take (c.got.length - 15) := ⟨_, rfl⟩
    have hs : B.sizeL q = (q.length, 0) := by
      have e := B.size_take7 hz (by omega)
      have e2 : c.got.length - 15 = (B.sizeL c.got).1 := by omega
      rw [hq, e2, e, List.length_take, Nat.min_eq_left (by omega), ← hz]
    have CC : Hid (∀ w, Calls Tryz.prog 86 #[.string (strB c.got)] w fun e w' => e = .returned (.bool (B.check (strB c.got))) ∧ Below w.heap.size w w') := Lib.hid (fun w => check_any (strB c.got) w (by rw [strB_size]; unfold maxLen; omega))
    rw [goodB_parts c.got h15 ha hl (by rw [← hq]; exact hs), ← hq]
    obtain ⟨k, hk⟩ : ∃ k, k = B.check (strB c.got) := ⟨_, rfl⟩
    rw [← hk] at CC ⊢
    clear hfin hz hn hk
    cases k
    · clear hq hs ha
      go_enter Tryz.func66, Tryz.ntmps66
      go_wp2_with (first
        | (go_at_call 86; (with_reducible refine (CC.out _).mono ?_); rintro e w1 ⟨rfl, hbw1⟩; obtain ⟨hcw1, hfw1, hrw1⟩ := bcell7 hbw1))
      go_ret
      exact ⟨rfl, ((Below.refl _ w).alloc (Nat.le_refl _) _).trans (hbw1.mono (by first | omega | (simp; done) | (simp; omega)))⟩
    · by_cases hh : B.headL (B.decode q) = q
      · have CM : Hid (∀ w, Calls Tryz.prog 87 #[.agg (ctA c)] w fun e w' => e = .returned (.tuple #[.agg #[.int .u32 ((B.decode q).id : Nat), .bool (B.decode q).ext, .bool (B.decode q).remote, .int .i64 ((B.decode q).dlc : Nat), .string (strB (B.decode q).data)], .int .i64 0]) ∧ Below w.heap.size w w') := Lib.hid (fun w => came_yes c w q ha hl h15 hq.symm hs hh)
        rw [decide_eq_true hh]
        clear hq hs ha hh
        go_enter Tryz.func66, Tryz.ntmps66
        go_wp2_with (first
          | (go_at_call 86; (with_reducible refine (CC.out _).mono ?_); rintro e w1 ⟨rfl, hbw1⟩; obtain ⟨hcw1, hfw1, hrw1⟩ := bcell7 hbw1; have hzw1 : w.heap.size < w1.heap.size := (by have h := hbw1.size; (try simp at h); omega); have hBw1 : Below w.heap.size w w1 := ((Below.refl w.heap.size w).alloc (Nat.le_refl _) (.cells (ctA c) 33)).trans (hbw1.mono (by first | omega | (simp; done) | (simp; omega))))
          | (go_at_call 87; (with_reducible refine (CM.out _).mono ?_); rintro e w2 ⟨rfl, hbw2⟩; obtain ⟨hcw2, hfw2, hrw2⟩ := bcell7 hbw2; have hzw2 : w.heap.size < w2.heap.size := (by have h := hbw2.size; (try simp at h); omega); have hBw2 : Below w.heap.size w w2 := (hBw1).trans (hbw2.mono (by first | omega | (simp; done) | (simp; omega)))))
        go_ret
        refine ⟨rfl, ?_⟩
        (repeat (first | (with_reducible assumption) | (with_reducible exact Below.refl _ _) | (with_reducible refine Below.drew ?_) | ((with_reducible refine Below.setCell ?_ ?_ _); rotate_left; (focus (first | omega | (simp; done) | (simp; omega)))) | ((with_reducible refine below_row ?_ ?_ _); rotate_left; (focus (first | omega | (simp; done) | (simp; omega)))) | ((with_reducible refine Below.alloc ?_ ?_ _); rotate_left; (focus (first | omega | (simp; done) | (simp; omega))))))
      · have CM : Hid (∀ w, Calls Tryz.prog 87 #[.agg (ctA c)] w fun e w' => e = .returned (.tuple #[.agg #[.int .u32 0, .bool false, .bool false, .int .i64 0, .string ⟨#[]⟩], .int .i64 12]) ∧ Below w.heap.size w w') := Lib.hid (fun w => came_no c w q ha hl h15 hq.symm hs hh)
        rw [decide_eq_false hh]
        clear hq hs ha hh
        go_enter Tryz.func66, Tryz.ntmps66
        go_wp2_with (first
          | (go_at_call 86; (with_reducible refine (CC.out _).mono ?_); rintro e w1 ⟨rfl, hbw1⟩; obtain ⟨hcw1, hfw1, hrw1⟩ := bcell7 hbw1; have hzw1 : w.heap.size < w1.heap.size := (by have h := hbw1.size; (try simp at h); omega); have hBw1 : Below w.heap.size w w1 := ((Below.refl w.heap.size w).alloc (Nat.le_refl _) (.cells (ctA c) 33)).trans (hbw1.mono (by first | omega | (simp; done) | (simp; omega))))
          | (go_at_call 87; (with_reducible refine (CM.out _).mono ?_); rintro e w2 ⟨rfl, hbw2⟩; obtain ⟨hcw2, hfw2, hrw2⟩ := bcell7 hbw2; have hzw2 : w.heap.size < w2.heap.size := (by have h := hbw2.size; (try simp at h); omega); have hBw2 : Below w.heap.size w w2 := (hBw1).trans (hbw2.mono (by first | omega | (simp; done) | (simp; omega)))))
        go_ret
        refine ⟨rfl, ?_⟩
        (repeat (first | (with_reducible assumption) | (with_reducible exact Below.refl _ _) | (with_reducible refine Below.drew ?_) | ((with_reducible refine Below.setCell ?_ ?_ _); rotate_left; (focus (first | omega | (simp; done) | (simp; omega)))) | ((with_reducible refine below_row ?_ ?_ _); rotate_left; (focus (first | omega | (simp; done) | (simp; omega)))) | ((with_reducible refine Below.alloc ?_ ?_ _); rotate_left; (focus (first | omega | (simp; done) | (simp; omega))))))
end Go.Proofs.YtcaeobkaoebndaaGreat
