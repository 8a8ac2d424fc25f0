/- Layer 7: outside, New, isPlace, isOwn, isWhole, came, isGood. -/
import Derived.Test.YtcaeobkaoebndaaGreatCtA
import Derived.Test.YtcaeobkaoebndaaGreatJ8
import Derived.Test.YtcaeobkaoebndaaGreatSize4
namespace Go.Proofs.YtcaeobkaoebndaaGreat
open Go.RowKit Go.Lib
attribute [local go_sem ↓] ld_ct st_ct ld_ev st_ev ld_ma st_ma bd_ma
attribute [local go_sem] ldCt_at stCt_at ldEv_at stEv_at ldMa_at stMa_at bdMa_at ldp_ct ldp_ma ldp_ev ldp_mev stp_ct stp_ma stp_ev stp_mev stp_mm zero_ct zero_ev zero_ma ev_err ev_sent
attribute [local go_sem] rowAt_drew rowAt_drewN rowAt_new rowAt_past rowAt_setRow rowAt_setRow_other rowAt_setCell_other rowAt_setCell_map cell_setRow free_setRow cell_setRow_other free_setRow_other setRow_alloc_at setRow_alloc_past
attribute [local go_sem] ctA_0 ctA_1 ctA_2 ctA_3 ctA_4 ctA_5 ctA_6 ctA_7 ctA_8 ctA_9 ctA_10 ctA_11 ctA_12 ctA_13 ctA_14 ctA_15 ctA_16 ctA_17 ctA_18 ctA_19 ctA_20 ctA_21 ctA_22 evA_0 evA_1 evA_2 evA_3 evA_4 evA_5 evA_6 mA_0 mA_1 mA_2 mA_3 mA_4 mA_5 mA_6 mA_7 mA_8 mA_9 mA_10 mA_11 mA_12 mA_13 mA_14 mA_15 mA_16 mA_17 mA_18 mA_19 mA_20 mA_21 mA_22 mA_23 mA_24 mA_25 mA_26 mA_27 mA_28 mA_29
attribute [local go_sem] ctA_set0 ctA_set0_0 ctA_set1_0 ctA_suc0 ctA_set1 ctA_set0_1 ctA_set1_1 ctA_suc1 ctA_set2 ctA_set3 ctA_set0_3 ctA_set1_3 ctA_suc3 ctA_set4 ctA_set0_4 ctA_set1_4 ctA_suc4 ctA_set5 ctA_set0_5 ctA_set1_5 ctA_suc5 ctA_set6 ctA_set7 ctA_set8 ctA_set9 ctA_set0_9 ctA_set1_9 ctA_suc9 ctA_set10 ctA_set11 ctA_set12 ctA_set0_12 ctA_set1_12 ctA_suc12 ctA_set13 ctA_set14 ctA_set15 ctA_set16 ctA_set0_16 ctA_set1_16 ctA_suc16 ctA_set17 ctA_set0_17 ctA_set1_17 ctA_suc17 ctA_set18 ctA_set0_18 ctA_set1_18 ctA_suc18 ctA_set19 ctA_set20 ctA_set21 ctA_set0_21 ctA_set1_21 ctA_suc21 ctA_set22 mA_set0 mA_set0_0 mA_set1_0 mA_suc0 mA_set1 mA_set0_1 mA_set1_1 mA_suc1 mA_set2 mA_set3 mA_set0_3 mA_set1_3 mA_suc3 mA_set4 mA_set0_4 mA_set1_4 mA_suc4 mA_set5 mA_set0_5 mA_set1_5 mA_set1000000000_5 mA_suc5 mA_set6 mA_set7 mA_set8 mA_set9 mA_set0_9 mA_set1_9 mA_suc9 mA_set10 mA_set11 mA_set12 mA_set0_12 mA_set1_12 mA_suc12 mA_set13 mA_set14 mA_set15 mA_set16 mA_set0_16 mA_set1_16 mA_suc16 mA_set17 mA_set0_17 mA_set1_17 mA_set48_17 mA_suc17 mA_set18 mA_set0_18 mA_set1_18 mA_suc18 mA_set19 mA_set20 mA_set21 mA_set0_21 mA_set1_21 mA_suc21 mA_set22 evA_set0 evA_set0_0 evA_set1_0 evA_set2_0 evA_set3_0 evA_set4_0 evA_suc0 evA_set1 evA_set0_1 evA_set1_1 evA_suc1 evA_set2 evA_set3 evA_set4 evA_set0_4 evA_set1_4 evA_suc4 evA_set5 evA_set6 evA_set0_6 evA_set1_6 evA_set14_6 evA_suc6 mA_set23 mA_set0_23 mA_set1_23 mA_set2_23 mA_set3_23 mA_set4_23 mA_suc23 mA_set24 mA_set0_24 mA_set1_24 mA_suc24 mA_set25 mA_set26 mA_set27 mA_set0_27 mA_set1_27 mA_suc27 mA_set28 mA_set29 mA_set0_29 mA_set1_29 mA_suc29

theorem bcell7 {W w1 : World} (hb : Below W.heap.size W w1) : (∀ b o, b < W.heap.size → w1.cell? ⟨b, o, none⟩ = W.cell? ⟨b, o, none⟩) ∧ (∀ b o, b < W.heap.size → w1.frozen? ⟨b, o, none⟩ = W.frozen? ⟨b, o, none⟩) ∧ (∀ b, b < W.heap.size → rowAt w1 b = rowAt W b) :=
  ⟨fun b o h => hb.cell (p := ⟨b, o, none⟩) h, fun b o h => hb.frozen (p := ⟨b, o, none⟩) h, rowAt_below hb⟩
theorem strB_size (l : List UInt8) : (strB l).size = l.length := by simp [ByteArray.size]
theorem strB_right {l : List UInt8} (h : l.all B.okc = true) (hl : l.length ≤ 4000) : B.right (strB l) = true := by
  unfold B.right
  rw [Bool.and_eq_true, decide_eq_true_eq, strB_size, list_of]; exact ⟨hl, h⟩
def _root_.Go.Proofs.YtcaeobkaoebndaaGreat.B.Cs.bare (c : B.Cs) : B.Cs := B.bareC c.cnt c.state c.n c.was c.hard c.has c.fr
set_option maxRecDepth 100000 in
theorem outside_any (c : B.Cs) (w : World) : Calls Tryz.prog 39 #[.agg (ctA c)] w fun e w' => e = .returned (.agg (ctA c.bare)) ∧ Below w.heap.size w w' := by
  go_enter Tryz.func39, Tryz.ntmps39
  go_wp2
  refine bodyPost_ret (res_ct Tryz.results39 _ _ _ (c.bare) rfl (by simp [go_sem]; rfl)) rfl ⟨rfl, ?_⟩
  (repeat (first | (with_reducible assumption) | (with_reducible exact Below.refl _ _) | (with_reducible refine Below.drew ?_) | ((with_reducible refine Below.setCell ?_ ?_ _); rotate_left; (focus (first | omega | (simp; done) | (simp; omega)))) | ((with_reducible refine below_row ?_ ?_ _); rotate_left; (focus (first | omega | (simp; done) | (simp; omega)))) | ((with_reducible refine Below.alloc ?_ ?_ _); rotate_left; (focus (first | omega | (simp; done) | (simp; omega))))))
set_option maxRecDepth 100000 in
theorem ctlnew_any (w : World) : Calls Tryz.prog 20 #[] w fun e w' => e = .returned (.agg (ctA B.cs0)) ∧ Below w.heap.size w w' := by
  go_enter Tryz.func20, Tryz.ntmps20
  go_wp2
  refine bodyPost_ret (res_ct Tryz.results20 _ _ _ (B.cs0) rfl (by simp [go_sem]; rfl)) rfl ⟨rfl, ?_⟩
  (repeat (first | (with_reducible assumption) | (with_reducible exact Below.refl _ _) | (with_reducible refine Below.drew ?_) | ((with_reducible refine Below.setCell ?_ ?_ _); rotate_left; (focus (first | omega | (simp; done) | (simp; omega)))) | ((with_reducible refine below_row ?_ ?_ _); rotate_left; (focus (first | omega | (simp; done) | (simp; omega)))) | ((with_reducible refine Below.alloc ?_ ?_ _); rotate_left; (focus (first | omega | (simp; done) | (simp; omega))))))
theorem within_yes (a b c : Int) (w : World) (h1 : b ≤ a) (h2 : a ≤ c) : Calls Tryz.prog 62 #[.int .i64 a, .int .i64 b, .int .i64 c] w fun e w' => e = .returned (.bool true) ∧ w = w' := by
  have d1 : decide (b ≤ a) = true := decide_eq_true h1
  have d2 : decide (a ≤ c) = true := decide_eq_true h2
  go_enter Tryz.func62, Tryz.ntmps62
  go_wp2
  go_ret
  exact ⟨rfl, rfl⟩
theorem isplace_0 (n : Nat) (w : World) (h : 0 ≤ n ∧ n ≤ 10) : Calls Tryz.prog 37 #[.int .i64 0, .int .i64 (n : Int)] w fun e w' => e = .returned (.bool true) ∧ w = w' := by
  have CW : Hid (∀ w, Calls Tryz.prog 62 #[.int .i64 (n : Int), .int .i64 0, .int .i64 10] w fun e w' => e = .returned (.bool true) ∧ w = w') := Lib.hid (fun w => within_yes _ _ _ w (by omega) (by omega))
  clear h
  go_enter Tryz.func37, Tryz.ntmps37
  go_wp2_with (first
    | (go_at_call 62; (with_reducible refine (CW.out _).mono ?_); rintro e w' ⟨rfl, rfl⟩))
  go_ret
  exact ⟨rfl, rfl⟩
theorem isplace_1 (n : Nat) (w : World) (h : 0 ≤ n ∧ n ≤ 0) : Calls Tryz.prog 37 #[.int .i64 1, .int .i64 (n : Int)] w fun e w' => e = .returned (.bool true) ∧ w = w' := by
  have CW : Hid (∀ w, Calls Tryz.prog 62 #[.int .i64 (n : Int), .int .i64 0, .int .i64 0] w fun e w' => e = .returned (.bool true) ∧ w = w') := Lib.hid (fun w => within_yes _ _ _ w (by omega) (by omega))
  obtain rfl : n = 0 := by omega
  clear h CW
  go_enter Tryz.func37, Tryz.ntmps37
  go_wp2
  go_ret
  exact ⟨rfl, rfl⟩
theorem isplace_2 (n : Nat) (w : World) (h : 0 ≤ n ∧ n ≤ 0) : Calls Tryz.prog 37 #[.int .i64 2, .int .i64 (n : Int)] w fun e w' => e = .returned (.bool true) ∧ w = w' := by
  have CW : Hid (∀ w, Calls Tryz.prog 62 #[.int .i64 (n : Int), .int .i64 0, .int .i64 0] w fun e w' => e = .returned (.bool true) ∧ w = w') := Lib.hid (fun w => within_yes _ _ _ w (by omega) (by omega))
  obtain rfl : n = 0 := by omega
  clear h CW
  go_enter Tryz.func37, Tryz.ntmps37
  go_wp2
  go_ret
  exact ⟨rfl, rfl⟩
theorem isplace_3 (n : Nat) (w : World) (h : 0 ≤ n ∧ n ≤ 5) : Calls Tryz.prog 37 #[.int .i64 3, .int .i64 (n : Int)] w fun e w' => e = .returned (.bool true) ∧ w = w' := by
  have CW : Hid (∀ w, Calls Tryz.prog 62 #[.int .i64 (n : Int), .int .i64 0, .int .i64 5] w fun e w' => e = .returned (.bool true) ∧ w = w') := Lib.hid (fun w => within_yes _ _ _ w (by omega) (by omega))
  clear h
  go_enter Tryz.func37, Tryz.ntmps37
  go_wp2_with (first
    | (go_at_call 62; (with_reducible refine (CW.out _).mono ?_); rintro e w' ⟨rfl, rfl⟩))
  go_ret
  exact ⟨rfl, rfl⟩
theorem isplace_4 (n : Nat) (w : World) (h : 0 ≤ n ∧ n ≤ 1000000000) : Calls Tryz.prog 37 #[.int .i64 4, .int .i64 (n : Int)] w fun e w' => e = .returned (.bool true) ∧ w = w' := by
  have CW : Hid (∀ w, Calls Tryz.prog 62 #[.int .i64 (n : Int), .int .i64 0, .int .i64 1000000000] w fun e w' => e = .returned (.bool true) ∧ w = w') := Lib.hid (fun w => within_yes _ _ _ w (by omega) (by omega))
  clear h
  go_enter Tryz.func37, Tryz.ntmps37
  go_wp2_with (first
    | (go_at_call 62; (with_reducible refine (CW.out _).mono ?_); rintro e w' ⟨rfl, rfl⟩))
  go_ret
  exact ⟨rfl, rfl⟩
theorem isplace_5 (n : Nat) (w : World) (h : 1 ≤ n ∧ n ≤ 7) : Calls Tryz.prog 37 #[.int .i64 5, .int .i64 (n : Int)] w fun e w' => e = .returned (.bool true) ∧ w = w' := by
  have CW : Hid (∀ w, Calls Tryz.prog 62 #[.int .i64 (n : Int), .int .i64 1, .int .i64 7] w fun e w' => e = .returned (.bool true) ∧ w = w') := Lib.hid (fun w => within_yes _ _ _ w (by omega) (by omega))
  clear h
  go_enter Tryz.func37, Tryz.ntmps37
  go_wp2_with (first
    | (go_at_call 62; (with_reducible refine (CW.out _).mono ?_); rintro e w' ⟨rfl, rfl⟩))
  go_ret
  exact ⟨rfl, rfl⟩
theorem isplace_6 (n : Nat) (w : World) (h : 0 ≤ n ∧ n ≤ 2) : Calls Tryz.prog 37 #[.int .i64 6, .int .i64 (n : Int)] w fun e w' => e = .returned (.bool true) ∧ w = w' := by
  have CW : Hid (∀ w, Calls Tryz.prog 62 #[.int .i64 (n : Int), .int .i64 0, .int .i64 2] w fun e w' => e = .returned (.bool true) ∧ w = w') := Lib.hid (fun w => within_yes _ _ _ w (by omega) (by omega))
  clear h
  go_enter Tryz.func37, Tryz.ntmps37
  go_wp2_with (first
    | (go_at_call 62; (with_reducible refine (CW.out _).mono ?_); rintro e w' ⟨rfl, rfl⟩))
  go_ret
  exact ⟨rfl, rfl⟩
theorem isplace_7 (n : Nat) (w : World) (h : 0 ≤ n ∧ n ≤ 7) : Calls Tryz.prog 37 #[.int .i64 7, .int .i64 (n : Int)] w fun e w' => e = .returned (.bool true) ∧ w = w' := by
  have CW : Hid (∀ w, Calls Tryz.prog 62 #[.int .i64 (n : Int), .int .i64 0, .int .i64 7] w fun e w' => e = .returned (.bool true) ∧ w = w') := Lib.hid (fun w => within_yes _ _ _ w (by omega) (by omega))
  clear h
  go_enter Tryz.func37, Tryz.ntmps37
  go_wp2_with (first
    | (go_at_call 62; (with_reducible refine (CW.out _).mono ?_); rintro e w' ⟨rfl, rfl⟩))
  go_ret
  exact ⟨rfl, rfl⟩
theorem isplace_8 (n : Nat) (w : World) (h : 0 ≤ n ∧ n ≤ 10) : Calls Tryz.prog 37 #[.int .i64 8, .int .i64 (n : Int)] w fun e w' => e = .returned (.bool true) ∧ w = w' := by
  have CW : Hid (∀ w, Calls Tryz.prog 62 #[.int .i64 (n : Int), .int .i64 0, .int .i64 10] w fun e w' => e = .returned (.bool true) ∧ w = w') := Lib.hid (fun w => within_yes _ _ _ w (by omega) (by omega))
  clear h
  go_enter Tryz.func37, Tryz.ntmps37
  go_wp2_with (first
    | (go_at_call 62; (with_reducible refine (CW.out _).mono ?_); rintro e w' ⟨rfl, rfl⟩))
  go_ret
  exact ⟨rfl, rfl⟩
theorem isplace_any (s n : Nat) (w : World) (h8 : s ≤ 8) (h : B.NOk s n) : Calls Tryz.prog 37 #[.int .i64 (s : Int), .int .i64 (n : Int)] w fun e w' => e = .returned (.bool true) ∧ w = w' := by
  obtain ⟨n0, n1, n3, n4, n5, n6, n7⟩ := h
  rcases (by omega : s = 0 ∨ s = 1 ∨ s = 2 ∨ s = 3 ∨ s = 4 ∨ s = 5 ∨ s = 6 ∨ s = 7 ∨ s = 8) with rfl | rfl | rfl | rfl | rfl | rfl | rfl | rfl | rfl
  · exact isplace_0 n w (by omega)
  · exact isplace_1 n w (by omega)
  · exact isplace_2 n w (by omega)
  · exact isplace_3 n w (by omega)
  · exact isplace_4 n w (by omega)
  · exact isplace_5 n w (by omega)
  · exact isplace_6 n w (by omega)
  · exact isplace_7 n w (by omega)
  · exact isplace_8 n w (by omega)

theorem frI_yes7 {f : B.Fr} (h : B.FrR f) : B.frI f.id f.ext f.remote (f.dlc : Int) (strB f.data).size = true := by
  obtain ⟨h1, h2, h3⟩ := h
  unfold B.frI
  rw [strB_size]
  simp only [Bool.and_eq_true, decide_eq_true_eq]
  refine ⟨⟨⟨by omega, by omega⟩, ?_⟩, h3⟩
  split
  · rename_i hr; rw [if_pos hr] at h2; simp [h2]
  · rename_i hr; rw [if_neg hr] at h2; simp; omega
set_option maxRecDepth 100000 in
theorem isown_any (c : B.Cs) (w : World) (h1 : c.has = true → B.FrR c.fr) (h0 : c.has = false → c.fr = B.noFr) : Calls Tryz.prog 38 #[.agg (ctA c)] w fun e w' => e = .returned (.bool true) ∧ Below w.heap.size w w' := by
  cases hh : c.has
  · have hf := h0 hh
    obtain ⟨e0, e1, e2, e3, e4⟩ : c.fr.id = 0 ∧ c.fr.ext = false ∧ c.fr.remote = false ∧ c.fr.dlc = 0 ∧ c.fr.data = [] := by rw [hf]; exact ⟨rfl, rfl, rfl, rfl, rfl⟩
    clear h1 h0 hf
    go_enter Tryz.func38, Tryz.ntmps38
    go_wp2
    go_ret
    exact ⟨rfl, by (repeat (first | (with_reducible assumption) | (with_reducible exact Below.refl _ _) | (with_reducible refine Below.drew ?_) | ((with_reducible refine Below.setCell ?_ ?_ _); rotate_left; (focus (first | omega | (simp; done) | (simp; omega)))) | ((with_reducible refine below_row ?_ ?_ _); rotate_left; (focus (first | omega | (simp; done) | (simp; omega)))) | ((with_reducible refine Below.alloc ?_ ?_ _); rotate_left; (focus (first | omega | (simp; done) | (simp; omega))))))⟩
  · have CR : Hid (∀ w, Calls Tryz.prog 27 #[.agg #[.int .u32 (c.fr.id : Nat), .bool c.fr.ext, .bool c.fr.remote, .int .i64 (c.fr.dlc : Nat), .string (strB c.fr.data)]] w fun e w' => e = .returned (.bool true) ∧ Below w.heap.size w w') := Lib.hid (fun w => by
      have := right4_any c.fr.id c.fr.ext c.fr.remote (c.fr.dlc : Int) (strB c.fr.data) w
      rwa [frI_yes7 (h1 hh)] at this)
    clear h1 h0
    go_enter Tryz.func38, Tryz.ntmps38
    go_wp2_with (first
      | (go_at_call 27; (with_reducible refine (CR.out _).mono ?_); rintro e w1 ⟨rfl, hbw1⟩))
    go_ret
    exact ⟨rfl, ((Below.refl _ w).alloc (Nat.le_refl _) _).trans (hbw1.mono (by simp))⟩
end Go.Proofs.YtcaeobkaoebndaaGreat
