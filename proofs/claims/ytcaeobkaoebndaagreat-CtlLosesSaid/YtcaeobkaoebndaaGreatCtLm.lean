/- Layer 7: the law CtlLoses, where one loses. -/
import Derived.Test.YtcaeobkaoebndaaGreatCtLl
import Derived.Test.YtcaeobkaoebndaaGreatPlain
import Derived.Test.YtcaeobkaoebndaaGreatPrioC
import Derived.Deep.CutRange
namespace Go.Proofs.YtcaeobkaoebndaaGreat
open Go.RowKit Go.Lib
attribute [local go_sem ↓] ld_ct st_ct ld_ev st_ev ld_ma st_ma bd_ma
attribute [local go_sem] ldCt_at stCt_at ldEv_at stEv_at ldMa_at stMa_at bdMa_at ldp_ct ldp_ma ldp_ev ldp_mev stp_ct stp_ma stp_ev stp_mev stp_mm zero_ct zero_ev zero_ma ev_err ev_sent
attribute [local go_sem] rowAt_drew rowAt_drewN rowAt_new rowAt_past rowAt_setRow rowAt_setRow_other rowAt_setCell_other rowAt_setCell_map cell_setRow free_setRow cell_setRow_other free_setRow_other setRow_alloc_at setRow_alloc_past
attribute [local go_sem] ctA_0 ctA_1 ctA_2 ctA_3 ctA_4 ctA_5 ctA_6 ctA_7 ctA_8 ctA_9 ctA_10 ctA_11 ctA_12 ctA_13 ctA_14 ctA_15 ctA_16 ctA_17 ctA_18 ctA_19 ctA_20 ctA_21 ctA_22 evA_0 evA_1 evA_2 evA_3 evA_4 evA_5 evA_6 mA_0 mA_1 mA_2 mA_3 mA_4 mA_5 mA_6 mA_7 mA_8 mA_9 mA_10 mA_11 mA_12 mA_13 mA_14 mA_15 mA_16 mA_17 mA_18 mA_19 mA_20 mA_21 mA_22 mA_23 mA_24 mA_25 mA_26 mA_27 mA_28 mA_29
attribute [local go_sem] ctA_set0 ctA_set0_0 ctA_set1_0 ctA_suc0 ctA_set1 ctA_set0_1 ctA_set1_1 ctA_suc1 ctA_set2 ctA_set3 ctA_set0_3 ctA_set1_3 ctA_suc3 ctA_set4 ctA_set0_4 ctA_set1_4 ctA_suc4 ctA_set5 ctA_set0_5 ctA_set1_5 ctA_suc5 ctA_set6 ctA_set7 ctA_set8 ctA_set9 ctA_set0_9 ctA_set1_9 ctA_suc9 ctA_set10 ctA_set11 ctA_set12 ctA_set0_12 ctA_set1_12 ctA_suc12 ctA_set13 ctA_set14 ctA_set15 ctA_set16 ctA_set0_16 ctA_set1_16 ctA_suc16 ctA_set17 ctA_set0_17 ctA_set1_17 ctA_suc17 ctA_set18 ctA_set0_18 ctA_set1_18 ctA_suc18 ctA_set19 ctA_set20 ctA_set21 ctA_set0_21 ctA_set1_21 ctA_suc21 ctA_set22 mA_set0 mA_set0_0 mA_set1_0 mA_suc0 mA_set1 mA_set0_1 mA_set1_1 mA_suc1 mA_set2 mA_set3 mA_set0_3 mA_set1_3 mA_suc3 mA_set4 mA_set0_4 mA_set1_4 mA_suc4 mA_set5 mA_set0_5 mA_set1_5 mA_set1000000000_5 mA_suc5 mA_set6 mA_set7 mA_set8 mA_set9 mA_set0_9 mA_set1_9 mA_suc9 mA_set10 mA_set11 mA_set12 mA_set0_12 mA_set1_12 mA_suc12 mA_set13 mA_set14 mA_set15 mA_set16 mA_set0_16 mA_set1_16 mA_suc16 mA_set17 mA_set0_17 mA_set1_17 mA_set48_17 mA_suc17 mA_set18 mA_set0_18 mA_set1_18 mA_suc18 mA_set19 mA_set20 mA_set21 mA_set0_21 mA_set1_21 mA_suc21 mA_set22 evA_set0 evA_set0_0 evA_set1_0 evA_set2_0 evA_set3_0 evA_set4_0 evA_suc0 evA_set1 evA_set0_1 evA_set1_1 evA_suc1 evA_set2 evA_set3 evA_set4 evA_set0_4 evA_set1_4 evA_suc4 evA_set5 evA_set6 evA_set0_6 evA_set1_6 evA_set14_6 evA_suc6 mA_set23 mA_set0_23 mA_set1_23 mA_set2_23 mA_set3_23 mA_set4_23 mA_suc23 mA_set24 mA_set0_24 mA_set1_24 mA_suc24 mA_set25 mA_set26 mA_set27 mA_set0_27 mA_set1_27 mA_suc27 mA_set28 mA_set29 mA_set0_29 mA_set1_29 mA_suc29
attribute [local go_sem ↓] ld_fr st_fr
attribute [local go_sem] ldFr_at stFr_at ldp_fr ldp_ctf ldp_evf stp_fr zero_fr frA_0 frA_1 frA_2 frA_3 frA_4 frA_set4 neq_fr eql_fr
attribute [local go_sem ↓] eql_fr neq_fr
/-- behind i bits: where it was lost, if it was -/
def lzI (J i : Nat) : Int := if i ≤ J then -1 else (J : Int)
def lsC (F G : B.Fr) (J i : Nat) : B.Cs := B.loseC B.cn0 false F G J i
theorem ls_right {F G : B.Fr} (hf : B.FrR F) (hg : B.FrR G) {J : Nat} (P : B.Part F G J) : ∀ i, i ≤ (B.stfF G).length + 10 → B.RightM (lsC F G J i) := by
  intro i
  induction i with
  | zero => intro _; exact idleF_right hf
  | succ i ih =>
    intro hi
    have := (B.sample_right (ih (by omega)) (ackL_okc G i (by rw [B.ackL_length]; omega))).1
    have e := B.lose_next (k := B.cn0) (hard := false) hf hg P (i := i) (by omega)
    unfold lsC at this ⊢
    rwa [e] at this
theorem ls_sample {F G : B.Fr} (hf : B.FrR F) (hg : B.FrR G) {J : Nat} (P : B.Part F G J) (i : Nat) (hi : i < (B.stfF G).length + 10) :
    (lsC F G J i).sample ((akA G)[i]'(by rw [akA_size]; exact hi)) = (lsC F G J (i + 1), if i = J then ⟨4, B.noFr, 0⟩ else if i = (B.stfF G).length + 8 then ⟨2, G, 0⟩ else B.ev0) := B.lose_next hf hg P hi
theorem ls_drive {F G : B.Fr} (hf : B.FrR F) (hg : B.FrR G) {J : Nat} (P : B.Part F G J) (i : Nat) (hi : i < (B.stfF G).length + 10) :
    (lsC F G J i).drive = if i ≤ J then (B.bitsL F).getD i 49 else if i = (B.stfF G).length + 1 then 48 else 49 := B.lose_drive hf hg P hi
theorem ls_end {F G : B.Fr} (hg : B.FrR G) {J : Nat} (P : B.Part F G J) : lsC F G J ((B.stfF G).length + 10) = B.bareC (B.cn0.step 2) 6 0 false false true F := by
  have := P.jg
  unfold lsC B.loseC
  rw [if_neg (by omega)]
  exact B.comeC_end hg
theorem ls_cut {F G : B.Fr} {J : Nat} (P : B.Part F G J) : (akA G).extract 0 J = (bsA F).extract 0 J := by
  refine bytes_same ?_
  rw [extract_data, extract_data]
  show ((B.ackL G).drop 0).take (J - 0) = ((B.bitsL F).drop 0).take (J - 0)
  have h1 := P.jf
  have h2 := P.jg
  unfold B.ackL
  rw [B.bitsL_stf, List.drop_zero, List.drop_zero, Nat.sub_zero, List.take_append_of_le_length (by omega), List.take_append_of_le_length (by omega), P.take]
set_option maxRecDepth 100000 in
set_option maxHeartbeats 8000000 in
theorem loses_yes (f g f1 g1 : FX) (w : World) (F G : B.Fr) (hf1 : f.cut = f1) (hg1 : g.cut = g1) (hF : f1 = FXo F) (hG : g1 = FXo G) (hf : B.FrR F) (hg : B.FrR G) (hm : f1.may = true) (hm2 : g1.may = true) (hl : g1.less f1 = true) (J : Nat) (P : B.Part F G J) : Calls Tryz.prog 5 #[.agg (frA f), .agg (frA g)] w fun e w' => e = .returned (.bool true) ∧ Below w.heap.size w w' := by
  have CF := Lib.hid (fun w => few7 f w)
  rw [hf1] at CF
  have CG := Lib.hid (fun w => few7 g w)
  rw [hg1] at CG
  have CA := Lib.hid (fun w => alive7 w)
  have CR := Lib.hid (show ∀ w, Calls Tryz.prog 9 #[.agg (frA f1)] w (fun e w' => e = .returned (.bool true) ∧ Below w.heap.size w w') from fun w => hm ▸ refr7 f1 w)
  have CR2 := Lib.hid (show ∀ w, Calls Tryz.prog 9 #[.agg (frA g1)] w (fun e w' => e = .returned (.bool true) ∧ Below w.heap.size w w') from fun w => hm2 ▸ refr7 g1 w)
  have CL := Lib.hid (show ∀ w, Calls Tryz.prog 17 #[.agg (frA g1), .agg (frA f1)] w (fun e w' => e = .returned (.bool true) ∧ Below w.heap.size w w') from fun w => hl ▸ refless_any g1 f1 w hm2 hm)
  have CY := Lib.hid (fun w => ready_any w)
  have CS := Lib.hid (show ∀ w : World, Calls Tryz.prog 16 #[.agg (ctA B.rdy), .agg (frA f1)] w (fun e w' => e = .returned (.tuple #[.agg (ctA (lsC F G J 0)), .int .i64 0]) ∧ Below w.heap.size w w') from fun w => hF ▸ submit_ok B.rdy F w rdy_right hf rfl)
  obtain ⟨S, hS⟩ : ∃ S, bsA F = S := ⟨_, rfl⟩
  obtain ⟨S2, hS2⟩ : ∃ S, bsA G = S := ⟨_, rfl⟩
  obtain ⟨T, hT⟩ : ∃ T, akA G = T := ⟨_, rfl⟩
  have CB := Lib.hid (show ∀ w : World, Calls Tryz.prog 12 #[.agg (frA f1)] w (fun e w' => e = .returned (.string S) ∧ Below w.heap.size w w') from fun w => hS ▸ hF ▸ refbits7 hf w)
  have CB2 := Lib.hid (show ∀ w : World, Calls Tryz.prog 12 #[.agg (frA g1)] w (fun e w' => e = .returned (.string S2) ∧ Below w.heap.size w w') from fun w => hS2 ▸ hG ▸ refbits7 hg w)
  have HF := Lib.hid hF
  have HG := Lib.hid hG
  obtain ⟨n, hn⟩ : ∃ n, (B.stfF G).length = n := ⟨_, rfl⟩
  have hSz : S2.size = n + 10 := by rw [← hS2, bsA_size, hn]
  have hTz : T.size = n + 10 := by rw [← hT, akA_size, hn]
  have hct : S2.extract 0 (S2.size - 9) ++ (⟨#[48]⟩ : ByteArray) ++ S2.extract (S2.size - 8) S2.size = T := by
    have := ack_cut G
    rw [hS2, hT, hn] at this
    rw [hSz]
    exact this
  have hnl := B.stfF_length hg
  rw [hn] at hnl
  have hu44 : 44 ≤ S2.size := by omega
  have hu160 : S2.size ≤ 160 := by omega
  have hi44 : ¬ (S2.size : Int) < 44 := by omega
  have hi160 : ¬ (160 : Int) < S2.size := by omega
  have HSz := Lib.hid hSz
  have Hn := Lib.hid hnl
  have hJS : J < S.size := by have := P.jf; rw [← hS, bsA_size]; omega
  have hJn : J < n := by have := P.jg; omega
  have hJ1 := P.one
  have hcut2 := ls_cut P
  rw [hT, hS] at hcut2
  have HC2 := Lib.hid hcut2
  clear hf1 hg1 hF hG hm hm2 hl hSz hnl hS2 hcut2
  go_enter Tryz.func5, Tryz.ntmps5
  have hK0 : Kept w [(w.heap.size, frA f), (w.heap.size + 1, frA g)] ((w.alloc (.cells (frA f) 24)).alloc (.cells (frA g) 24)) := by
    have h2 := ((Kept.nil w).new (frA f) 24 w.heap.size rfl).new (frA g) 24 (w.heap.size + 1) (by simp)
    exact Kept.cons (Kept.cons (Kept.mk0 h2.2) h2.head) h2.tail.head
  go_upto_region 1 with fail
  generalize (w.alloc (.cells (frA f) 24)).alloc (.cells (frA g) 24) = W0 at *
  go_cut [4] from 19 to 22 (fun a wc => a = .bool false ∧ Kept w [(w.heap.size, frA f1), (w.heap.size + 1, frA g1)] wc)
  case first =>
    have r0 := hK0.head
    have r1 := hK0.tail.head
    have l0 := rowAt_lt r0
    have l1 := rowAt_lt r1
    have n01 : ¬ w.heap.size = w.heap.size + 1 := by omega
    have n10 : ¬ w.heap.size + 1 = w.heap.size := by omega
    have hK := hK0
    clear hK0
    go_region_with (first
      | (go_at_call 8; (with_reducible refine (CF.out _).mono ?_); rintro e w1 ⟨rfl, hbw1⟩; have hK := (by first | (with_reducible assumption) | (with_reducible refine Kept.drew ?_; with_reducible assumption) : Kept w [(w.heap.size, frA f), (w.heap.size + 1, frA g)] _).keep hbw1; have r0 := hK.head; have r1 := hK.tail.head; have l0 := rowAt_lt r0; have l1 := rowAt_lt r1)
      | (go_at_call 8; (with_reducible refine (CG.out _).mono ?_); rintro e w2 ⟨rfl, hbw2⟩; have hK := (by first | (with_reducible assumption) | (with_reducible refine Kept.drew ?_; with_reducible assumption) : Kept w [(w.heap.size, frA f), (w.heap.size + 1, frA g)] _).keep hbw2; have r0 := hK.head; have r1 := hK.tail.head; have l0 := rowAt_lt r0; have l1 := rowAt_lt r1))
    all_goals
      go_wp2
      go_meet
      case rel =>
        have h1 := hK.set (frA f1) (Nat.le_refl _) (by simp)
        have h2 := h1.tail.set (frA g1) (by omega) (by simp)
        exact ⟨rfl, h2.cons ((rowAt_setRow_other _ _ _ _ (by omega : w.heap.size ≠ w.heap.size + 1)).trans h1.head)⟩
  obtain ⟨rfl, hK⟩ := hcut
  clear hK0 CF CG
  have r0 := hK.head
  have r1 := hK.tail.head
  have l0 := rowAt_lt r0
  have l1 := rowAt_lt r1
  go_upto_region 4 with (first
    | (go_at_call 9; (with_reducible refine (CR.out _).mono ?_); rintro e w3 ⟨rfl, hbw3⟩; have hK := hK.keep hbw3; have r0 := hK.head; have r1 := hK.tail.head; have l0 := rowAt_lt r0; have l1 := rowAt_lt r1; have hB := hK.2; have hzB := hB.size)
    | (go_at_call 9; (with_reducible refine (CR2.out _).mono ?_); rintro e w4 ⟨rfl, hbw4⟩; have hK := hK.keep hbw4; have r0 := hK.head; have r1 := hK.tail.head; have l0 := rowAt_lt r0; have l1 := rowAt_lt r1; have hB := hK.2; have hzB := hB.size)
    | (go_at_call 17; (with_reducible refine (CL.out _).mono ?_); rintro e w5 ⟨rfl, hbw5⟩; have hK := hK.keep hbw5; have r0 := hK.head; have r1 := hK.tail.head; have l0 := rowAt_lt r0; have l1 := rowAt_lt r1; have hB := hK.2; have hzB := hB.size))
  clear CR CR2 CL
  go_upto_region 5 with (go_at_call 11; (with_reducible refine (CY.out _).mono ?_); rintro e w6 ⟨rfl, hbw6⟩; have hK := hK.keep hbw6; have r0 := hK.head; have r1 := hK.tail.head; have l0 := rowAt_lt r0; have l1 := rowAt_lt r1)
  have h := hK.new (ctA B.rdy) 33 w6.heap.size rfl
  have hKc := Kept.cons (Kept.cons (Kept.cons (Kept.mk0 h.2) h.tail.tail.head) h.tail.head) h.head
  clear h
  have hgc := hK.2.size
  have hg1 : w.heap.size + 1 < w6.heap.size := l1
  generalize w6.alloc (.cells (ctA B.rdy) 33) = W6 at *
  generalize w6.heap.size = gc at *
  clear hK CY
  have rc := hKc.head
  have r0 := hKc.tail.head
  have r1 := hKc.tail.tail.head
  have l0 := rowAt_lt r0
  have l1 := rowAt_lt r1
  have hlc := rowAt_lt rc
  go_upto_region 6 with (go_at_call 16; (with_reducible refine (CS.out _).mono ?_); rintro e w7 ⟨rfl, hbw7⟩; have hK := hKc.keep hbw7; have rc := hK.head; have hlc := rowAt_lt rc)
  have hKd := hK.set (ctA (lsC F G J 0)) (by omega) (by simp; omega)
  generalize w7.setRow gc (ctA (lsC F G J 0)) = W7 at *
  clear hKc hK CS rc hlc
  go_upto_region 8 with (go_at_call 10; (with_reducible refine (CA.out _).mono ?_); rintro e w8 ⟨rfl, hbw8⟩; have hK := hKd.keep hbw8; have r0 := hK.tail.head; have r1 := hK.tail.tail.head; have l0 := rowAt_lt r0; have l1 := rowAt_lt r1)
  clear CA hKd
  go_cut [8, 9] from 13 to 73 (fun a b wc => a = .string S ∧ b = .string S2 ∧ Kept w [(gc, ctA (lsC F G J 0)), (w.heap.size, frA f1), (w.heap.size + 1, frA g1)] wc)
  case first =>
    have hKf := hK
    clear hK
    have hK := hKf
    clear hKf
    go_region_with (first
      | (go_at_call 12; (with_reducible refine (CB.out _).mono ?_); rintro e w9 ⟨rfl, hbw9⟩; have hK := (by first | (with_reducible assumption) | (with_reducible refine Kept.drew ?_; with_reducible assumption) : Kept w [(gc, ctA (lsC F G J 0)), (w.heap.size, frA f1), (w.heap.size + 1, frA g1)] _).keep hbw9; have r0 := hK.tail.head; have r1 := hK.tail.tail.head; have l0 := rowAt_lt r0; have l1 := rowAt_lt r1)
      | (go_at_call 12; (with_reducible refine (CB2.out _).mono ?_); rintro e wa ⟨rfl, hbwa⟩; have hK := (by first | (with_reducible assumption) | (with_reducible refine Kept.drew ?_; with_reducible assumption) : Kept w [(gc, ctA (lsC F G J 0)), (w.heap.size, frA f1), (w.heap.size + 1, frA g1)] _).keep hbwa; have r0 := hK.tail.head; have r1 := hK.tail.tail.head; have l0 := rowAt_lt r0; have l1 := rowAt_lt r1))
    all_goals
      go_wp2
      go_meet
      case rel => exact ⟨rfl, rfl, hK⟩
  clear hK CB CB2 r0 r1 l0 l1
  obtain ⟨rfl, rfl, hK⟩ := hcut
  go_upto_region 10 with fail
  go_cut [9] from 13 to 73 (fun a wc => a = .string T ∧ Kept w [(gc, ctA (lsC F G J 0)), (w.heap.size, frA f1), (w.heap.size + 1, frA g1)] wc)
  case first =>
    go_quiet (fail)
    go_wp2
    go_meet
    case rel => exact ⟨by first | rfl | (rw [hct]; done) | (simp [hct]; done), hK.drewN _⟩
  clear hK
  obtain ⟨rfl, hK⟩ := hcut
  clear hct hu44 hu160 hi44 hi160
  go_wp2
  go_loopw [11, 12, 75] (fun a b i wq => ∃ k : Nat, k ≤ n + 10 ∧ a = .int .i64 (lzI J k) ∧ b = .bool (decide (n + 9 ≤ k)) ∧ i = .int .i64 k ∧ Kept w [(gc, ctA (lsC F G J k)), (w.heap.size, frA f1), (w.heap.size + 1, frA g1)] wq) (fun _ _ i _ => n + 10 - (intOf i).toNat)
  case atStart => exact ⟨0, by omega, by unfold lzI; rw [if_pos (by omega)], by rw [decide_eq_false (by omega)], rfl, hK⟩
  case round =>
    have hKz := hK
    clear hKz hK
    obtain ⟨k, hk, rfl, rfl, rfl, hK⟩ := hrel
    by_cases hkl : k < n + 10
    · have hkT : k < T.size := by omega
      have hkF : k < (B.stfF G).length + 10 := by omega
      have hk3 : k < 1000 := by have := Hn.out; omega
      have hkS2 : (k : Int) < (S2.size : Int) := by have := HSz.out; omega
      have hsm := ls_sample hf hg P k hkF
      have hdr := ls_drive hf hg P k hkF
      have hok : B.okc ((akA G)[k]'(by rw [akA_size]; exact hkF)) = true := ackL_okc G k (by rw [B.ackL_length]; exact hkF)
      have hr := ls_right hf hg P k (by omega)
      obtain ⟨c, hc⟩ : ∃ c, lsC F G J k = c := ⟨_, rfl⟩
      obtain ⟨d, hd⟩ : ∃ d, lsC F G J (k + 1) = d := ⟨_, rfl⟩
      obtain ⟨v, hv⟩ : ∃ v : B.Ev, (if k = J then (⟨4, B.noFr, 0⟩ : B.Ev) else if k = (B.stfF G).length + 8 then ⟨2, G, 0⟩ else B.ev0) = v := ⟨_, rfl⟩
      obtain ⟨b, hb⟩ : ∃ b : Nat, (if k ≤ J then (B.bitsL F).getD k 49 else if k = (B.stfF G).length + 1 then 48 else 49 : UInt8).toNat = b := ⟨_, rfl⟩
      have eT : (akA G)[k]'(by rw [akA_size]; exact hkF) = T[k] := by congr 1
      rw [eT] at hsm hok
      rw [hc] at hsm hdr hr hK
      rw [hd, hv] at hsm
      rw [hn] at hv hb hdr
      have CD0 := fun w => drive7 c w hr
      rw [hdr, hb] at CD0
      have CS0 := fun w => sample7 c T[k] w hr hok
      rw [hsm] at CS0
      have CD := Lib.hid CD0
      have CS := Lib.hid CS0
      have Hv := Lib.hid hv
      have Hb := Lib.hid hb
      have Hd := Lib.hid hd
      obtain ⟨z, hz⟩ : ∃ z, lzI J k = z := ⟨_, rfl⟩
      rw [hz]
      have Hz := Lib.hid hz
      clear CD0 CS0 hsm hdr hok hr hc hv hb hd hz eT
      have rc := hK.head
      have hlc := rowAt_lt rc
      have q0 : (0 : Int) ≤ (k : Int) := by omega
      have q1 : (k : Int) < (T.size : Int) := by omega
      obtain ⟨cm, hcm⟩ : ∃ x, decide (n + 9 ≤ k) = x := ⟨_, rfl⟩
      rw [hcm]
      have Hcm := Lib.hid hcm
      clear hcm
      go_upto_region 16 with (go_at_call 13; (with_reducible refine (CD.out _).mono ?_); rintro e w9 ⟨rfl, hbw9⟩; have hK := hK.keep hbw9; have rc := hK.head; have hlc := rowAt_lt rc)
      go_cut [109] from 76 to 164 (fun a wc => a = .bool false ∧ Kept w [(gc, ctA c), (w.heap.size, frA f1), (w.heap.size + 1, frA g1)] wc)
      case first =>
        by_cases hJ : k ≤ J
        · have hbe := Hb.out
          rw [if_pos hJ] at hbe
          have hzz : z = -1 := by rw [← Hz.out]; unfold lzI; rw [if_pos hJ]
          have hkS : k < S.size := by omega
          have hSk : S[k].toNat = b := by
            rw [← hbe, ← bsA_at F k (by rw [hS]; exact hkS)]
            congr 2
            exact hS.symm
          have q2 : (k : Int) < (S.size : Int) := by omega
          subst hzz
          clear hbe
          go_wp2
          go_meet
          case rel => exact ⟨by first | rfl | (simp; done), hK⟩
        · have hzz : z = (J : Int) := by rw [← Hz.out]; unfold lzI; rw [if_neg hJ]
          have hz0 : ¬ (J : Int) < 0 := by omega
          have hz1 : (0 : Int) ≤ (J : Int) := by omega
          have hbe := Hb.out
          have hs2 := HSz.out
          have hnn := Hn.out
          rw [if_neg hJ] at hbe
          by_cases h1 : k = n + 1
          · rw [if_pos h1] at hbe
            have b9 : ((k : Int) == wrap64 ((S2.size : Int) - 9)) = true := by rw [beq_iff_eq, IntWalk.wrap64_in _ (by omega)]; omega
            have b9n : ((k : Int) != wrap64 ((S2.size : Int) - 9)) = false := by rw [bne, b9]; rfl
            have hb2 : b = 48 := by rw [← hbe]; rfl
            subst hzz hb2
            clear hbe hs2 hnn h1
            go_wp2
            go_meet
            case rel => exact ⟨by first | rfl | (simp; done), hK⟩
          · rw [if_neg h1] at hbe
            have hb2 : b = 49 := by rw [← hbe]; rfl
            have b9 : ((k : Int) == wrap64 ((S2.size : Int) - 9)) = false := by rw [beq_eq_false_iff_ne, IntWalk.wrap64_in _ (by omega)]; omega
            have b9n : ((k : Int) != wrap64 ((S2.size : Int) - 9)) = true := by rw [bne, b9]; rfl
            subst hzz hb2
            clear hbe hs2 hnn h1
            go_wp2
            go_meet
            case rel => exact ⟨by first | rfl | (simp; done), hK⟩
      clear hK hbw9 CD Hb rc hlc
      obtain ⟨rfl, hK⟩ := hcut
      generalize wc = Wx at *
      have hc0 := hK.head
      have hz0 := rowAt_lt hc0
      go_upto_region 18 with fail
      go_cut [16, 17, 18] from 76 to 164 (fun a7 a8 a9 wc => ∃ gx gv : Nat, a7 = .pointer (some ⟨gx, 0, none⟩) ∧ a8 = .pointer (some ⟨gv, 0, none⟩) ∧ a9 = .int .i64 0 ∧ Wx.heap.size ≤ gx ∧ Wx.heap.size ≤ gv ∧ Kept w ((gx, ctA d) :: (gv, evA v) :: [(gc, ctA c), (w.heap.size, frA f1), (w.heap.size + 1, frA g1)]) wc)
      case first =>
        have hlt0 := hK.lt
        have hbz := hK.2.size
        have MK := Lib.hid (show ∀ W, Kept w ([(gc, ctA c), (w.heap.size, frA f1), (w.heap.size + 1, frA g1)]) W → (rowAt W gc = some (ctA c) ∧ Kept w ([(gc, ctA c), (w.heap.size, frA f1), (w.heap.size + 1, frA g1)]) W) from fun W h => ⟨h.head, h⟩)
        have hnn := Lib.hid (show ∀ g, Wx.heap.size ≤ g → ∀ p ∈ ([(gc, ctA c), (w.heap.size, frA f1), (w.heap.size + 1, frA g1)]), p.1 ≠ g from fun g hg p hp e => by have := hlt0 p hp; omega)
        go_region_held3 (fun W' => rowAt W' gc = some (ctA c) ∧ Kept w ([(gc, ctA c), (w.heap.size, frA f1), (w.heap.size + 1, frA g1)]) W')
          (first | (with_reducible assumption) | (refine MK.out _ ?_; (repeat (first | (with_reducible assumption) | (with_reducible exact (by with_reducible assumption : rowAt _ gc = some (ctA c) ∧ Kept w ([(gc, ctA c), (w.heap.size, frA f1), (w.heap.size + 1, frA g1)]) _).2) | (with_reducible refine Kept.drew ?_) | (with_reducible refine Kept.alloc ?_ _) | ((with_reducible refine Kept.row ?_ _ _ ?_ (hnn.out _ ?_)); rotate_left; (focus omega); (focus omega))))))
          (first
            | (go_at_call 14; (with_reducible refine (CS.out _).mono ?_); rintro e w2 ⟨rfl, hb2⟩; have hr2 := rowAt_below hb2; have hz2 := hb2.size; (try simp at hz2); have hS2 := (by with_reducible assumption : rowAt _ gc = some (ctA c) ∧ Kept w ([(gc, ctA c), (w.heap.size, frA f1), (w.heap.size + 1, frA g1)]) _).2.keep hb2; have z0 : Wx.heap.size ≤ w2.heap.size := (by omega); (try have z1 : Wx.heap.size < w2.heap.size := (by omega)); (try have z2 : Wx.heap.size + 1 < w2.heap.size := (by omega))))
        all_goals
          go_wp2_with fail
          go_meet
          case rel =>
            refine ⟨_, _, rfl, rfl, rfl, by omega, by omega, Kept.cons (Kept.cons ?_ ?_) ?_⟩
            · (repeat (first | (with_reducible assumption) | (with_reducible exact (by with_reducible assumption : rowAt _ gc = some (ctA c) ∧ Kept w ([(gc, ctA c), (w.heap.size, frA f1), (w.heap.size + 1, frA g1)]) _).2) | (with_reducible refine Kept.drew ?_) | (with_reducible refine Kept.alloc ?_ _) | ((with_reducible refine Kept.row ?_ _ _ ?_ (hnn.out _ ?_)); rotate_left; (focus omega); (focus omega))))
            · simp [go_sem, *]
            · simp [go_sem, *]
      clear hc0 hz0 CS hK
      obtain ⟨gx, gv, rfl, rfl, rfl, hgx, hgv, hK2⟩ := hcut
      have rx := hK2.head
      have rv := hK2.tail.head
      have rc := hK2.tail.tail.head
      have r1 := hK2.tail.tail.tail.tail.head
      have qv := rowAt_cell rv
      have fv := rowAt_free rv
      have hlc := rowAt_lt rc
      have hK9 := hK2.tail.tail.set (ctA d) (by omega) (by simp; omega)
      by_cases hJ : k < J
      · have hve := Hv.out
        rw [if_neg (by omega), if_neg (by omega)] at hve
        have hvk : v.kind = 0 := by rw [← hve]; rfl
        clear hve
        go_wp2
        go_roundw
        case rel => exact ⟨k + 1, by omega, by rw [← Hz.out]; unfold lzI; rw [if_pos (by omega), if_pos (by omega)], by rw [← Hcm.out, decide_eq_false (by omega), decide_eq_false (by omega)], by go_num, by rw [Hd.out]; exact hK9⟩
        case measure => simp [intOf]; omega
      · by_cases hJe : k = J
        · subst hJe
          have hve := Hv.out
          rw [if_pos rfl] at hve
          have hvk : v.kind = 4 := by rw [← hve]
          have hzz : z = -1 := by rw [← Hz.out]; unfold lzI; rw [if_pos (Nat.le_refl _)]
          have hS49 : S[k].toNat = 49 := by
            have e : S[k] = (bsA F)[k]'(by rw [hS]; exact hJS) := by congr 1; exact hS.symm
            rw [e, bsA_at, B.bitsL_at P.jf, P.mine]; rfl
          have hT48 : T[k].toNat = 48 := by
            have e : T[k] = (akA G)[k]'(by rw [akA_size]; omega) := by congr 1; exact hT.symm
            rw [e, akA_at, B.ackL_at P.jg, P.its]; rfl
          have hex := HC2.out
          have q2 : (k : Int) < (S.size : Int) := by omega
          have q3 : (k : Int) ≤ (S.size : Int) := by omega
          have q4 : (k : Int) ≤ (T.size : Int) := by omega
          subst hzz
          clear hve
          go_upto_region 24 with fail
          go_cut [147] from 76 to 164 (fun a wq => a = .bool false ∧ Kept w [(gx, ctA d), (gv, evA v), (gc, ctA c), (w.heap.size, frA f1), (w.heap.size + 1, frA g1)] wq)
          case first =>
            go_quiet (fail)
            go_wp2
            go_meet
            case rel => exact ⟨by first | rfl | (simp; done), hK2.drewN _⟩
          clear hK9 rx rv rc r1 qv fv hlc hK2
          obtain ⟨rfl, hK2⟩ := hcut
          have rx := hK2.head
          have rc := hK2.tail.tail.head
          have hlc := rowAt_lt rc
          have hK9 := hK2.tail.tail.set (ctA d) (by omega) (by simp; omega)
          go_wp2
          go_roundw
          case rel => exact ⟨k + 1, by omega, by unfold lzI; rw [if_neg (by omega)], by rw [← Hcm.out, decide_eq_false (by omega), decide_eq_false (by omega)], by go_num, by rw [Hd.out]; exact hK9⟩
          case measure => simp [intOf]; omega
        · have hve := Hv.out
          rw [if_neg hJe] at hve
          by_cases h8 : k = n + 8
          · rw [if_pos h8] at hve
            have hs2 := HSz.out
            have hnn := Hn.out
            have hvk : v.kind = 2 := by rw [← hve]
            have hvf : FXo v.fr = g1 := by rw [← hve]; exact HG.out.symm
            have b2 : ((k : Int) == wrap64 ((S2.size : Int) - 2)) = true := by rw [beq_iff_eq, IntWalk.wrap64_in _ (by omega)]; omega
            have hk1 : n + 9 ≤ k + 1 := by omega
            clear hve hs2 hnn h8
            go_wp2
            go_roundw
            case rel => exact ⟨k + 1, by omega, by rw [← Hz.out]; unfold lzI; rw [if_neg (by omega), if_neg (by omega)], by rw [decide_eq_true hk1], by go_num, by rw [Hd.out]; exact hK9⟩
            case measure => simp [intOf]; omega
          · rw [if_neg h8] at hve
            have hvk : v.kind = 0 := by rw [← hve]; rfl
            have hcc : decide (n + 9 ≤ k + 1) = decide (n + 9 ≤ k) := by
              by_cases h : n + 9 ≤ k
              · rw [decide_eq_true h, decide_eq_true (by omega)]
              · rw [decide_eq_false h, decide_eq_false (by omega)]
            clear hve
            go_wp2
            go_roundw
            case rel => exact ⟨k + 1, by omega, by rw [← Hz.out]; unfold lzI; rw [if_neg (by omega), if_neg (by omega)], by rw [hcc, Hcm.out], by go_num, by rw [Hd.out]; exact hK9⟩
            case measure => simp [intOf]; omega
    · have hks : k = n + 10 := by omega
      have hjS : ¬ (k : Int) < (S2.size : Int) := by have := HSz.out; omega
      subst hks
      have he := ls_end hg P
      rw [hn] at he
      obtain ⟨c, hc⟩ : ∃ c, lsC F G J (n + 10) = c := ⟨_, rfl⟩
      rw [hc] at hK he
      have hz : lzI J (n + 10) = (J : Int) := by unfold lzI; rw [if_neg (by omega)]
      have hz0 : (0 : Int) ≤ (J : Int) := by omega
      have hcm : decide (n + 9 ≤ n + 10) = true := by rw [decide_eq_true (by omega)]
      rw [hz, hcm]
      have hch : c.has = true := by rw [he]; rfl
      have hcf : FXo c.fr = f1 := by rw [he]; exact HF.out.symm
      have hct : c.cnt = ⟨0, 0, false, 0⟩ := by rw [he]; rfl
      clear he hc hz hcm
      have rc := hK.head
      have r0 := hK.tail.head
      have qc := rowAt_cell rc
      have fc := rowAt_free rc
      have hB := hK.2
      go_wp2
      go_ret
      exact ⟨rfl, by (repeat (first | (with_reducible assumption) | (with_reducible exact Below.refl _ _) | (with_reducible refine Below.drew ?_) | ((with_reducible refine Below.setCell ?_ ?_ _); rotate_left; (focus (first | omega | (simp; done) | (simp; omega)))) | ((with_reducible refine below_row ?_ ?_ _); rotate_left; (focus (first | omega | (simp; done) | (simp; omega)))) | ((with_reducible refine Below.alloc ?_ ?_ _); rotate_left; (focus (first | omega | (simp; done) | (simp; omega))))))⟩
theorem loses_any (f g : FX) (w : World) : Calls Tryz.prog 5 #[.agg (frA f), .agg (frA g)] w fun e w' => e = .returned (.bool true) ∧ Below w.heap.size w w' := by
  cases hm : f.cut.may
  · exact loses_no1 f g _ _ w rfl rfl hm
  · cases hm2 : g.cut.may
    · exact loses_no2 f g _ _ w rfl rfl hm hm2
    · cases hl : g.cut.less f.cut
      · exact loses_no3 f g _ _ w rfl rfl hm hm2 hl
      · obtain ⟨F, hf, hF⟩ := FX.of_may hm
        obtain ⟨G, hg, hG⟩ := FX.of_may hm2
        have hl2 := hl
        rw [hF, hG] at hl2
        obtain ⟨J, P⟩ := B.part_of (show B.lessL (B.fieldL G) (B.fieldL F) = true from by
          have e : ∀ X : B.Fr, (FXo X).fr = X := fun X => rfl
          unfold FX.less at hl2
          rwa [e, e] at hl2)
        exact loses_yes f g _ _ w F G rfl rfl hF hG hf hg hm hm2 hl J P
end Go.Proofs.YtcaeobkaoebndaaGreat
