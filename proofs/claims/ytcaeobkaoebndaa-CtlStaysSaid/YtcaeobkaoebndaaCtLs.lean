/- Layer 7: the law CtlStays. -/
import Derived.Test.YtcaeobkaoebndaaJ9
import Derived.Test.YtcaeobkaoebndaaFramesAll
import Derived.Test.YtcaeobkaoebndaaJ10
import Derived.Deep.CutRange
namespace Go.Proofs.Ytcaeobkaoebndaa
open Go.RowKit Go.Lib
attribute [local go_sem ↓] ld_ct st_ct ld_ev st_ev ld_ma st_ma bd_ma
attribute [local go_sem] ldCt_at stCt_at ldEv_at stEv_at ldMa_at stMa_at bdMa_at ldp_ct ldp_ma ldp_ev ldp_mev stp_ct stp_ma stp_ev stp_mev stp_mm zero_ct zero_ev zero_ma ev_err ev_sent
attribute [local go_sem] rowAt_drew rowAt_drewN rowAt_new rowAt_past rowAt_setRow rowAt_setRow_other rowAt_setCell_other rowAt_setCell_map cell_setRow free_setRow cell_setRow_other free_setRow_other setRow_alloc_at setRow_alloc_past
attribute [local go_sem] ctA_0 ctA_1 ctA_2 ctA_3 ctA_4 ctA_5 ctA_6 ctA_7 ctA_8 ctA_9 ctA_10 ctA_11 ctA_12 ctA_13 ctA_14 ctA_15 ctA_16 ctA_17 ctA_18 ctA_19 ctA_20 ctA_21 ctA_22 evA_0 evA_1 evA_2 evA_3 evA_4 evA_5 evA_6 mA_0 mA_1 mA_2 mA_3 mA_4 mA_5 mA_6 mA_7 mA_8 mA_9 mA_10 mA_11 mA_12 mA_13 mA_14 mA_15 mA_16 mA_17 mA_18 mA_19 mA_20 mA_21 mA_22 mA_23 mA_24 mA_25 mA_26 mA_27 mA_28 mA_29
attribute [local go_sem] ctA_set0 ctA_set0_0 ctA_set1_0 ctA_suc0 ctA_set1 ctA_set0_1 ctA_set1_1 ctA_suc1 ctA_set2 ctA_set3 ctA_set0_3 ctA_set1_3 ctA_suc3 ctA_set4 ctA_set0_4 ctA_set1_4 ctA_suc4 ctA_set5 ctA_set0_5 ctA_set1_5 ctA_suc5 ctA_set6 ctA_set7 ctA_set8 ctA_set9 ctA_set0_9 ctA_set1_9 ctA_suc9 ctA_set10 ctA_set11 ctA_set12 ctA_set0_12 ctA_set1_12 ctA_suc12 ctA_set13 ctA_set14 ctA_set15 ctA_set16 ctA_set0_16 ctA_set1_16 ctA_suc16 ctA_set17 ctA_set0_17 ctA_set1_17 ctA_suc17 ctA_set18 ctA_set0_18 ctA_set1_18 ctA_suc18 ctA_set19 ctA_set20 ctA_set21 ctA_set0_21 ctA_set1_21 ctA_suc21 ctA_set22 mA_set0 mA_set0_0 mA_set1_0 mA_suc0 mA_set1 mA_set0_1 mA_set1_1 mA_suc1 mA_set2 mA_set3 mA_set0_3 mA_set1_3 mA_suc3 mA_set4 mA_set0_4 mA_set1_4 mA_suc4 mA_set5 mA_set0_5 mA_set1_5 mA_set1000000000_5 mA_suc5 mA_set6 mA_set7 mA_set8 mA_set9 mA_set0_9 mA_set1_9 mA_suc9 mA_set10 mA_set11 mA_set12 mA_set0_12 mA_set1_12 mA_suc12 mA_set13 mA_set14 mA_set15 mA_set16 mA_set0_16 mA_set1_16 mA_suc16 mA_set17 mA_set0_17 mA_set1_17 mA_set48_17 mA_suc17 mA_set18 mA_set0_18 mA_set1_18 mA_suc18 mA_set19 mA_set20 mA_set21 mA_set0_21 mA_set1_21 mA_suc21 mA_set22 evA_set0 evA_set0_0 evA_set1_0 evA_set2_0 evA_set3_0 evA_set4_0 evA_suc0 evA_set1 evA_set0_1 evA_set1_1 evA_suc1 evA_set2 evA_set3 evA_set4 evA_set0_4 evA_set1_4 evA_suc4 evA_set5 evA_set6 evA_set0_6 evA_set1_6 evA_set14_6 evA_suc6 mA_set23 mA_set0_23 mA_set1_23 mA_set2_23 mA_set3_23 mA_set4_23 mA_suc23 mA_set24 mA_set0_24 mA_set1_24 mA_suc24 mA_set25 mA_set26 mA_set27 mA_set0_27 mA_set1_27 mA_suc27 mA_set28 mA_set29 mA_set0_29 mA_set1_29 mA_suc29
attribute [local go_sem ↓] ld_fr st_fr
attribute [local go_sem] ldFr_at stFr_at ldp_fr ldp_ctf ldp_evf stp_fr zero_fr frA_0 frA_1 frA_2 frA_3 frA_4 frA_set4 neq_fr eql_fr

theorem ref1_as {s : ByteArray} (hs : s.size ≤ 4000) {b : Bool} (h : B.right s = b) (w : World) : Calls Try.prog 6 #[.string s] w fun e w' => e = .returned (.bool b) ∧ Below w.heap.size w w' :=
  (refright_any s w (by unfold maxLen; omega)).mono fun _ _ ⟨he, hw⟩ => ⟨h ▸ he, hw ▸ Below.refl _ _⟩
theorem ref6_may {k : B.Cn} (h : k.may) (w : World) : Calls Try.prog 16 #[.agg (cnC4 k)] w fun e w' => e = .returned (.bool true) ∧ Below w.heap.size w w' := by
  obtain ⟨t, r, o, n⟩ := k
  rcases h with ⟨h1, h2, h3, h4⟩ | ⟨h1, h2, h3, h4, h5⟩
  · simp only at h1 h2 h3 h4
    subst h1 h4
    exact (refr6_on t r w h2 h3).mono fun _ _ ⟨he, hw⟩ => ⟨he, hw ▸ (Below.refl _ _).alloc (Nat.le_refl _) _⟩
  · simp only at h1 h2 h3 h4 h5
    subst h1 h2 h3
    exact (refr6_off n w h4 h5).mono fun _ _ ⟨he, hw⟩ => ⟨he, hw ▸ (Below.refl _ _).alloc (Nat.le_refl _) _⟩
/-- one frame of a row that came in, loaded -/
theorem FAll.ld {w W : World} {A : Option Addr} {n cap : Nat} {fs : List FX} (h : FAll w A n cap fs) (hb : Below w.heap.size w W) (k : Nat) (hk : k < n) :
    ∃ (g o : Nat) (f : FX), A = some ⟨g, o, none⟩ ∧ g < w.heap.size ∧ ldPart 5 (o + k * 5) (rowAt W g) (ldFr0 ⟨g, o + k * 5, none⟩ W) W = .ok (.agg (frA f)) W := by
  obtain ⟨g, o, rfl, hr, hg⟩ := h.2.2 (by omega)
  have hl := h.2.1
  exact ⟨g, o, fs[k], rfl, hg, (ldFr_at g (o + k * 5) W).symm.trans ((hr.below hb hg).load k (by omega))⟩
set_option maxRecDepth 100000 in
theorem stays_no (s t : ByteArray) (htz : t.size ≤ 600) (ht : (600 < s.size ∧ s.extract 0 600 = t) ∨ (s.size ≤ 600 ∧ s = t)) (A : Option Addr) (n cap : Nat) (A2 : Option Addr) (m cap2 : Nat) (w : World) (hr : B.right t = false) : Calls Try.prog 3 #[.string s, .slice A n cap, .slice A2 m cap2] w fun e w' => e = .returned (.bool true) ∧ Below w.heap.size w w' := by
  have CR := Lib.hid (fun w => ref1_as (s := t) (by omega) hr w)
  have CA := Lib.hid (fun w => alive7 w)
  clear hr
  go_enter Try.func3, Try.ntmps3
  go_upto_region 1 with fail
  go_cut [0] from 19 to 23 (fun a wd => a = .string t ∧ w = wd)
  case first =>
    rcases ht with ⟨h1, h2⟩ | ⟨h1, rfl⟩
    · go_wp2
      go_meet
      case rel => first | exact ⟨rfl, rfl⟩ | exact ⟨by rw [← h2], rfl⟩ | exact ⟨by rw [← h2]; simp; omega, rfl⟩
    · go_wp2
      all_goals
        go_meet
        case rel => first | exact ⟨rfl, rfl⟩ | exact ⟨by simp, rfl⟩ | exact ⟨by simp; omega, rfl⟩
  obtain ⟨rfl, rfl⟩ := hcut
  go_wp2_with (first
    | (go_at_call 6; (with_reducible refine (CR.out _).mono ?_); rintro e w1 ⟨rfl, hbw1⟩; have hz1 := hbw1.size)
    | (go_at_call 7; (with_reducible refine (CA.out _).mono ?_); rintro e w2 ⟨rfl, hbw2⟩))
  go_ret
  exact ⟨rfl, hbw1.trans (hbw2.mono hz1)⟩
set_option maxRecDepth 100000 in
set_option maxHeartbeats 8000000 in
theorem stays_yes (s t : ByteArray) (htz : t.size ≤ 600) (ht : (600 < s.size ∧ s.extract 0 600 = t) ∨ (s.size ≤ 600 ∧ s = t)) (A : Option Addr) (n cap : Nat) (fs : List FX) (A2 : Option Addr) (m cap2 : Nat) (w : World) (hF : FAll w A n cap fs) (hL : InRow IsBool w A2 m cap2) (hr : B.right t = true) : Calls Try.prog 3 #[.string s, .slice A n cap, .slice A2 m cap2] w fun e w' => e = .returned (.bool true) ∧ Below w.heap.size w w' := by
  have CR := Lib.hid (fun w => ref1_as (s := t) (by omega) hr w)
  have CA := Lib.hid (fun w => alive7 w)
  have CN := Lib.hid (fun w => ctlnew_any w)
  have hall : t.data.toList.all B.okc = true := by unfold B.right at hr; simp only [Bool.and_eq_true] at hr; exact hr.2
  clear hr
  go_enter Try.func3, Try.ntmps3
  go_upto_region 1 with fail
  go_cut [0] from 19 to 23 (fun a wd => a = .string t ∧ w = wd)
  case first =>
    rcases ht with ⟨h1, h2⟩ | ⟨h1, rfl⟩
    · go_wp2
      go_meet
      case rel => first | exact ⟨rfl, rfl⟩ | exact ⟨by rw [← h2], rfl⟩ | exact ⟨by rw [← h2]; simp; omega, rfl⟩
    · go_wp2
      all_goals
        go_meet
        case rel => first | exact ⟨rfl, rfl⟩ | exact ⟨by simp, rfl⟩ | exact ⟨by simp; omega, rfl⟩
  obtain ⟨rfl, rfl⟩ := hcut
  clear ht
  go_upto_region 5 with (first
    | (go_at_call 6; (with_reducible refine (CR.out _).mono ?_); rintro e w1 ⟨rfl, hbw1⟩; have hz1 := hbw1.size)
    | (go_at_call 8; (with_reducible refine (CN.out _).mono ?_); rintro e w2 ⟨rfl, hbw2⟩; have hB2 := hbw1.trans (hbw2.mono hz1)))
  have hK0 := (Kept.mk0 hB2).new (ctA B.cs0) 34 w2.heap.size rfl
  have hgc := hB2.size
  generalize w2.alloc (.cells (ctA B.cs0) 34) = W3 at *
  generalize w2.heap.size = gc at *
  clear CR CN hbw1 hbw2 hB2 hz1
  go_wp2
  go_loopw [31] (fun i wr => ∃ (k : Nat) (c : B.Cs), k ≤ t.size ∧ i = .int .i64 k ∧ B.RightM c ∧ Kept w [(gc, ctA c)] wr) (fun i _ => t.size - (intOf i).toNat)
  case atStart => exact ⟨0, B.cs0, by omega, rfl, B.cs0_right, hK0⟩
  case round =>
    obtain ⟨k, c, hk, rfl, hr, hK⟩ := hrel
    clear hK0
    by_cases hlt : k < t.size
    · go_upto_region 8 with fail
      go_upto_if 37 with fail
      go_cut [9, 10, 11] from 32 to 201 (fun _ _ _ wc => ∃ c : B.Cs, B.RightM c ∧ Kept w [(gc, ctA c)] wc)
      case first =>
       as_aux_lemma =>
        by_cases hf : k < n
        · obtain ⟨gF, oF, f, rfl, hgF, hld⟩ := hF.ld hK.2 k hf
          have hnc := hF.1
          have CW0 := fun w => few7 f w
          obtain ⟨h, hh⟩ : ∃ h, f.cut = h := ⟨_, rfl⟩
          rw [hh] at CW0
          have CW := Lib.hid CW0
          clear CW0 hh
          have rc := hK.head
          have hlc := rowAt_lt rc
          cases hm : h.may
          · obtain ⟨x, hx⟩ : ∃ x : B.Cs, B.cs0 = x := ⟨_, rfl⟩
            have CS := Lib.hid (show ∀ w : World, Calls Try.prog 10 #[.agg (ctA c), .agg (frA h)] w (fun e w' => e = .returned (.tuple #[.agg (ctA x), .int .i64 1]) ∧ Below w.heap.size w w') from fun w => hx ▸ submit_no7 c hr hm w)
            have CR := Lib.hid (show ∀ w : World, Calls Try.prog 11 #[.agg (frA h)] w (fun e w' => e = .returned (.bool false) ∧ Below w.heap.size w w') from fun w => refr7_no hm w)
            clear hx
            go_upto_region 10 with (go_at_call 9; (with_reducible refine (CW.out _).mono ?_); rintro e w1 ⟨rfl, hbw1⟩; have hK := hK.keep hbw1; have rc := hK.head; have hlc := rowAt_lt rc)
            have hK3 := hK.new (frA h) 30 w1.heap.size rfl
            generalize w1.alloc (.cells (frA h) 30) = W2 at *
            generalize w1.heap.size = gf at *
            clear hK hbw1 rc CW
            have rf := hK3.head
            have rc := hK3.tail.head
            have hlf := rowAt_lt rf
            have hlc := rowAt_lt rc
            have e1 : gf ≠ gc := by omega
            go_upto_region 14 with (go_at_call 10; (with_reducible refine (CS.out _).mono ?_); rintro e w3 ⟨rfl, hbw3⟩; have hK4 := (hK3.keep hbw3).new (ctA x) 34 w3.heap.size rfl; have hlf3 := Nat.lt_of_lt_of_le hlf hbw3.size)
            generalize w3.alloc (.cells (ctA x) 34) = W5 at *
            generalize w3.heap.size = gx at *
            clear hK3 CS rf rc hbw3
            have rx := hK4.head
            have rf := hK4.tail.head
            have rc := hK4.tail.tail.head
            have hlx := rowAt_lt rx
            have hlf := rowAt_lt rf
            have hlc := rowAt_lt rc
            have hq : Kept w [(gx, ctA x), (gf, frA h), (gc, ctA c)] W5 := hK4
            go_wp2_with (go_at_call 11; (with_reducible refine (CR.out _).mono ?_); rintro e w6 ⟨rfl, hbw6⟩; have hK6 := hq.keep hbw6; have rx := hK6.head; have rf := hK6.tail.head; have rc := hK6.tail.tail.head; have qx := rowAt_cell rx; have fx := rowAt_free rx; have qc := rowAt_cell rc; have fc := rowAt_free rc; have hcc := hK6.tail.tail)
            go_meet
            case rel => exact ⟨c, hr, hcc⟩
          · obtain ⟨F, hfr, rfl⟩ := FX.of_may hm
            cases hhas : c.has
            · obtain ⟨x, hx⟩ : ∃ x : B.Cs, { c with has := true, fr := F } = x := ⟨_, rfl⟩
              have CS := Lib.hid (show ∀ w : World, Calls Try.prog 10 #[.agg (ctA c), .agg (frA (FXo F))] w (fun e w' => e = .returned (.tuple #[.agg (ctA x), .int .i64 0]) ∧ Below w.heap.size w w') from fun w => hx ▸ submit_ok c F w hr hfr hhas)
              have CR := Lib.hid (show ∀ w : World, Calls Try.prog 11 #[.agg (frA (FXo F))] w (fun e w' => e = .returned (.bool true) ∧ Below w.heap.size w w') from fun w => refr7_yes hfr w)
              have hrx : B.RightM x := hx ▸ B.submit_right hr hfr hhas
              have hxh : x.has = true := by rw [← hx]
              have hxf : x.fr = F := by rw [← hx]
              clear hx
              go_upto_region 10 with (go_at_call 9; (with_reducible refine (CW.out _).mono ?_); rintro e w1 ⟨rfl, hbw1⟩; have hK := hK.keep hbw1; have rc := hK.head; have hlc := rowAt_lt rc)
              have hK3 := hK.new (frA (FXo F)) 30 w1.heap.size rfl
              generalize w1.alloc (.cells (frA (FXo F)) 30) = W2 at *
              generalize w1.heap.size = gf at *
              clear hK hbw1 rc CW
              have rf := hK3.head
              have rc := hK3.tail.head
              have hlf := rowAt_lt rf
              have hlc := rowAt_lt rc
              have e1 : gf ≠ gc := by omega
              go_upto_region 14 with (go_at_call 10; (with_reducible refine (CS.out _).mono ?_); rintro e w3 ⟨rfl, hbw3⟩; have hK4 := (hK3.keep hbw3).new (ctA x) 34 w3.heap.size rfl; have hlf3 := Nat.lt_of_lt_of_le hlf hbw3.size)
              generalize w3.alloc (.cells (ctA x) 34) = W5 at *
              generalize w3.heap.size = gx at *
              clear hK3 CS rf rc hbw3
              have rx := hK4.head
              have rf := hK4.tail.head
              have rc := hK4.tail.tail.head
              have hlx := rowAt_lt rx
              have hlf := rowAt_lt rf
              have hlc := rowAt_lt rc
              have hq : Kept w [(gx, ctA x), (gf, frA (FXo F)), (gc, ctA c)] W5 := hK4
              go_wp2_with (go_at_call 11; (with_reducible refine (CR.out _).mono ?_); rintro e w6 ⟨rfl, hbw6⟩; have hK6 := hq.keep hbw6; have rx := hK6.head; have rf := hK6.tail.head; have rc := hK6.tail.tail.head; have qx := rowAt_cell rx; have fx := rowAt_free rx; have qc := rowAt_cell rc; have fc := rowAt_free rc; have hcc := hK6.tail.tail)
              go_meet
              case rel => exact ⟨x, hrx, hcc.set (ctA x) (by omega) (by simp)⟩
            · obtain ⟨x, hx⟩ : ∃ x : B.Cs, B.cs0 = x := ⟨_, rfl⟩
              have CS := Lib.hid (show ∀ w : World, Calls Try.prog 10 #[.agg (ctA c), .agg (frA (FXo F))] w (fun e w' => e = .returned (.tuple #[.agg (ctA x), .int .i64 20]) ∧ Below w.heap.size w w') from fun w => hx ▸ submit_busy c F w hr hfr hhas)
              have CR := Lib.hid (show ∀ w : World, Calls Try.prog 11 #[.agg (frA (FXo F))] w (fun e w' => e = .returned (.bool true) ∧ Below w.heap.size w w') from fun w => refr7_yes hfr w)
              clear hx
              go_upto_region 10 with (go_at_call 9; (with_reducible refine (CW.out _).mono ?_); rintro e w1 ⟨rfl, hbw1⟩; have hK := hK.keep hbw1; have rc := hK.head; have hlc := rowAt_lt rc)
              have hK3 := hK.new (frA (FXo F)) 30 w1.heap.size rfl
              generalize w1.alloc (.cells (frA (FXo F)) 30) = W2 at *
              generalize w1.heap.size = gf at *
              clear hK hbw1 rc CW
              have rf := hK3.head
              have rc := hK3.tail.head
              have hlf := rowAt_lt rf
              have hlc := rowAt_lt rc
              have e1 : gf ≠ gc := by omega
              go_upto_region 14 with (go_at_call 10; (with_reducible refine (CS.out _).mono ?_); rintro e w3 ⟨rfl, hbw3⟩; have hK4 := (hK3.keep hbw3).new (ctA x) 34 w3.heap.size rfl; have hlf3 := Nat.lt_of_lt_of_le hlf hbw3.size)
              generalize w3.alloc (.cells (ctA x) 34) = W5 at *
              generalize w3.heap.size = gx at *
              clear hK3 CS rf rc hbw3
              have rx := hK4.head
              have rf := hK4.tail.head
              have rc := hK4.tail.tail.head
              have hlx := rowAt_lt rx
              have hlf := rowAt_lt rf
              have hlc := rowAt_lt rc
              have hq : Kept w [(gx, ctA x), (gf, frA (FXo F)), (gc, ctA c)] W5 := hK4
              go_wp2_with (go_at_call 11; (with_reducible refine (CR.out _).mono ?_); rintro e w6 ⟨rfl, hbw6⟩; have hK6 := hq.keep hbw6; have rx := hK6.head; have rf := hK6.tail.head; have rc := hK6.tail.tail.head; have qx := rowAt_cell rx; have fx := rowAt_free rx; have qc := rowAt_cell rc; have fc := rowAt_free rc; have hcc := hK6.tail.tail)
              go_meet
              case rel => exact ⟨c, hr, hcc⟩
        · go_wp2
          go_meet
          case rel => exact ⟨c, hr, hK⟩
      clear hr hK c
      obtain ⟨c, hr, hK⟩ := hcut
      go_upto_region 20 with fail
      go_cut [83] from 32 to 201 (fun a wc => (∃ b, a = .bool b) ∧ Kept w [(gc, ctA c)] wc)
      case first =>
       as_aux_lemma =>
        by_cases hcn : k < m
        · obtain ⟨bL, oL, vL, rfl, hlL, ⟨bb, rfl⟩, hcell⟩ := hL.at_ k hcn
          have hmc := hL.1
          have hcell2 := (hK.2.cell (p := ⟨bL, oL + k, none⟩) hlL).trans hcell
          go_wp2
          go_meet
          case rel => exact ⟨⟨_, rfl⟩, hK⟩
        · go_wp2
          go_meet
          case rel => exact ⟨⟨_, rfl⟩, hK⟩
      clear hK
      obtain ⟨⟨bb, rfl⟩, hK⟩ := hcut
      go_upto_if 83 with fail
      go_cut [12, 13] from 32 to 201 (fun _ _ wc => ∃ c : B.Cs, B.RightM c ∧ Kept w [(gc, ctA c)] wc)
      case first =>
       as_aux_lemma =>
        cases bb
        · go_wp2
          go_meet
          case rel => exact ⟨c, hr, hK⟩
        · have rc := hK.head
          have hlc := rowAt_lt rc
          cases hhas : c.has
          · obtain ⟨x, hx⟩ : ∃ x : B.Cs, B.cs0 = x := ⟨_, rfl⟩
            have CC := Lib.hid (show ∀ w : World, Calls Try.prog 12 #[.agg (ctA c)] w (fun e w' => e = .returned (.tuple #[.agg (ctA x), .int .i64 21]) ∧ Below w.heap.size w w') from fun w => hx ▸ cancel_none c w hr hhas)
            clear hx
            go_upto_region 22 with (go_at_call 12; (with_reducible refine (CC.out _).mono ?_); rintro e w3 ⟨rfl, hbw3⟩; have hK4 := (hK.keep hbw3).new (ctA x) 34 w3.heap.size rfl)
            generalize w3.alloc (.cells (ctA x) 34) = W5 at *
            generalize w3.heap.size = gx at *
            clear hK CC rc hbw3
            have rx := hK4.head
            have rc := hK4.tail.head
            have hlx := rowAt_lt rx
            have hlc := rowAt_lt rc
            have qx := rowAt_cell rx
            have fx := rowAt_free rx
            have qc := rowAt_cell rc
            have fc := rowAt_free rc
            have hcc := hK4.tail
            go_wp2
            go_meet
            case rel => exact ⟨c, hr, hcc⟩
          · cases hsd : c.sends
            · obtain ⟨x, hx⟩ : ∃ x : B.Cs, { c with has := false, fr := B.noFr } = x := ⟨_, rfl⟩
              have CC := Lib.hid (show ∀ w : World, Calls Try.prog 12 #[.agg (ctA c)] w (fun e w' => e = .returned (.tuple #[.agg (ctA x), .int .i64 0]) ∧ Below w.heap.size w w') from fun w => hx ▸ cancel_ok c w hr hhas hsd)
              have hrx : B.RightM x := hx ▸ B.cancel_right hr hsd
              have hxh : x.has = false := by rw [← hx]
              clear hx
              go_upto_region 22 with (go_at_call 12; (with_reducible refine (CC.out _).mono ?_); rintro e w3 ⟨rfl, hbw3⟩; have hK4 := (hK.keep hbw3).new (ctA x) 34 w3.heap.size rfl)
              generalize w3.alloc (.cells (ctA x) 34) = W5 at *
              generalize w3.heap.size = gx at *
              clear hK CC rc hbw3
              have rx := hK4.head
              have rc := hK4.tail.head
              have hlx := rowAt_lt rx
              have hlc := rowAt_lt rc
              have qx := rowAt_cell rx
              have fx := rowAt_free rx
              have qc := rowAt_cell rc
              have fc := rowAt_free rc
              have hcc := hK4.tail
              go_wp2
              go_meet
              case rel => exact ⟨x, hrx, hcc.set (ctA x) (by omega) (by simp)⟩
            · obtain ⟨x, hx⟩ : ∃ x : B.Cs, B.cs0 = x := ⟨_, rfl⟩
              have CC := Lib.hid (show ∀ w : World, Calls Try.prog 12 #[.agg (ctA c)] w (fun e w' => e = .returned (.tuple #[.agg (ctA x), .int .i64 20]) ∧ Below w.heap.size w w') from fun w => hx ▸ cancel_busy c w hr hhas hsd)
              clear hx
              go_upto_region 22 with (go_at_call 12; (with_reducible refine (CC.out _).mono ?_); rintro e w3 ⟨rfl, hbw3⟩; have hK4 := (hK.keep hbw3).new (ctA x) 34 w3.heap.size rfl)
              generalize w3.alloc (.cells (ctA x) 34) = W5 at *
              generalize w3.heap.size = gx at *
              clear hK CC rc hbw3
              have rx := hK4.head
              have rc := hK4.tail.head
              have hlx := rowAt_lt rx
              have hlc := rowAt_lt rc
              have qx := rowAt_cell rx
              have fx := rowAt_free rx
              have qc := rowAt_cell rc
              have fc := rowAt_free rc
              have hcc := hK4.tail
              go_wp2
              go_meet
              case rel => exact ⟨c, hr, hcc⟩
      clear hr hK c
      obtain ⟨c, hr, hK⟩ := hcut
      have hbit : B.okc t[k] = true := List.all_eq_true.1 hall _ (List.getElem_mem (by simpa using hlt))
      obtain ⟨hrd, hev⟩ := B.sample_right hr hbit
      obtain ⟨hv4, hv3, hvf⟩ := hev
      have CS0 := fun w => sample7 c t[k] w hr hbit
      obtain ⟨d, hd⟩ : ∃ d, (c.sample t[k]).1 = d := ⟨_, rfl⟩
      obtain ⟨v, hv⟩ : ∃ v, (c.sample t[k]).2 = v := ⟨_, rfl⟩
      rw [hd] at CS0 hrd
      rw [hv] at CS0 hv4 hv3 hvf
      clear hd hv hbit
      have CS := Lib.hid CS0
      have CX := Lib.hid (fun w => ctright_any d w hrd)
      have C6 := Lib.hid (fun w => ref6_may hrd.cnt w)
      have CD0 := fun w => drive7 c w hr
      obtain ⟨b, hb, hb1⟩ : ∃ b : Nat, c.drive.toNat = b ∧ (b = 48 ∨ b = 49) := ⟨_, rfl, by rcases B.drive_bit hr with e | e <;> rw [e] <;> simp⟩
      rw [hb] at CD0
      have CD := Lib.hid CD0
      clear CS0 CD0 hb hr
      have rc := hK.head
      have hlc := rowAt_lt rc
      have q0 : (0 : Int) ≤ (k : Int) := by omega
      have q1 : (k : Int) < (t.size : Int) := by omega
      go_upto_region 27 with (go_at_call 13; (with_reducible refine (CD.out _).mono ?_); rintro e w4 ⟨rfl, hbw4⟩; have hK := hK.keep hbw4; have rc := hK.head; have hlc := rowAt_lt rc)
      have hc0 := rc
      have hz0 := hlc
      clear hbw4 CD
      go_cut [16, 17, 18] from 32 to 201 (fun a7 a8 a9 wc => ∃ gx gv : Nat, a7 = .pointer (some ⟨gx, 0, none⟩) ∧ a8 = .pointer (some ⟨gv, 0, none⟩) ∧ a9 = .int .i64 0 ∧ w4.heap.size ≤ gx ∧ w4.heap.size ≤ gv ∧ Kept w ((gx, ctA d) :: (gv, evA v) :: [(gc, ctA c)]) wc)
      case first =>
       as_aux_lemma =>
        have hlt0 := hK.lt
        have hbz := hK.2.size
        have MK := Lib.hid (show ∀ W, Kept w ([(gc, ctA c)]) W → (rowAt W gc = some (ctA c) ∧ Kept w ([(gc, ctA c)]) W) from fun W h => ⟨h.head, h⟩)
        have hnn := Lib.hid (show ∀ g, w4.heap.size ≤ g → ∀ p ∈ ([(gc, ctA c)]), p.1 ≠ g from fun g hg p hp e => by have := hlt0 p hp; omega)
        go_region_held3 (fun W' => rowAt W' gc = some (ctA c) ∧ Kept w ([(gc, ctA c)]) W')
          (first | (with_reducible assumption) | (refine MK.out _ ?_; (repeat (first | (with_reducible assumption) | (with_reducible exact (by with_reducible assumption : rowAt _ gc = some (ctA c) ∧ Kept w ([(gc, ctA c)]) _).2) | (with_reducible refine Kept.drew ?_) | (with_reducible refine Kept.alloc ?_ _) | ((with_reducible refine Kept.row ?_ _ _ ?_ (hnn.out _ ?_)); rotate_left; (focus omega); (focus omega))))))
          (first
            | (go_at_call 14; (with_reducible refine (CS.out _).mono ?_); rintro e w2 ⟨rfl, hb2⟩; have hr2 := rowAt_below hb2; have hz2 := hb2.size; (try simp at hz2); have hS2 := (by with_reducible assumption : rowAt _ gc = some (ctA c) ∧ Kept w ([(gc, ctA c)]) _).2.keep hb2; have z0 : w4.heap.size ≤ w2.heap.size := (by omega); (try have z1 : w4.heap.size < w2.heap.size := (by omega)); (try have z2 : w4.heap.size + 1 < w2.heap.size := (by omega))))
        all_goals
          go_wp2_with fail
          go_meet
          case rel =>
            refine ⟨_, _, rfl, rfl, rfl, by omega, by omega, Kept.cons (Kept.cons ?_ ?_) ?_⟩
            · (repeat (first | (with_reducible assumption) | (with_reducible exact (by with_reducible assumption : rowAt _ gc = some (ctA c) ∧ Kept w ([(gc, ctA c)]) _).2) | (with_reducible refine Kept.drew ?_) | (with_reducible refine Kept.alloc ?_ _) | ((with_reducible refine Kept.row ?_ _ _ ?_ (hnn.out _ ?_)); rotate_left; (focus omega); (focus omega))))
            · simp [go_sem, *]
            · simp [go_sem, *]
      clear hc0 hz0 q0 q1 CS hK
      obtain ⟨gx, gv, rfl, rfl, rfl, hgx, hgv, hK2⟩ := hcut
      have rx := hK2.head
      have rv := hK2.tail.head
      have rc := hK2.tail.tail.head
      have qx := rowAt_cell rx
      have fx := rowAt_free rx
      have qv := rowAt_cell rv
      have fv := rowAt_free rv
      go_upto_region 28 with fail
      go_cut [185] from 32 to 201 (fun a wc => a = .bool false ∧ Kept w [(gx, ctA d), (gv, evA v), (gc, ctA c)] wc)
      case first =>
       as_aux_lemma =>
        have hv5 : ¬ 4 < v.kind := by omega
        rcases hb1 with rfl | rfl
        all_goals
          by_cases hk3 : v.kind = 3
          · have hbad : v.bad ≠ 0 := hv3.1 hk3
            go_wp2_with (first
              | (go_at_call 15; (with_reducible refine (CX.out _).mono ?_); rintro e w5 ⟨rfl, hbw5⟩; have hK2 := hK2.keep hbw5; have rx := hK2.head; have rv := hK2.tail.head; have rc := hK2.tail.tail.head; have qx := rowAt_cell rx; have fx := rowAt_free rx; have qv := rowAt_cell rv; have fv := rowAt_free rv)
              | (go_at_call 16; (with_reducible refine (C6.out _).mono ?_); rintro e w6 ⟨rfl, hbw6⟩; have hK2 := hK2.keep hbw6; have rx := hK2.head; have rv := hK2.tail.head; have rc := hK2.tail.tail.head; have qx := rowAt_cell rx; have fx := rowAt_free rx; have qv := rowAt_cell rv; have fv := rowAt_free rv))
            go_meet
            case rel => exact ⟨by simp [hbad], hK2⟩
          · have hbad : v.bad = 0 := by
              rcases Nat.eq_zero_or_pos v.bad with h | h
              · exact h
              · exact absurd (hv3.2 (by omega)) hk3
            go_wp2_with (first
              | (go_at_call 15; (with_reducible refine (CX.out _).mono ?_); rintro e w5 ⟨rfl, hbw5⟩; have hK2 := hK2.keep hbw5; have rx := hK2.head; have rv := hK2.tail.head; have rc := hK2.tail.tail.head; have qx := rowAt_cell rx; have fx := rowAt_free rx; have qv := rowAt_cell rv; have fv := rowAt_free rv)
              | (go_at_call 16; (with_reducible refine (C6.out _).mono ?_); rintro e w6 ⟨rfl, hbw6⟩; have hK2 := hK2.keep hbw6; have rx := hK2.head; have rv := hK2.tail.head; have rc := hK2.tail.tail.head; have qx := rowAt_cell rx; have fx := rowAt_free rx; have qv := rowAt_cell rv; have fv := rowAt_free rv))
            go_meet
            case rel => exact ⟨by first | (simp; done) | (simp; omega), hK2⟩
      obtain ⟨rfl, hK2⟩ := hcut
      clear rx rv rc qx fx qv fv CX C6 hv3 hv4 hb1
      have rx := hK2.head
      have rv := hK2.tail.head
      have qv := rowAt_cell rv
      have fv := rowAt_free rv
      go_upto_region 30 with fail
      go_cut [199] from 32 to 201 (fun a wc => a = .bool false ∧ Kept w [(gx, ctA d), (gv, evA v), (gc, ctA c)] wc)
      case first =>
       as_aux_lemma =>
        by_cases hk1 : v.kind = 1
        · have CF := Lib.hid (fun w => refr7_yes (hvf (.inl hk1)) w)
          go_wp2_with (go_at_call 11; (with_reducible refine (CF.out _).mono ?_); rintro e w5 ⟨rfl, hbw5⟩; have hK2 := hK2.keep hbw5)
          go_meet
          case rel => exact ⟨rfl, hK2⟩
        · by_cases hk2 : v.kind = 2
          · have CF := Lib.hid (fun w => refr7_yes (hvf (.inr hk2)) w)
            go_wp2_with (go_at_call 11; (with_reducible refine (CF.out _).mono ?_); rintro e w5 ⟨rfl, hbw5⟩; have hK2 := hK2.keep hbw5)
            go_meet
            case rel => exact ⟨rfl, hK2⟩
          · go_wp2
            go_meet
            case rel => exact ⟨rfl, hK2⟩
      obtain ⟨rfl, hK2⟩ := hcut
      clear rx rv qv fv hvf
      have rx := hK2.head
      have rc := hK2.tail.tail.head
      have hK9 := hK2.tail.tail.set (ctA d) (by omega) (by simp)
      go_wp2
      go_roundw
      case rel => exact ⟨k + 1, d, by omega, by go_num, hrd, hK9⟩
      case measure => simp [intOf]; omega
    · have hks : k = t.size := by omega
      subst hks
      have hB := hK.2
      have hzB := hB.size
      clear hr hK
      go_wp2_with (go_at_call 7; (with_reducible refine (CA.out _).mono ?_); rintro e w7 ⟨rfl, hbw7⟩; have hB := hB.trans (hbw7.mono hzB))
      go_ret
      exact ⟨rfl, by (repeat (first | (with_reducible assumption) | (with_reducible exact Below.refl _ _) | (with_reducible refine Below.drew ?_) | ((with_reducible refine Below.setCell ?_ ?_ _); rotate_left; (focus (first | omega | (simp; done) | (simp; omega)))) | ((with_reducible refine below_row ?_ ?_ _); rotate_left; (focus (first | omega | (simp; done) | (simp; omega)))) | ((with_reducible refine Below.alloc ?_ ?_ _); rotate_left; (focus (first | omega | (simp; done) | (simp; omega))))))⟩
theorem stays_any (s : ByteArray) (A : Option Addr) (n cap : Nat) (fs : List FX) (A2 : Option Addr) (m cap2 : Nat) (w : World) (hF : FAll w A n cap fs) (hL : InRow IsBool w A2 m cap2) : Calls Try.prog 3 #[.string s, .slice A n cap, .slice A2 m cap2] w fun e w' => e = .returned (.bool true) ∧ Below w.heap.size w w' := by
  obtain ⟨t, htz, ht⟩ := cut_at s 600
  cases hr : B.right t
  · exact stays_no s t htz ht A n cap A2 m cap2 w hr
  · exact stays_yes s t htz ht A n cap fs A2 m cap2 w hF hL hr
end Go.Proofs.Ytcaeobkaoebndaa
