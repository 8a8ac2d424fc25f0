/- Layer 7: taken. -/
import Derived.Test.YtcaeobkaoebndaaGreatCtD
import Derived.Test.YtcaeobkaoebndaaGreatJ7
import Derived.Test.YtcaeobkaoebndaaGreatFrameOf
import Derived.Test.YtcaeobkaoebndaaGreatStep3
namespace Go.Proofs.YtcaeobkaoebndaaGreat
open Go.RowKit Go.Lib
attribute [local go_sem ↓] ld_ct st_ct ld_ev st_ev ld_ma st_ma bd_ma
attribute [local go_sem] ldCt_at stCt_at ldEv_at stEv_at ldMa_at stMa_at bdMa_at ldp_ct ldp_ma ldp_ev ldp_mev stp_ct stp_ma stp_ev stp_mev stp_mm zero_ct zero_ev zero_ma ev_err ev_sent
attribute [local go_sem] rowAt_drew rowAt_drewN rowAt_new rowAt_past rowAt_setRow rowAt_setRow_other rowAt_setCell_other rowAt_setCell_map cell_setRow free_setRow cell_setRow_other free_setRow_other setRow_alloc_at setRow_alloc_past
attribute [local go_sem] ctA_0 ctA_1 ctA_2 ctA_3 ctA_4 ctA_5 ctA_6 ctA_7 ctA_8 ctA_9 ctA_10 ctA_11 ctA_12 ctA_13 ctA_14 ctA_15 ctA_16 ctA_17 ctA_18 ctA_19 ctA_20 ctA_21 ctA_22 evA_0 evA_1 evA_2 evA_3 evA_4 evA_5 evA_6 mA_0 mA_1 mA_2 mA_3 mA_4 mA_5 mA_6 mA_7 mA_8 mA_9 mA_10 mA_11 mA_12 mA_13 mA_14 mA_15 mA_16 mA_17 mA_18 mA_19 mA_20 mA_21 mA_22 mA_23 mA_24 mA_25 mA_26 mA_27 mA_28 mA_29
attribute [local go_sem] ctA_set0 ctA_set0_0 ctA_set1_0 ctA_suc0 ctA_set1 ctA_set0_1 ctA_set1_1 ctA_suc1 ctA_set2 ctA_set3 ctA_set0_3 ctA_set1_3 ctA_suc3 ctA_set4 ctA_set0_4 ctA_set1_4 ctA_suc4 ctA_set5 ctA_set0_5 ctA_set1_5 ctA_suc5 ctA_set6 ctA_set7 ctA_set8 ctA_set9 ctA_set0_9 ctA_set1_9 ctA_suc9 ctA_set10 ctA_set11 ctA_set12 ctA_set0_12 ctA_set1_12 ctA_suc12 ctA_set13 ctA_set14 ctA_set15 ctA_set16 ctA_set0_16 ctA_set1_16 ctA_suc16 ctA_set17 ctA_set0_17 ctA_set1_17 ctA_suc17 ctA_set18 ctA_set0_18 ctA_set1_18 ctA_suc18 ctA_set19 ctA_set20 ctA_set21 ctA_set0_21 ctA_set1_21 ctA_suc21 ctA_set22 mA_set0 mA_set0_0 mA_set1_0 mA_suc0 mA_set1 mA_set0_1 mA_set1_1 mA_suc1 mA_set2 mA_set3 mA_set0_3 mA_set1_3 mA_suc3 mA_set4 mA_set0_4 mA_set1_4 mA_suc4 mA_set5 mA_set0_5 mA_set1_5 mA_set1000000000_5 mA_suc5 mA_set6 mA_set7 mA_set8 mA_set9 mA_set0_9 mA_set1_9 mA_suc9 mA_set10 mA_set11 mA_set12 mA_set0_12 mA_set1_12 mA_suc12 mA_set13 mA_set14 mA_set15 mA_set16 mA_set0_16 mA_set1_16 mA_suc16 mA_set17 mA_set0_17 mA_set1_17 mA_set48_17 mA_suc17 mA_set18 mA_set0_18 mA_set1_18 mA_suc18 mA_set19 mA_set20 mA_set21 mA_set0_21 mA_set1_21 mA_suc21 mA_set22 evA_set0 evA_set0_0 evA_set1_0 evA_set2_0 evA_set3_0 evA_set4_0 evA_suc0 evA_set1 evA_set0_1 evA_set1_1 evA_suc1 evA_set2 evA_set3 evA_set4 evA_set0_4 evA_set1_4 evA_suc4 evA_set5 evA_set6 evA_set0_6 evA_set1_6 evA_set14_6 evA_suc6 mA_set23 mA_set0_23 mA_set1_23 mA_set2_23 mA_set3_23 mA_set4_23 mA_suc23 mA_set24 mA_set0_24 mA_set1_24 mA_suc24 mA_set25 mA_set26 mA_set27 mA_set0_27 mA_set1_27 mA_suc27 mA_set28 mA_set29 mA_set0_29 mA_set1_29 mA_suc29

abbrev st2 (x : B.St) : Array Value := #[.int .u8 (x.1 : Nat), .int .i64 (x.2 : Nat)]
theorem own_other {w : World} {base b g i n cap : Nat} {e : TypeId} {size : Nat} {xs : List Value} (h : w.ownsRow base e size (.slice (some ⟨b, 0, none⟩) n cap) n xs) (hg : g ≠ b) (u : Value) : (w.setCell ⟨g, i, none⟩ u).ownsRow base e size (.slice (some ⟨b, 0, none⟩) n cap) n xs := by
  refine ⟨h.1, ?_⟩
  rcases h.2 with hn | ⟨g', cap', cur, hv, hbg, hh, r⟩
  · exact .inl hn
  · have e1 : g' = b := by injection hv with h1 h2 h3; injection h1 with h1; injection h1 with h1; exact h1.symm
    subst e1
    exact .inr ⟨g', cap', cur, hv, hbg, by rw [Below.heap_setCell _ _ _ _ (by simpa using Ne.symm hg)]; exact hh, r⟩
/-- what a round of taken keeps -/
def TkS (w : World) (x : B.St) (d : List UInt8) (b cap : Nat) (w' : World) : Prop :=
  rowAt w' (w.heap.size + 1) = some (st2 x) ∧ rowAt w' w.heap.size = some (st2 (0, 0)) ∧ w'.ownsRow (w.heap.size + 2) 5 1 (.slice (some ⟨b, 0, none⟩) d.length cap) d.length (B.vals d) ∧ Below w.heap.size w w' ∧ w.heap.size + 2 ≤ w'.heap.size ∧ b < w'.heap.size
theorem TkS.keep {w : World} {x : B.St} {d : List UInt8} {b cap : Nat} {wa wb : World} (h : TkS w x d b cap wa) (k : Below wa.heap.size wa wb) : TkS w x d b cap wb := by
  obtain ⟨h1, h2, h3, h4, h5, h6⟩ := h
  exact ⟨(rowAt_below k _ (rowAt_lt h1)).trans h1, (rowAt_below k _ (rowAt_lt h2)).trans h2, own_keep h3 k, h4.trans (k.mono h4.size), Nat.le_trans h5 k.size, Nat.lt_of_lt_of_le h6 k.size⟩
theorem TkS.other {w : World} {x : B.St} {d : List UInt8} {b cap : Nat} {wa : World} (h : TkS w x d b cap wa) (g i : Nat) (u : Value) (hg : w.heap.size + 2 ≤ g) (hb : g ≠ b) : TkS w x d b cap (wa.setCell ⟨g, i, none⟩ u) := by
  obtain ⟨h1, h2, h3, h4, h5, h6⟩ := h
  exact ⟨(rowAt_setCell_other _ _ _ _ _ (by omega)).trans h1, (rowAt_setCell_other _ _ _ _ _ (by omega)).trans h2, own_other h3 hb u, h4.setCell (show w.heap.size ≤ g by omega) u, by simpa [World.setCell] using h5, by simpa [World.setCell] using h6⟩
theorem ust_pre {l : List UInt8} {z : B.St × List UInt8} (h : B.ust l = some z) (k : Nat) : ∃ y, B.ust (l.take k) = some y := by
  cases e : B.ust (l.take k) with
  | some y => exact ⟨y, rfl⟩
  | none =>
    exfalso
    have : B.ust (l.take k ++ l.drop k) = none := by
      unfold B.ust at e ⊢
      rw [List.foldl_append, e]; exact B.uStep_none _
    rw [List.take_append_drop, h] at this; cases this
set_option maxRecDepth 100000 in
set_option maxHeartbeats 4000000 in
theorem taken_any (s : ByteArray) (w : World) (hs : s.size ≤ 400) (hr : s.data.toList.all B.okc = true) (x0 : B.St) (d0 : List UInt8) (hu0 : B.ust s.data.toList = some (x0, d0)) :
    Calls Tryz.prog 68 #[.string s] w fun e w' => e = .returned (.tuple #[.agg (st2 x0), .string (strB d0)]) ∧ Below w.heap.size w w' := by
  obtain ⟨i0, hi, hz0, hz1, hz2⟩ := info_parts Tryz.infoU8
  have HU := Lib.hid hu0
  clear hu0
  go_enter Tryz.func68, Tryz.ntmps68
  go_wp2_with (at_make; refine wpList_make_own _ rfl _ _ 67 rfl (w.heap.size + 2) 5 i0 (.int .u8 0) 1 Tryz.underlying67 hi hz0 hz1 _ _ _ s.size rfl rfl ?b0 ?b1 ?b2 ?b3 ?_)
  case b0 => rfl
  case b1 => rw [hz2]; omega
  case b2 => unfold maxLen; omega
  case b3 => simp
  intro w1 hown hgr
  have hb1 : Below ((w.alloc (.cells #[.int .u8 0, .int .i64 0] 31)).alloc (.cells #[.int .u8 0, .int .i64 0] 31)).heap.size ((w.alloc (.cells #[.int .u8 0, .int .i64 0] 31)).alloc (.cells #[.int .u8 0, .int .i64 0] 31)) w1 :=
    (Below.refl _ _).grown hgr (Nat.le_refl _) (by intro _ h; cases h)
  have hT : TkS w (0, 0) [] (w.heap.size + 2) s.size w1 := by
    have hsz := hb1.size
    simp at hsz
    have hlt := (hown.lt _ rfl).2
    refine ⟨?_, ?_, by simpa using hown, ?_, by omega, by omega⟩
    · rw [rowAt_below hb1 _ (by simp)]; exact rowAt_new _ _ _ _ (by simp)
    · rw [rowAt_below hb1 _ (by simp; omega), rowAt_past _ _ _ (by simp)]; exact rowAt_new _ _ _ _ rfl
    · exact (((Below.refl _ w).alloc (Nat.le_refl _) _).alloc (by simp) _).trans (hb1.mono (by simp; omega))
  clear hb1 hown hgr
  go_wp2
  go_loopw [5, 15] (fun v i wr => ∃ (k b cap : Nat) (x : B.St) (d : List UInt8), k ≤ s.size ∧ i = .int .i64 k ∧ v = .slice (some ⟨b, 0, none⟩) d.length cap ∧ B.ust (s.data.toList.take k) = some (x, d) ∧ TkS w x d b cap wr) (fun _ i _ => s.size - (intOf i).toNat)
  case atStart => exact ⟨0, _, _, (0, 0), [], Nat.zero_le _, rfl, rfl, rfl, hT⟩
  case round =>
    clear hT
    obtain ⟨k, b, cap, x, d, hk, rfl, rfl, hu, hT⟩ := hrel
    by_cases hlt : k < s.size
    · have hall := B.all_take hr k
      have hmay := B.ust_may hall _ _ hu
      have hbit : B.okc s[k] = true := List.all_eq_true.1 hr s[k] (by show s.data[k] ∈ _; simp)
      have hS : B.ust (s.data.toList.take (k + 1)) = B.uStep (some (x, d)) s[k] := by rw [B.take_snoc s k hlt, B.ust_snoc, hu]
      have hlen := (B.ust_all hall _ _ hu).2
      rw [List.length_take, B.size_len] at hlen
      have h3 : B.kind x s[k].toNat ≠ 3 := fun e => by
        obtain ⟨z, hz⟩ := ust_pre HU.out (k + 1)
        rw [hS] at hz; unfold B.uStep at hz; simp [e] at hz
      have CT0 := fun w => stp_any x.1 s[k].toNat x.2 w (mayB_of hmay) (bitB_of hbit)
      replace hS : B.ust (s.data.toList.take (k + 1)) = some (B.kn x s[k].toNat, if B.kind x s[k].toNat = 1 then d ++ [s[k]] else d) := by rw [hS]; unfold B.uStep; simp [h3]
      have hkl := B.kind_le x s[k].toNat
      obtain ⟨y, hy⟩ : ∃ y, y = B.kn x s[k].toNat := ⟨_, rfl⟩
      obtain ⟨q, hq⟩ : ∃ y, y = B.kind x s[k].toNat := ⟨_, rfl⟩
      replace CT0 : ∀ w, Calls Tryz.prog 91 #[.agg #[.int .u8 (x.1 : Nat), .int .i64 (x.2 : Nat)], .int .u8 (s[k].toNat : Nat)] w fun e w' => e = .returned (.tuple #[.agg (st2 y), .int .i64 (q : Nat), .int .i64 0]) ∧ Below w.heap.size w w' := by rw [hy, hq]; exact CT0
      rw [← hq] at h3 hkl hS
      rw [← hy] at hS
      have CT := Lib.hid CT0
      have HS := Lib.hid hS
      clear CT0 hS hy hq hmay hall hbit hu
      have q0 : (0 : Int) ≤ (k : Int) := by omega
      have q1 : (k : Int) < (s.size : Int) := by omega
      have hR := rowAt_cell hT.1
      have hz5 := hT.2.2.2.2.1
      have hz6 := hT.2.2.2.2.2
      have KS := Lib.hid (show ∀ wa wb, Below wa.heap.size wa wb → ((∀ i, wa.cell? ⟨w.heap.size + 1, i, none⟩ = (st2 x)[i]?) ∧ TkS w x d b cap wa) → ((∀ i, wb.cell? ⟨w.heap.size + 1, i, none⟩ = (st2 x)[i]?) ∧ TkS w x d b cap wb) from
        fun wa wb k ⟨h1, h2⟩ => by have e := h2.keep k; exact ⟨rowAt_cell e.1, e⟩)
      have KO := Lib.hid (show ∀ wa g u v, w.heap.size + 2 ≤ g → g ≠ b → ((∀ i, wa.cell? ⟨w.heap.size + 1, i, none⟩ = (st2 x)[i]?) ∧ TkS w x d b cap wa) → ((∀ i, ((wa.setCell ⟨g, 0, none⟩ u).setCell ⟨g, 1, none⟩ v).cell? ⟨w.heap.size + 1, i, none⟩ = (st2 x)[i]?) ∧ TkS w x d b cap ((wa.setCell ⟨g, 0, none⟩ u).setCell ⟨g, 1, none⟩ v)) from
        fun wa g u v hg hb ⟨h1, h2⟩ => by have e := (h2.other g 0 u hg hb).other g 1 v hg hb; exact ⟨rowAt_cell e.1, e⟩)
      have HT := Lib.hid hT
      clear hT
      go_upto_region 6 with fail
      go_cut [7, 8, 9] from 18 to 27 (fun a7 a8 a9 wc => ∃ g : Nat, a7 = .pointer (some ⟨g, 0, none⟩) ∧ a8 = .int .i64 (q : Nat) ∧ a9 = .int .i64 0 ∧ rowAt wc g = some (st2 y) ∧ w.heap.size + 2 ≤ g ∧ g ≠ b ∧ TkS w x d b cap wc)
      case first =>
        go_region_held3 (fun W' => (∀ i, W'.cell? ⟨w.heap.size + 1, i, none⟩ = (st2 x)[i]?) ∧ TkS w x d b cap W')
          (first | assumption | exact KS.out _ _ ((Below.refl _ _).drew) ⟨hR, HT.out⟩ | exact KS.out _ _ (by assumption) (by assumption) | exact KS.out _ _ ((Below.refl _ _).alloc (Nat.le_refl _) _) (by assumption) | exact KO.out _ _ _ _ (by omega) (by omega) (by assumption))
          (first
            | (go_at_call 91; (with_reducible refine (CT.out _).mono ?_); rintro e w2 ⟨rfl, hb2⟩; obtain ⟨hc2, hf2, hr2⟩ := bcell7 hb2; have hz2' := hb2.size; (try simp at hz2'); have hS2 := KS.out _ _ hb2 (by assumption)))
        all_goals
          go_wp2_with fail
          go_meet
        case rel => exact ⟨_, rfl, rfl, rfl, by simp [go_sem], by omega, by omega, (KS.out _ _ ((Below.refl _ _).alloc (Nat.le_refl _) _) hS2).2⟩
        case rel => exact ⟨_, rfl, rfl, rfl, by simp [go_sem, hr2], by omega, by omega, (KO.out _ _ _ _ (by omega) (by omega) hS2).2⟩
        case rel => exact ⟨_, rfl, rfl, rfl, by simp [go_sem, hr2], by omega, by omega, (KO.out _ _ _ _ (by omega) (by omega) hS2).2⟩
      case rest =>
        clear KS KO HT hR hz5 hz6 CT
        obtain ⟨g, rfl, rfl, rfl, hG, hg2, hgb, hT⟩ := hcut
        have gc := rowAt_cell hG
        have kc := rowAt_cell hT.1
        have kf := rowAt_free hT.1
        rcases (by omega : q = 1 ∨ q = 2) with rfl | rfl
        · have hO := hT.2.2.1
          have HO := Lib.hid hO
          have HT := Lib.hid hT
          clear hO hT
          go_wp2_with (at_builtin; refine wpList_append_own _ rfl (.tmp 29) (.tmp 33) 67 rfl (w.heap.size + 2) 5 i0 (.int .u8 0) 1 1 Tryz.underlying67 hi hz0 hz1 hz2 rfl (by decide) _ _ _ rfl (own_keep HO.out ((Below.refl _ _).alloc (Nat.le_refl _) _)) ⟨wc.heap.size, 0, none⟩ 1 1 [.int .u8 (s[k].toNat : Int)] rfl rfl ?c1a ?c2a ?c3a ?c4a ?c5a ?_)
          case c2a => rfl
          case c3a => unfold maxLen; omega
          case c4a => omega
          case c5a => have := HT.out.2.2.2.2.1; simp; omega
          intro v' w3 hown' hgrow _
          have hb3 : Below (w.heap.size + 2) wc w3 := append_below HT.out.2.2.2.2.1 hgrow (fun g hg => (HO.out.lt g hg).1)
          have hz3 := hb3.size
          have hgl := rowAt_lt hG
          have hG3 : rowAt w3 g = some (st2 y) := by
            have e := hgrow.block g (by simp; omega) (fun e => hgb (Option.some.inj e))
            have : rowAt w3 g = rowAt (wc.alloc (.cells #[.int .u8 (s[k].toNat : Int)] 5)) g := by unfold rowAt; rw [e]
            rw [this, rowAt_past _ _ _ hgl]; exact hG
          have hK3 : rowAt w3 (w.heap.size + 1) = some (st2 x) := by
            have e := hb3.block (w.heap.size + 1) (by omega)
            have : rowAt w3 (w.heap.size + 1) = rowAt wc (w.heap.size + 1) := by unfold rowAt; rw [e]
            rw [this]; exact HT.out.1
          have hZ3 : rowAt w3 w.heap.size = some (st2 (0, 0)) := by
            have e := hb3.block w.heap.size (by omega)
            have : rowAt w3 w.heap.size = rowAt wc w.heap.size := by unfold rowAt; rw [e]
            rw [this]; exact HT.out.2.1
          rw [B.vals_snoc] at hown'
          obtain ⟨b', cap', rfl, hb1', hb2'⟩ := own_form hown' (own_not_nil hown' (by omega))
          replace HS : Hid (B.ust (s.data.toList.take (k + 1)) = some (y, d ++ [s[k]])) := Lib.hid HS.out
          have hB3 : Below w.heap.size w w3 := HT.out.2.2.2.1.trans (hb3.mono (by omega))
          have hz7 : w.heap.size + 2 ≤ w3.heap.size := by have := HT.out.2.2.2.2.1; omega
          have HO3 := Lib.hid hown'
          have HB3 := Lib.hid hB3
          clear hown' hgrow hb3 HT HO hG hB3 gc kc kf
          have gc := rowAt_cell hG3
          have kc := rowAt_cell hK3
          have kf := rowAt_free hK3
          go_wp2
          go_roundw
          case rel =>
            refine ⟨k + 1, b', cap', y, d ++ [s[k]], by omega, by go_num, by simp, HS.out, ?_, ?_, ?_, (HB3.out.setCell (show w.heap.size ≤ w.heap.size + 1 by omega) _).setCell (show w.heap.size ≤ w.heap.size + 1 by omega) _, by simpa [World.setCell] using hz7, by simpa [World.setCell] using hb2'⟩
            · simp [go_sem, hK3]
            · simp [go_sem, hZ3]
            · have := own_other (own_other HO3.out (g := w.heap.size + 1) (i := 0) (by omega) (.int .u8 (y.1 : Nat))) (g := w.heap.size + 1) (i := 1) (by omega) (.int .i64 (y.2 : Nat))
              simpa using this
          case measure => simp [intOf]; omega
        · replace HS : Hid (B.ust (s.data.toList.take (k + 1)) = some (y, d)) := Lib.hid HS.out
          have HT := Lib.hid hT
          clear hT
          go_wp2
          go_roundw
          case rel =>
            obtain ⟨h1, h2, h3, h4, h5, h6⟩ := HT.out
            have hbb : w.heap.size + 2 ≤ b := (h3.lt _ rfl).1
            refine ⟨k + 1, b, cap, y, d, by omega, by go_num, rfl, HS.out, ?_, ?_, own_other (own_other h3 (by omega) _) (by omega) _, (h4.setCell (show w.heap.size ≤ w.heap.size + 1 by omega) _).setCell (show w.heap.size ≤ w.heap.size + 1 by omega) _, by simpa [World.setCell] using h5, by simpa [World.setCell] using h6⟩
            · simp [go_sem, h1]
            · simp [go_sem, h2]
          case measure => simp [intOf]; omega
    · have hks : k = s.size := by omega
      subst hks
      rw [List.take_of_length_le (by rw [B.size_len]; omega), HU.out] at hu
      obtain ⟨rfl, rfl⟩ : x0 = x ∧ d0 = d := by
        have := Option.some.inj hu
        exact ⟨congrArg Prod.fst this, congrArg Prod.snd this⟩
      have hback := run_back_own (P := Tryz.prog) 67 9 _ rfl Tryz.underlying67 Tryz.underlying5 Tryz.underlying9 (own_keep hT.2.2.1 ((Below.refl _ _).drew))
      have hbb : w.heap.size + 2 ≤ b := (hT.2.2.1.lt _ rfl).1
      have hback2 := run_back_own (P := Tryz.prog) 67 9 _ rfl Tryz.underlying67 Tryz.underlying5 Tryz.underlying9 (own_keep (own_other (own_other hT.2.2.1 (g := w.heap.size) (i := 0) (by omega) (.int .u8 (x0.1 : Nat))) (g := w.heap.size) (i := 1) (by omega) (.int .i64 (x0.2 : Nat))) ((Below.refl _ _).drew))
      have kc := rowAt_cell hT.1
      have rc := rowAt_cell hT.2.1
      have rf := rowAt_free hT.2.1
      have rr := hT.2.1
      have hB := hT.2.2.2.1
      clear hT
      go_wp2
      go_region
      all_goals
        go_wp2
        refine bodyPost_ret (res_row_t Tryz.results68 Tryz.underlying31 rfl (n := 2) (by kernel_rfl) _ _ w.heap.size (st2 x0) rfl (by simp [go_sem, rr]) rfl) rfl ⟨rfl, ?_⟩
        (repeat (first | (with_reducible assumption) | (with_reducible exact Below.refl _ _) | (with_reducible refine Below.drew ?_) | ((with_reducible refine Below.setCell ?_ ?_ _); rotate_left; (focus (first | omega | (simp; done) | (simp; omega)))) | ((with_reducible refine below_row ?_ ?_ _); rotate_left; (focus (first | omega | (simp; done) | (simp; omega)))) | ((with_reducible refine Below.alloc ?_ ?_ _); rotate_left; (focus (first | omega | (simp; done) | (simp; omega))))))
end Go.Proofs.YtcaeobkaoebndaaGreat
