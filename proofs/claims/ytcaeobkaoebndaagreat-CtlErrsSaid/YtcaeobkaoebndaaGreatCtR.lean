/- Layer 7: fail whole, fault, mayLose. -/
import Derived.Test.YtcaeobkaoebndaaGreatCtQ
import Derived.Test.YtcaeobkaoebndaaGreatJ10
namespace Go.Proofs.YtcaeobkaoebndaaGreat
open Go.RowKit Go.Lib
attribute [local go_sem ↓] ld_ct st_ct ld_ev st_ev ld_ma st_ma bd_ma
attribute [local go_sem] ldCt_at stCt_at ldEv_at stEv_at ldMa_at stMa_at bdMa_at ldp_ct ldp_ma ldp_ev ldp_mev stp_ct stp_ma stp_ev stp_mev stp_mm zero_ct zero_ev zero_ma ev_err ev_sent
attribute [local go_sem] rowAt_drew rowAt_drewN rowAt_new rowAt_past rowAt_setRow rowAt_setRow_other rowAt_setCell_other rowAt_setCell_map cell_setRow free_setRow cell_setRow_other free_setRow_other setRow_alloc_at setRow_alloc_past
attribute [local go_sem] ctA_0 ctA_1 ctA_2 ctA_3 ctA_4 ctA_5 ctA_6 ctA_7 ctA_8 ctA_9 ctA_10 ctA_11 ctA_12 ctA_13 ctA_14 ctA_15 ctA_16 ctA_17 ctA_18 ctA_19 ctA_20 ctA_21 ctA_22 evA_0 evA_1 evA_2 evA_3 evA_4 evA_5 evA_6 mA_0 mA_1 mA_2 mA_3 mA_4 mA_5 mA_6 mA_7 mA_8 mA_9 mA_10 mA_11 mA_12 mA_13 mA_14 mA_15 mA_16 mA_17 mA_18 mA_19 mA_20 mA_21 mA_22 mA_23 mA_24 mA_25 mA_26 mA_27 mA_28 mA_29
attribute [local go_sem] ctA_set0 ctA_set0_0 ctA_set1_0 ctA_suc0 ctA_set1 ctA_set0_1 ctA_set1_1 ctA_suc1 ctA_set2 ctA_set3 ctA_set0_3 ctA_set1_3 ctA_suc3 ctA_set4 ctA_set0_4 ctA_set1_4 ctA_suc4 ctA_set5 ctA_set0_5 ctA_set1_5 ctA_suc5 ctA_set6 ctA_set7 ctA_set8 ctA_set9 ctA_set0_9 ctA_set1_9 ctA_suc9 ctA_set10 ctA_set11 ctA_set12 ctA_set0_12 ctA_set1_12 ctA_suc12 ctA_set13 ctA_set14 ctA_set15 ctA_set16 ctA_set0_16 ctA_set1_16 ctA_suc16 ctA_set17 ctA_set0_17 ctA_set1_17 ctA_suc17 ctA_set18 ctA_set0_18 ctA_set1_18 ctA_suc18 ctA_set19 ctA_set20 ctA_set21 ctA_set0_21 ctA_set1_21 ctA_suc21 ctA_set22 mA_set0 mA_set0_0 mA_set1_0 mA_suc0 mA_set1 mA_set0_1 mA_set1_1 mA_suc1 mA_set2 mA_set3 mA_set0_3 mA_set1_3 mA_suc3 mA_set4 mA_set0_4 mA_set1_4 mA_suc4 mA_set5 mA_set0_5 mA_set1_5 mA_set1000000000_5 mA_suc5 mA_set6 mA_set7 mA_set8 mA_set9 mA_set0_9 mA_set1_9 mA_suc9 mA_set10 mA_set11 mA_set12 mA_set0_12 mA_set1_12 mA_suc12 mA_set13 mA_set14 mA_set15 mA_set16 mA_set0_16 mA_set1_16 mA_suc16 mA_set17 mA_set0_17 mA_set1_17 mA_set48_17 mA_suc17 mA_set18 mA_set0_18 mA_set1_18 mA_suc18 mA_set19 mA_set20 mA_set21 mA_set0_21 mA_set1_21 mA_suc21 mA_set22 evA_set0 evA_set0_0 evA_set1_0 evA_set2_0 evA_set3_0 evA_set4_0 evA_suc0 evA_set1 evA_set0_1 evA_set1_1 evA_suc1 evA_set2 evA_set3 evA_set4 evA_set0_4 evA_set1_4 evA_suc4 evA_set5 evA_set6 evA_set0_6 evA_set1_6 evA_set14_6 evA_suc6 mA_set23 mA_set0_23 mA_set1_23 mA_set2_23 mA_set3_23 mA_set4_23 mA_suc23 mA_set24 mA_set0_24 mA_set1_24 mA_suc24 mA_set25 mA_set26 mA_set27 mA_set0_27 mA_set1_27 mA_suc27 mA_set28 mA_set29 mA_set0_29 mA_set1_29 mA_suc29
attribute [local go_sem] bareC_cnt bareC_state bareC_n bareC_was bareC_hard bareC_has bareC_fr bareC_sends bareC_out bareC_at_ bareC_st bareC_got bareC_fin bareC_tail bareC_good

theorem m_fail (c : B.Cs) (v : B.Ev) (g : Nat) (e : Int) (k : Nat) (w : World) (hR : rowAt w g = some (mA c v)) (he : e = (k : Nat)) (hk : c.cnt.may) (hoff : c.cnt.o = false) :
    Calls Tryz.prog 93 #[.pointer (some ⟨g, 0, none⟩), .int .i64 e] w fun x w' => x = .returned (.tuple #[]) ∧ (rowAt w' g = some (mA (c.err k).1 ⟨3, B.noFr, k⟩) ∧ Below g w w') := by
  subst he
  cases hs : c.sends
  · by_cases h14 : k = 14
    · subst h14
      by_cases hp : c.cnt.state = 2
      · exact m_fail_np c v g w hR hk hs hp hoff
      · cases ho : (c.cnt.step 4).o
        · exact m_fail_naf c v g w hR hk hs ho hp
        · exact m_fail_nao c v g w hR hk hs ho hp
    · cases ho : (c.cnt.step 4).o
      · exact m_fail_nef c v g _ k w hR rfl hk hs ho h14
      · exact m_fail_neo c v g _ k w hR rfl hk hs ho h14
  · by_cases h14 : k = 14
    · subst h14
      by_cases hp : c.cnt.state = 2
      · exact m_fail_yp c v g w hR hk hs hp hoff
      · cases ho : (c.cnt.step 3).o
        · exact m_fail_yaf c v g w hR hk hs ho hp
        · exact m_fail_yao c v g w hR hk hs ho hp
    · cases ho : (c.cnt.step 3).o
      · exact m_fail_yef c v g _ k w hR rfl hk hs ho h14
      · exact m_fail_yeo c v g _ k w hR rfl hk hs ho h14
set_option maxRecDepth 100000 in
theorem fault_a (c : B.Cs) (v : B.Ev) (g : Nat) (w : World) (hR : rowAt w g = some (mA c v)) (ht : c.tail = 1) (hs : c.sends = true) :
    Calls Tryz.prog 95 #[.pointer (some ⟨g, 0, none⟩), .int .u8 49] w fun e w' => e = .returned (.int .i64 14) ∧ w = w' := by
  have q0 := rowAt_cell hR
  have f0 := rowAt_free hR
  have hl := rowAt_lt hR
  go_enter Tryz.func95, Tryz.ntmps95
  go_wp2
  go_ret
  exact ⟨rfl, rfl⟩
set_option maxRecDepth 100000 in
theorem fault_b (c : B.Cs) (v : B.Ev) (g : Nat) (w : World) (hR : rowAt w g = some (mA c v)) (ht : c.tail = 1) (hs : c.sends = true) :
    Calls Tryz.prog 95 #[.pointer (some ⟨g, 0, none⟩), .int .u8 48] w fun e w' => e = .returned (.int .i64 0) ∧ w = w' := by
  have q0 := rowAt_cell hR
  have f0 := rowAt_free hR
  have hl := rowAt_lt hR
  go_enter Tryz.func95, Tryz.ntmps95
  go_wp2
  go_ret
  exact ⟨rfl, rfl⟩
set_option maxRecDepth 100000 in
theorem fault_c (c : B.Cs) (v : B.Ev) (g : Nat) (w : World) (hR : rowAt w g = some (mA c v)) (ht : c.tail = 1) (hs : c.sends = false) :
    Calls Tryz.prog 95 #[.pointer (some ⟨g, 0, none⟩), .int .u8 48] w fun e w' => e = .returned (.int .i64 0) ∧ w = w' := by
  have q0 := rowAt_cell hR
  have f0 := rowAt_free hR
  have hl := rowAt_lt hR
  go_enter Tryz.func95, Tryz.ntmps95
  go_wp2
  go_ret
  exact ⟨rfl, rfl⟩
set_option maxRecDepth 100000 in
theorem fault_d (c : B.Cs) (v : B.Ev) (g : Nat) (w : World) (hR : rowAt w g = some (mA c v)) (ht : c.tail = 1) (hs : c.sends = false) :
    Calls Tryz.prog 95 #[.pointer (some ⟨g, 0, none⟩), .int .u8 49] w fun e w' => e = .returned (.int .i64 0) ∧ w = w' := by
  have q0 := rowAt_cell hR
  have f0 := rowAt_free hR
  have hl := rowAt_lt hR
  go_enter Tryz.func95, Tryz.ntmps95
  go_wp2
  go_ret
  exact ⟨rfl, rfl⟩
set_option maxRecDepth 100000 in
theorem fault_e (c : B.Cs) (v : B.Ev) (g : Nat) (w : World) (hR : rowAt w g = some (mA c v)) (ht : ¬ c.tail = 1) :
    Calls Tryz.prog 95 #[.pointer (some ⟨g, 0, none⟩), .int .u8 48] w fun e w' => e = .returned (.int .i64 12) ∧ w = w' := by
  have k1 : (((c.tail : Nat) : Int) == 1) = false := by rw [beq_eq_false_iff_ne]; omega
  have k2 : (((c.tail : Nat) : Int) != 1) = true := by simp; omega
  have q0 := rowAt_cell hR
  have f0 := rowAt_free hR
  have hl := rowAt_lt hR
  go_enter Tryz.func95, Tryz.ntmps95
  go_wp2
  go_ret
  exact ⟨rfl, rfl⟩
set_option maxRecDepth 100000 in
theorem fault_f (c : B.Cs) (v : B.Ev) (g : Nat) (w : World) (hR : rowAt w g = some (mA c v)) (ht : c.tail = 2) (hs : c.sends = false) (hg : c.good = false) :
    Calls Tryz.prog 95 #[.pointer (some ⟨g, 0, none⟩), .int .u8 49] w fun e w' => e = .returned (.int .i64 11) ∧ w = w' := by
  have q0 := rowAt_cell hR
  have f0 := rowAt_free hR
  have hl := rowAt_lt hR
  go_enter Tryz.func95, Tryz.ntmps95
  go_wp2
  go_ret
  exact ⟨rfl, rfl⟩
set_option maxRecDepth 100000 in
theorem fault_g (c : B.Cs) (v : B.Ev) (g : Nat) (w : World) (hR : rowAt w g = some (mA c v)) (ht : c.tail = 2) (hs : c.sends = false) (hg : c.good = true) :
    Calls Tryz.prog 95 #[.pointer (some ⟨g, 0, none⟩), .int .u8 49] w fun e w' => e = .returned (.int .i64 0) ∧ w = w' := by
  have q0 := rowAt_cell hR
  have f0 := rowAt_free hR
  have hl := rowAt_lt hR
  go_enter Tryz.func95, Tryz.ntmps95
  go_wp2
  go_ret
  exact ⟨rfl, rfl⟩
set_option maxRecDepth 100000 in
theorem fault_h (c : B.Cs) (v : B.Ev) (g : Nat) (w : World) (hR : rowAt w g = some (mA c v)) (ht : c.tail = 2) (hs : c.sends = true) :
    Calls Tryz.prog 95 #[.pointer (some ⟨g, 0, none⟩), .int .u8 49] w fun e w' => e = .returned (.int .i64 0) ∧ w = w' := by
  have q0 := rowAt_cell hR
  have f0 := rowAt_free hR
  have hl := rowAt_lt hR
  go_enter Tryz.func95, Tryz.ntmps95
  go_wp2
  go_ret
  exact ⟨rfl, rfl⟩
set_option maxRecDepth 100000 in
theorem fault_i (c : B.Cs) (v : B.Ev) (g : Nat) (w : World) (hR : rowAt w g = some (mA c v)) (ht : ¬ c.tail = 1) (ht2 : ¬ c.tail = 2) :
    Calls Tryz.prog 95 #[.pointer (some ⟨g, 0, none⟩), .int .u8 49] w fun e w' => e = .returned (.int .i64 0) ∧ w = w' := by
  have k1 : (((c.tail : Nat) : Int) == 1) = false := by rw [beq_eq_false_iff_ne]; omega
  have k2 : (((c.tail : Nat) : Int) != 1) = true := by simp; omega
  have k3 : (((c.tail : Nat) : Int) == 2) = false := by rw [beq_eq_false_iff_ne]; omega
  have q0 := rowAt_cell hR
  have f0 := rowAt_free hR
  have hl := rowAt_lt hR
  go_enter Tryz.func95, Tryz.ntmps95
  go_wp2
  go_ret
  exact ⟨rfl, rfl⟩
/-- the error of a bit behind the sum -/
def _root_.Go.Proofs.YtcaeobkaoebndaaGreat.B.Cs.faultE (c : B.Cs) (b : UInt8) : Nat := if c.tail = 1 ∧ c.sends = true ∧ b = 49 then 14 else if c.tail ≠ 1 ∧ b = 48 then 12 else if c.tail = 2 ∧ c.sends = false ∧ c.good = false then 11 else 0
theorem fault_any (c : B.Cs) (v : B.Ev) (g : Nat) (b : UInt8) (w : World) (hR : rowAt w g = some (mA c v)) (hb : b = 48 ∨ b = 49) :
    Calls Tryz.prog 95 #[.pointer (some ⟨g, 0, none⟩), .int .u8 (b.toNat : Nat)] w fun e w' => e = .returned (.int .i64 (c.faultE b : Nat)) ∧ w = w' := by
  unfold B.Cs.faultE
  rcases hb with rfl | rfl
  · by_cases h1 : c.tail = 1
    · cases hs : c.sends
      · simpa [h1, hs] using fault_c c v g w hR h1 hs
      · simpa [h1, hs] using fault_b c v g w hR h1 hs
    · simpa [h1] using fault_e c v g w hR h1
  · by_cases h1 : c.tail = 1
    · cases hs : c.sends
      · simpa [h1, hs] using fault_d c v g w hR h1 hs
      · simpa [h1, hs] using fault_a c v g w hR h1 hs
    · by_cases h2 : c.tail = 2
      · cases hs : c.sends
        · cases hg : c.good
          · simpa [h1, h2, hs, hg] using fault_f c v g w hR h2 hs hg
          · simpa [h1, h2, hs, hg] using fault_g c v g w hR h2 hs hg
        · simpa [h1, h2, hs] using fault_h c v g w hR h2 hs
      · simpa [h1, h2] using fault_i c v g w hR h1 h2
theorem field7 {f : B.Fr} (h : B.FrR f) (w : World) : Calls Tryz.prog 107 #[.agg (frC5 f)] w fun e w' => e = .returned (.tuple #[.string (strB (B.fieldL f)), .int .i64 0]) ∧ Below w.heap.size w w' := by
  have e : (FX.fr ⟨f.id, f.ext, f.remote, (f.dlc : Int), strB f.data⟩) = f := by unfold FX.fr; simp
  have := field_yes ⟨f.id, f.ext, f.remote, (f.dlc : Int), strB f.data⟩ w (frI_yes7 h)
  unfold FX.field at this
  rwa [e] at this
theorem field_len (f : B.Fr) : (B.fieldL f).length = B.flen f := by rw [B.fieldL_length]; rfl
end Go.Proofs.YtcaeobkaoebndaaGreat
