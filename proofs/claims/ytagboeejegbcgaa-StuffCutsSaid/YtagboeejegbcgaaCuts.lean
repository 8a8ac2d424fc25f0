/- The walk of layer 3's law StuffCuts. -/
import Derived.Test.YtagboeejegbcgaaLaw03
import Derived.Test.YtagboeejegbcgaaRefUnstuff
namespace Go.Proofs.Ytagboeejegbcgaa
open Go.RowKit Go.Lib
attribute [local go_sem ↓] Go.wp_at_zero Go.wp_at_succ

theorem mayB_of {x n : Nat} (h : B.may (x, n)) : B.mayB x n = true := by
  unfold B.may at h; simp only at h; simp only [B.mayB, decide_eq_true_eq]; omega
theorem bitB_of {c : UInt8} (h : B.okc c = true) : B.bitB c.toNat = true := by
  simp only [B.bitB, decide_eq_true_eq]; exact (B.okc_iff c).1 h

set_option maxHeartbeats 1000000 in
theorem cuts_no (s t : ByteArray) (w : World) (htz : t.size ≤ 1000) (ht : (1000 < s.size ∧ s.extract 0 1000 = t) ∨ (s.size ≤ 1000 ∧ s = t)) (hr : B.right t = false) :
    Calls Try.prog 7 #[.string s] w fun e w' => e = .returned (.bool true) ∧ Below w.heap.size w w' := by
  have CR := Lib.hid (fun w => refright_any t w (by unfold maxLen; omega))
  have hB : Below w.heap.size w w := Below.refl _ _
  rcases ht with ⟨h1, ht⟩ | ⟨h1, rfl⟩
  all_goals
    go_enter Try.func7, Try.ntmps7
    go_wp2_with (first
      | (go_at_call 16; (with_reducible refine (CR.out _).mono ?_); rintro e w' ⟨rfl, rfl⟩)
      | (go_at_call 12; (with_reducible refine (alive_any _).mono ?_); rintro e w' ⟨rfl, hb⟩; replace hB := hB.trans (hb.mono hB.size)))
    go_ret
    exact ⟨rfl, hB⟩


set_option maxHeartbeats 8000000 in
theorem cuts_long (s t : ByteArray) (w : World) (h1 : 1000 < s.size) (ht : s.extract 0 1000 = t) (hr : B.right t = true) :
    Calls Try.prog 7 #[.string s] w fun e w' => e = .returned (.bool true) ∧ Below w.heap.size w w' := by
  have htz : t.size ≤ 1000 := by rw [← ht]; simp [ByteArray.size_extract]; omega
  have CR := Lib.hid (fun w => refright_any t w (by unfold maxLen; omega))
  obtain ⟨B0, hB⟩ : ∃ b, b = w.heap.size := ⟨_, rfl⟩
  have HB := Lib.hid hB
  rw [← hB]
  clear hB
  go_enter Try.func7, Try.ntmps7
  go_wp2_with (go_at_call 16; (with_reducible refine (CR.out _).mono ?_); rintro e w' ⟨rfl, rfl⟩)
  rw [← HB.out]
  have hT := two_new' w (.int .u8 0) (.int .i64 0) 23 B0 HB.out
  have hb0 := (Below.refl B0 w).alloc (by rw [HB.out]; exact Nat.le_refl _) (.cells #[.int .u8 0, .int .i64 0] 23)
  go_loopw [4, 25] (fun o i wr => ∃ (k x n : Nat) (d : List UInt8), k ≤ t.size ∧ i = .int .i64 k ∧ B.ust (t.data.toList.take k) = some ((x, n), d) ∧ o = .string ⟨d.toArray⟩ ∧ Two wr B0 (.int .u8 x) (.int .i64 n) 23 ∧ Below B0 w wr) (fun _ i _ => t.size - (intOf i).toNat)
  case atStart => exact ⟨0, 0, 0, [], Nat.zero_le _, rfl, rfl, rfl, hT, hb0⟩
  case round =>
    clear hT hb0 h1 ht
    obtain ⟨k, x, n, d, hk, rfl, hu, rfl, hT, hb⟩ := hrel
    have hall := B.all_take (B.right_all hr) k
    have hmay := B.ust_may hall _ _ hu
    have hn5 : n ≤ 5 := by unfold B.may at hmay; simp only at hmay; omega
    by_cases hlt : k < t.size
    · have hS : B.ust (t.data.toList.take (k + 1)) = B.uStep (some ((x, n), d)) t[k] := by rw [B.take_snoc t k hlt, B.ust_snoc, hu]
      have hok : B.okc t[k] = true := List.all_eq_true.1 (B.right_all hr) t[k] (by show t.data[k] ∈ _; simp)
      have CT0 := fun w => step_any x t[k].toNat n w (mayB_of hmay) (bitB_of hok)
      have hmy := B.may_kn hmay ((B.okc_iff _).1 hok)
      have hlen := (B.ust_all hall _ _ hu).2
      rw [List.length_take, B.size_len] at hlen
      clear hall hmay hok
      have q0 : (0 : Int) ≤ (k : Int) := by omega
      have q1 : (k : Int) < (t.size : Int) := by omega
      have hc0 := hT.cell0
      have hc1 := hT.cell1
      have hz := hT.lt
      have KS := Lib.hid (show ∀ wa wb, Below wa.heap.size wa wb → (Below B0 w wa ∧ wa.cell? ⟨B0, 0, none⟩ = some (.int .u8 x) ∧ wa.cell? ⟨B0, 1, none⟩ = some (.int .i64 n) ∧ Two wa B0 (.int .u8 x) (.int .i64 n) 23) → (Below B0 w wb ∧ wb.cell? ⟨B0, 0, none⟩ = some (.int .u8 x) ∧ wb.cell? ⟨B0, 1, none⟩ = some (.int .i64 n) ∧ Two wb B0 (.int .u8 x) (.int .i64 n) 23) from
        fun wa wb k ⟨h1, h2, h3, h4⟩ => ⟨below_keep h1 k (Nat.le_of_lt h4.lt), cell_keep k h2, cell_keep k h3, h4.keep k⟩)
      have KC := Lib.hid (show ∀ wa g i u, (Below B0 w wa ∧ wa.cell? ⟨B0, 0, none⟩ = some (.int .u8 x) ∧ wa.cell? ⟨B0, 1, none⟩ = some (.int .i64 n) ∧ Two wa B0 (.int .u8 x) (.int .i64 n) 23) → B0 < g → (Below B0 w (wa.setCell ⟨g, i, none⟩ u) ∧ (wa.setCell ⟨g, i, none⟩ u).cell? ⟨B0, 0, none⟩ = some (.int .u8 x) ∧ (wa.setCell ⟨g, i, none⟩ u).cell? ⟨B0, 1, none⟩ = some (.int .i64 n) ∧ Two (wa.setCell ⟨g, i, none⟩ u) B0 (.int .u8 x) (.int .i64 n) 23) from
        fun wa g i u ⟨h1, _, _, h4⟩ hg => two_other h1 h4 hg)
      obtain ⟨y, m, hy⟩ : ∃ y m, (y, m) = B.kn (x, n) t[k].toNat := ⟨_, _, rfl⟩
      rw [← hy] at CT0 hmy
      have hym := mayB_of hmy
      have CY : Hid (∀ w, Calls Try.prog 10 #[.agg #[.int .u8 y, .int .i64 m]] w fun e w' => e = .returned (.bool true) ∧ Below w.heap.size w w') := Lib.hid (fun w => by
        have := right3_any y m w
        rwa [hym] at this)
      clear hym hmy
      rcases B.kind_le (x, n) t[k].toNat with hkd | hkd | hkd
      · rw [hkd] at CT0
        have CT := Lib.hid CT0
        clear CT0
        replace hS : B.ust (t.data.toList.take (k + 1)) = some ((y, m), d ++ [t[k]]) := by rw [hS, hy]; unfold B.uStep; simp [hkd]
        have HS := Lib.hid hS
        clear hS hkd hu hy
        go_wp2_with fail
        go_region_held3 (fun w' => Below B0 w w' ∧ w'.cell? ⟨B0, 0, none⟩ = some (.int .u8 x) ∧ w'.cell? ⟨B0, 1, none⟩ = some (.int .i64 n) ∧ Two w' B0 (.int .u8 x) (.int .i64 n) 23)
          (first | assumption | exact ⟨hb.drew, hc0, hc1, hT.drew⟩ | exact KS.out _ _ ((Below.refl _ _).alloc (Nat.le_refl _) _) (by assumption) | exact KC.out _ _ _ _ (KC.out _ _ _ _ (by assumption) hz) hz)
          (first
            | (go_at_call 9; (with_reducible refine (CT.out _).mono ?_); rintro e w1 ⟨rfl, hb1⟩; have hN := (show Two ((wr.alloc (.cells #[.int .u8 0, .int .i64 0] 23)).drew) wr.heap.size (.int .u8 0) (.int .i64 0) 23 from two_new _ _ _ _).keep hb1; have hn0 := hN.cell0; have hn1 := hN.cell1; have hn2 := hN.free0; have hn3 := hN.free1; have hS := KS.out _ _ hb1 (by assumption))
            | (go_at_call 9; (with_reducible refine (CT.out _).mono ?_); rintro e w1 ⟨rfl, hb1⟩; have hS := KS.out _ _ hb1 (by assumption)))
        · have hbW : Below B0 w (w1.alloc (.cells #[.int .u8 y, .int .i64 m] 23)) := hS.1.alloc (Nat.le_of_lt hS.2.2.2.lt) _
          have hTx := hS.2.2.2.alloc (.cells #[.int .u8 y, .int .i64 m] 23)
          have hTy := two_new w1 (.int .u8 y) (.int .i64 m) 23
          have hgy : B0 < w1.heap.size := hS.2.2.2.lt
          revert hbW hTx hTy hgy
          generalize w1.alloc (.cells #[.int .u8 y, .int .i64 m] 23) = W
          generalize w1.heap.size = gy
          intro hbW hTx hTy hgy
          have hy0 := hTy.cell0
          have hy1 := hTy.cell1
          go_wp2_with (go_at_call 10; (with_reducible refine (CY.out _).mono ?_); rintro e W2 ⟨rfl, hb2⟩; have hTx2 := hTx.keep hb2; have hTy2 := hTy.keep hb2; have hB2 := below_keep hbW hb2 (Nat.le_of_lt hTx.lt); have hx0 := hTx2.cell0; have hx1 := hTx2.cell1; have hx2 := hTx2.free0; have hx3 := hTx2.free1; have hy2 := hTy2.cell0; have hy3 := hTy2.cell1)
          go_roundw
          case rel => exact ⟨k + 1, y, m, _, by omega, by go_num, HS.out, val_str (by exact B.out_snoc d t k hlt), (hTx2.set0 _).set1 _, (hB2.setCell (show B0 ≤ B0 from Nat.le_refl _) _).setCell (show B0 ≤ B0 from Nat.le_refl _) _⟩
          case measure => simp [intOf]; omega
        all_goals
          have hN2 := (hN.set0 (.int .u8 y)).set1 (.int .i64 m)
          have hS2 := KC.out _ wr.heap.size 1 (.int .i64 m) (KC.out _ wr.heap.size 0 (.int .u8 y) hS hz) hz
          have hbW := hS2.1
          have hTx := hS2.2.2.2
          have hTy := hN2
          have hgy : B0 < wr.heap.size := hz
          clear hS2 hN2
          revert hbW hTx hTy hgy
          generalize (w1.setCell ⟨wr.heap.size, 0, none⟩ (.int .u8 y)).setCell ⟨wr.heap.size, 1, none⟩ (.int .i64 m) = W
          generalize wr.heap.size = gy
          intro hbW hTx hTy hgy
          have hy0 := hTy.cell0
          have hy1 := hTy.cell1
          go_wp2_with (go_at_call 10; (with_reducible refine (CY.out _).mono ?_); rintro e W2 ⟨rfl, hb2⟩; have hTx2 := hTx.keep hb2; have hTy2 := hTy.keep hb2; have hB2 := below_keep hbW hb2 (Nat.le_of_lt hTx.lt); have hx0 := hTx2.cell0; have hx1 := hTx2.cell1; have hx2 := hTx2.free0; have hx3 := hTx2.free1; have hy2 := hTy2.cell0; have hy3 := hTy2.cell1)
          go_roundw
          case rel => exact ⟨k + 1, y, m, _, by omega, by go_num, HS.out, val_str (by exact B.out_snoc d t k hlt), (hTx2.set0 _).set1 _, (hB2.setCell (show B0 ≤ B0 from Nat.le_refl _) _).setCell (show B0 ≤ B0 from Nat.le_refl _) _⟩
          case measure => simp [intOf]; omega
      · rw [hkd] at CT0
        have CT := Lib.hid CT0
        clear CT0
        replace hS : B.ust (t.data.toList.take (k + 1)) = some ((y, m), d) := by rw [hS, hy]; unfold B.uStep; simp [hkd]
        have HS := Lib.hid hS
        clear hS hkd hu hy
        go_wp2_with fail
        go_region_held3 (fun w' => Below B0 w w' ∧ w'.cell? ⟨B0, 0, none⟩ = some (.int .u8 x) ∧ w'.cell? ⟨B0, 1, none⟩ = some (.int .i64 n) ∧ Two w' B0 (.int .u8 x) (.int .i64 n) 23)
          (first | assumption | exact ⟨hb.drew, hc0, hc1, hT.drew⟩ | exact KS.out _ _ ((Below.refl _ _).alloc (Nat.le_refl _) _) (by assumption) | exact KC.out _ _ _ _ (KC.out _ _ _ _ (by assumption) hz) hz)
          (first
            | (go_at_call 9; (with_reducible refine (CT.out _).mono ?_); rintro e w1 ⟨rfl, hb1⟩; have hN := (show Two ((wr.alloc (.cells #[.int .u8 0, .int .i64 0] 23)).drew) wr.heap.size (.int .u8 0) (.int .i64 0) 23 from two_new _ _ _ _).keep hb1; have hn0 := hN.cell0; have hn1 := hN.cell1; have hn2 := hN.free0; have hn3 := hN.free1; have hS := KS.out _ _ hb1 (by assumption))
            | (go_at_call 9; (with_reducible refine (CT.out _).mono ?_); rintro e w1 ⟨rfl, hb1⟩; have hS := KS.out _ _ hb1 (by assumption)))
        · have hbW : Below B0 w (w1.alloc (.cells #[.int .u8 y, .int .i64 m] 23)) := hS.1.alloc (Nat.le_of_lt hS.2.2.2.lt) _
          have hTx := hS.2.2.2.alloc (.cells #[.int .u8 y, .int .i64 m] 23)
          have hTy := two_new w1 (.int .u8 y) (.int .i64 m) 23
          have hgy : B0 < w1.heap.size := hS.2.2.2.lt
          revert hbW hTx hTy hgy
          generalize w1.alloc (.cells #[.int .u8 y, .int .i64 m] 23) = W
          generalize w1.heap.size = gy
          intro hbW hTx hTy hgy
          have hy0 := hTy.cell0
          have hy1 := hTy.cell1
          go_wp2_with (go_at_call 10; (with_reducible refine (CY.out _).mono ?_); rintro e W2 ⟨rfl, hb2⟩; have hTx2 := hTx.keep hb2; have hTy2 := hTy.keep hb2; have hB2 := below_keep hbW hb2 (Nat.le_of_lt hTx.lt); have hx0 := hTx2.cell0; have hx1 := hTx2.cell1; have hx2 := hTx2.free0; have hx3 := hTx2.free1; have hy2 := hTy2.cell0; have hy3 := hTy2.cell1)
          go_roundw
          case rel => exact ⟨k + 1, y, m, _, by omega, by go_num, HS.out, rfl, (hTx2.set0 _).set1 _, (hB2.setCell (show B0 ≤ B0 from Nat.le_refl _) _).setCell (show B0 ≤ B0 from Nat.le_refl _) _⟩
          case measure => simp [intOf]; omega
        all_goals
          have hN2 := (hN.set0 (.int .u8 y)).set1 (.int .i64 m)
          have hS2 := KC.out _ wr.heap.size 1 (.int .i64 m) (KC.out _ wr.heap.size 0 (.int .u8 y) hS hz) hz
          have hbW := hS2.1
          have hTx := hS2.2.2.2
          have hTy := hN2
          have hgy : B0 < wr.heap.size := hz
          clear hS2 hN2
          revert hbW hTx hTy hgy
          generalize (w1.setCell ⟨wr.heap.size, 0, none⟩ (.int .u8 y)).setCell ⟨wr.heap.size, 1, none⟩ (.int .i64 m) = W
          generalize wr.heap.size = gy
          intro hbW hTx hTy hgy
          have hy0 := hTy.cell0
          have hy1 := hTy.cell1
          go_wp2_with (go_at_call 10; (with_reducible refine (CY.out _).mono ?_); rintro e W2 ⟨rfl, hb2⟩; have hTx2 := hTx.keep hb2; have hTy2 := hTy.keep hb2; have hB2 := below_keep hbW hb2 (Nat.le_of_lt hTx.lt); have hx0 := hTx2.cell0; have hx1 := hTx2.cell1; have hx2 := hTx2.free0; have hx3 := hTx2.free1; have hy2 := hTy2.cell0; have hy3 := hTy2.cell1)
          go_roundw
          case rel => exact ⟨k + 1, y, m, _, by omega, by go_num, HS.out, rfl, (hTx2.set0 _).set1 _, (hB2.setCell (show B0 ≤ B0 from Nat.le_refl _) _).setCell (show B0 ≤ B0 from Nat.le_refl _) _⟩
          case measure => simp [intOf]; omega
      · rw [hkd] at CT0
        have CT := Lib.hid CT0
        clear CT0
        replace hS : B.ust t.data.toList = none := B.ust_take _ (k + 1) (by rw [hS]; unfold B.uStep; simp [hkd])
        have CU := Lib.hid (fun w => unstuff_err t w hr hS)
        have hxy : (y, m) = (x, n) := by
          rw [hy]; unfold B.kind at hkd; unfold B.kn
          split at hkd
          · split at hkd
            · rename_i e1 e2; rw [if_pos e1, if_pos e2]
            · omega
          · split at hkd <;> omega
        obtain ⟨rfl, rfl⟩ : x = y ∧ n = m := by simp at hxy; omega
        clear hS hkd hu hxy
        go_wp2_with fail
        go_region_held3 (fun w' => Below B0 w w' ∧ w'.cell? ⟨B0, 0, none⟩ = some (.int .u8 x) ∧ w'.cell? ⟨B0, 1, none⟩ = some (.int .i64 n) ∧ Two w' B0 (.int .u8 x) (.int .i64 n) 23)
          (first | assumption | exact ⟨hb.drew, hc0, hc1, hT.drew⟩ | exact KS.out _ _ ((Below.refl _ _).alloc (Nat.le_refl _) _) (by assumption) | exact KC.out _ _ _ _ (KC.out _ _ _ _ (by assumption) hz) hz)
          (first
            | (go_at_call 9; (with_reducible refine (CT.out _).mono ?_); rintro e w1 ⟨rfl, hb1⟩; have hN := (show Two ((wr.alloc (.cells #[.int .u8 0, .int .i64 0] 23)).drew) wr.heap.size (.int .u8 0) (.int .i64 0) 23 from two_new _ _ _ _).keep hb1; have hn0 := hN.cell0; have hn1 := hN.cell1; have hn2 := hN.free0; have hn3 := hN.free1; have hS := KS.out _ _ hb1 (by assumption))
            | (go_at_call 9; (with_reducible refine (CT.out _).mono ?_); rintro e w1 ⟨rfl, hb1⟩; have hS := KS.out _ _ hb1 (by assumption)))
        · have hbW : Below B0 w (w1.alloc (.cells #[.int .u8 x, .int .i64 n] 23)) := hS.1.alloc (Nat.le_of_lt hS.2.2.2.lt) _
          have hTx := hS.2.2.2.alloc (.cells #[.int .u8 x, .int .i64 n] 23)
          have hTy := two_new w1 (.int .u8 x) (.int .i64 n) 23
          have hgy : B0 < w1.heap.size := hS.2.2.2.lt
          revert hbW hTx hTy hgy
          generalize w1.alloc (.cells #[.int .u8 x, .int .i64 n] 23) = W
          generalize w1.heap.size = gy
          intro hbW hTx hTy hgy
          have hy0 := hTy.cell0
          have hy1 := hTy.cell1
          go_wp2_with (first
            | (go_at_call 10; (with_reducible refine (CY.out _).mono ?_); rintro e W2 ⟨rfl, hb2⟩; have hTx2 := hTx.keep hb2; have hTy2 := hTy.keep hb2; have hB2 := below_keep hbW hb2 (Nat.le_of_lt hTx.lt); have hx0 := hTx2.cell0; have hx1 := hTx2.cell1; have hx2 := hTx2.free0; have hx3 := hTx2.free1; have hy2 := hTy2.cell0; have hy3 := hTy2.cell1)
            | (go_at_call 15; (with_reducible refine (CU.out _).mono ?_); rintro e W3 ⟨rfl, hb3⟩; have hTx3 := hTx2.keep hb3; have hTy3 := hTy2.keep hb3; have hB3 := below_keep hB2 hb3 (Nat.le_of_lt hTx2.lt))
            | (go_at_call 12; (with_reducible refine (alive_any _).mono ?_); rintro e W4 ⟨rfl, hb4⟩; have hTx4 := hTx3.keep hb4; have hTy4 := hTy3.keep hb4; have hB4 := below_keep hB3 hb4 (Nat.le_of_lt hTx3.lt); have hu0 := hTx4.cell0; have hu1 := hTx4.cell1; have hv0 := hTy4.cell0; have hv1 := hTy4.cell1))
          go_ret
          exact ⟨rfl, hB4⟩
        all_goals
          have hN2 := (hN.set0 (.int .u8 x)).set1 (.int .i64 n)
          have hS2 := KC.out _ wr.heap.size 1 (.int .i64 n) (KC.out _ wr.heap.size 0 (.int .u8 x) hS hz) hz
          have hbW := hS2.1
          have hTx := hS2.2.2.2
          have hTy := hN2
          have hgy : B0 < wr.heap.size := hz
          clear hS2 hN2
          revert hbW hTx hTy hgy
          generalize (w1.setCell ⟨wr.heap.size, 0, none⟩ (.int .u8 x)).setCell ⟨wr.heap.size, 1, none⟩ (.int .i64 n) = W
          generalize wr.heap.size = gy
          intro hbW hTx hTy hgy
          have hy0 := hTy.cell0
          have hy1 := hTy.cell1
          go_wp2_with (first
            | (go_at_call 10; (with_reducible refine (CY.out _).mono ?_); rintro e W2 ⟨rfl, hb2⟩; have hTx2 := hTx.keep hb2; have hTy2 := hTy.keep hb2; have hB2 := below_keep hbW hb2 (Nat.le_of_lt hTx.lt); have hx0 := hTx2.cell0; have hx1 := hTx2.cell1; have hx2 := hTx2.free0; have hx3 := hTx2.free1; have hy2 := hTy2.cell0; have hy3 := hTy2.cell1)
            | (go_at_call 15; (with_reducible refine (CU.out _).mono ?_); rintro e W3 ⟨rfl, hb3⟩; have hTx3 := hTx2.keep hb3; have hTy3 := hTy2.keep hb3; have hB3 := below_keep hB2 hb3 (Nat.le_of_lt hTx2.lt))
            | (go_at_call 12; (with_reducible refine (alive_any _).mono ?_); rintro e W4 ⟨rfl, hb4⟩; have hTx4 := hTx3.keep hb4; have hTy4 := hTy3.keep hb4; have hB4 := below_keep hB3 hb4 (Nat.le_of_lt hTx3.lt); have hu0 := hTx4.cell0; have hu1 := hTx4.cell1; have hv0 := hTy4.cell0; have hv1 := hTy4.cell1))
          go_ret
          exact ⟨rfl, hB4⟩
    · have hks : k = t.size := by omega
      subst hks
      rw [List.take_of_length_le (by rw [B.size_len]; omega)] at hu
      have hc0 := hT.cell0
      have hc1 := hT.cell1
      clear hall hmay
      by_cases h5 : n = 5
      · have CU := Lib.hid (fun w => unstuff_short t w hr x n d hu h5)
        subst h5
        go_wp2_with (first
          | (go_at_call 15; (with_reducible refine (CU.out _).mono ?_); rintro e W3 ⟨rfl, hb3⟩; have hT3 := hT.keep hb3; have hB3 := below_keep hb hb3 (Nat.le_of_lt hT.lt); have hd0 := hT3.cell0; have hd1 := hT3.cell1)
          | (go_at_call 12; (with_reducible refine (alive_any _).mono ?_); rintro e W4 ⟨rfl, hb4⟩; have hB4 := below_keep hB3 hb4 (Nat.le_of_lt hT3.lt)))
        go_ret
        exact ⟨rfl, hB4⟩
      · have CU := Lib.hid (fun w => unstuff_yes t w hr x n d hu h5)
        have h5' : ((n : Int) == 5) = false := by simp; omega
        go_wp2_with (first
          | (go_at_call 15; (with_reducible refine (CU.out _).mono ?_); rintro e W3 ⟨rfl, hb3⟩; have hT3 := hT.keep hb3; have hB3 := below_keep hb hb3 (Nat.le_of_lt hT.lt); have hd0 := hT3.cell0; have hd1 := hT3.cell1)
          | (go_at_call 12; (with_reducible refine (alive_any _).mono ?_); rintro e W4 ⟨rfl, hb4⟩; have hB4 := below_keep hB3 hb4 (Nat.le_of_lt hT3.lt)))
        go_ret
        exact ⟨by simp, hB4⟩

set_option maxHeartbeats 8000000 in
theorem cuts_short (t : ByteArray) (w : World) (h1 : t.size ≤ 1000) (hr : B.right t = true) :
    Calls Try.prog 7 #[.string t] w fun e w' => e = .returned (.bool true) ∧ Below w.heap.size w w' := by
  have CR := Lib.hid (fun w => refright_any t w (by unfold maxLen; omega))
  have htz : t.size ≤ 1000 := h1
  obtain ⟨B0, hB⟩ : ∃ b, b = w.heap.size := ⟨_, rfl⟩
  have HB := Lib.hid hB
  rw [← hB]
  clear hB
  go_enter Try.func7, Try.ntmps7
  go_wp2_with (go_at_call 16; (with_reducible refine (CR.out _).mono ?_); rintro e w' ⟨rfl, rfl⟩)
  rw [← HB.out]
  have hT := two_new' w (.int .u8 0) (.int .i64 0) 23 B0 HB.out
  have hb0 := (Below.refl B0 w).alloc (by rw [HB.out]; exact Nat.le_refl _) (.cells #[.int .u8 0, .int .i64 0] 23)
  go_loopw [4, 25] (fun o i wr => ∃ (k x n : Nat) (d : List UInt8), k ≤ t.size ∧ i = .int .i64 k ∧ B.ust (t.data.toList.take k) = some ((x, n), d) ∧ o = .string ⟨d.toArray⟩ ∧ Two wr B0 (.int .u8 x) (.int .i64 n) 23 ∧ Below B0 w wr) (fun _ i _ => t.size - (intOf i).toNat)
  case atStart => exact ⟨0, 0, 0, [], Nat.zero_le _, rfl, rfl, rfl, hT, hb0⟩
  case round =>
    clear hT hb0 h1
    obtain ⟨k, x, n, d, hk, rfl, hu, rfl, hT, hb⟩ := hrel
    have hall := B.all_take (B.right_all hr) k
    have hmay := B.ust_may hall _ _ hu
    have hn5 : n ≤ 5 := by unfold B.may at hmay; simp only at hmay; omega
    by_cases hlt : k < t.size
    · have hS : B.ust (t.data.toList.take (k + 1)) = B.uStep (some ((x, n), d)) t[k] := by rw [B.take_snoc t k hlt, B.ust_snoc, hu]
      have hok : B.okc t[k] = true := List.all_eq_true.1 (B.right_all hr) t[k] (by show t.data[k] ∈ _; simp)
      have CT0 := fun w => step_any x t[k].toNat n w (mayB_of hmay) (bitB_of hok)
      have hmy := B.may_kn hmay ((B.okc_iff _).1 hok)
      have hlen := (B.ust_all hall _ _ hu).2
      rw [List.length_take, B.size_len] at hlen
      clear hall hmay hok
      have q0 : (0 : Int) ≤ (k : Int) := by omega
      have q1 : (k : Int) < (t.size : Int) := by omega
      have hc0 := hT.cell0
      have hc1 := hT.cell1
      have hz := hT.lt
      have KS := Lib.hid (show ∀ wa wb, Below wa.heap.size wa wb → (Below B0 w wa ∧ wa.cell? ⟨B0, 0, none⟩ = some (.int .u8 x) ∧ wa.cell? ⟨B0, 1, none⟩ = some (.int .i64 n) ∧ Two wa B0 (.int .u8 x) (.int .i64 n) 23) → (Below B0 w wb ∧ wb.cell? ⟨B0, 0, none⟩ = some (.int .u8 x) ∧ wb.cell? ⟨B0, 1, none⟩ = some (.int .i64 n) ∧ Two wb B0 (.int .u8 x) (.int .i64 n) 23) from
        fun wa wb k ⟨h1, h2, h3, h4⟩ => ⟨below_keep h1 k (Nat.le_of_lt h4.lt), cell_keep k h2, cell_keep k h3, h4.keep k⟩)
      have KC := Lib.hid (show ∀ wa g i u, (Below B0 w wa ∧ wa.cell? ⟨B0, 0, none⟩ = some (.int .u8 x) ∧ wa.cell? ⟨B0, 1, none⟩ = some (.int .i64 n) ∧ Two wa B0 (.int .u8 x) (.int .i64 n) 23) → B0 < g → (Below B0 w (wa.setCell ⟨g, i, none⟩ u) ∧ (wa.setCell ⟨g, i, none⟩ u).cell? ⟨B0, 0, none⟩ = some (.int .u8 x) ∧ (wa.setCell ⟨g, i, none⟩ u).cell? ⟨B0, 1, none⟩ = some (.int .i64 n) ∧ Two (wa.setCell ⟨g, i, none⟩ u) B0 (.int .u8 x) (.int .i64 n) 23) from
        fun wa g i u ⟨h1, _, _, h4⟩ hg => two_other h1 h4 hg)
      obtain ⟨y, m, hy⟩ : ∃ y m, (y, m) = B.kn (x, n) t[k].toNat := ⟨_, _, rfl⟩
      rw [← hy] at CT0 hmy
      have hym := mayB_of hmy
      have CY : Hid (∀ w, Calls Try.prog 10 #[.agg #[.int .u8 y, .int .i64 m]] w fun e w' => e = .returned (.bool true) ∧ Below w.heap.size w w') := Lib.hid (fun w => by
        have := right3_any y m w
        rwa [hym] at this)
      clear hym hmy
      rcases B.kind_le (x, n) t[k].toNat with hkd | hkd | hkd
      · rw [hkd] at CT0
        have CT := Lib.hid CT0
        clear CT0
        replace hS : B.ust (t.data.toList.take (k + 1)) = some ((y, m), d ++ [t[k]]) := by rw [hS, hy]; unfold B.uStep; simp [hkd]
        have HS := Lib.hid hS
        clear hS hkd hu hy
        go_wp2_with fail
        go_region_held3 (fun w' => Below B0 w w' ∧ w'.cell? ⟨B0, 0, none⟩ = some (.int .u8 x) ∧ w'.cell? ⟨B0, 1, none⟩ = some (.int .i64 n) ∧ Two w' B0 (.int .u8 x) (.int .i64 n) 23)
          (first | assumption | exact ⟨hb.drew, hc0, hc1, hT.drew⟩ | exact KS.out _ _ ((Below.refl _ _).alloc (Nat.le_refl _) _) (by assumption) | exact KC.out _ _ _ _ (KC.out _ _ _ _ (by assumption) hz) hz)
          (first
            | (go_at_call 9; (with_reducible refine (CT.out _).mono ?_); rintro e w1 ⟨rfl, hb1⟩; have hN := (show Two ((wr.alloc (.cells #[.int .u8 0, .int .i64 0] 23)).drew) wr.heap.size (.int .u8 0) (.int .i64 0) 23 from two_new _ _ _ _).keep hb1; have hn0 := hN.cell0; have hn1 := hN.cell1; have hn2 := hN.free0; have hn3 := hN.free1; have hS := KS.out _ _ hb1 (by assumption))
            | (go_at_call 9; (with_reducible refine (CT.out _).mono ?_); rintro e w1 ⟨rfl, hb1⟩; have hS := KS.out _ _ hb1 (by assumption)))
        · have hbW : Below B0 w (w1.alloc (.cells #[.int .u8 y, .int .i64 m] 23)) := hS.1.alloc (Nat.le_of_lt hS.2.2.2.lt) _
          have hTx := hS.2.2.2.alloc (.cells #[.int .u8 y, .int .i64 m] 23)
          have hTy := two_new w1 (.int .u8 y) (.int .i64 m) 23
          have hgy : B0 < w1.heap.size := hS.2.2.2.lt
          revert hbW hTx hTy hgy
          generalize w1.alloc (.cells #[.int .u8 y, .int .i64 m] 23) = W
          generalize w1.heap.size = gy
          intro hbW hTx hTy hgy
          have hy0 := hTy.cell0
          have hy1 := hTy.cell1
          go_wp2_with (go_at_call 10; (with_reducible refine (CY.out _).mono ?_); rintro e W2 ⟨rfl, hb2⟩; have hTx2 := hTx.keep hb2; have hTy2 := hTy.keep hb2; have hB2 := below_keep hbW hb2 (Nat.le_of_lt hTx.lt); have hx0 := hTx2.cell0; have hx1 := hTx2.cell1; have hx2 := hTx2.free0; have hx3 := hTx2.free1; have hy2 := hTy2.cell0; have hy3 := hTy2.cell1)
          go_roundw
          case rel => exact ⟨k + 1, y, m, _, by omega, by go_num, HS.out, val_str (by exact B.out_snoc d t k hlt), (hTx2.set0 _).set1 _, (hB2.setCell (show B0 ≤ B0 from Nat.le_refl _) _).setCell (show B0 ≤ B0 from Nat.le_refl _) _⟩
          case measure => simp [intOf]; omega
        all_goals
          have hN2 := (hN.set0 (.int .u8 y)).set1 (.int .i64 m)
          have hS2 := KC.out _ wr.heap.size 1 (.int .i64 m) (KC.out _ wr.heap.size 0 (.int .u8 y) hS hz) hz
          have hbW := hS2.1
          have hTx := hS2.2.2.2
          have hTy := hN2
          have hgy : B0 < wr.heap.size := hz
          clear hS2 hN2
          revert hbW hTx hTy hgy
          generalize (w1.setCell ⟨wr.heap.size, 0, none⟩ (.int .u8 y)).setCell ⟨wr.heap.size, 1, none⟩ (.int .i64 m) = W
          generalize wr.heap.size = gy
          intro hbW hTx hTy hgy
          have hy0 := hTy.cell0
          have hy1 := hTy.cell1
          go_wp2_with (go_at_call 10; (with_reducible refine (CY.out _).mono ?_); rintro e W2 ⟨rfl, hb2⟩; have hTx2 := hTx.keep hb2; have hTy2 := hTy.keep hb2; have hB2 := below_keep hbW hb2 (Nat.le_of_lt hTx.lt); have hx0 := hTx2.cell0; have hx1 := hTx2.cell1; have hx2 := hTx2.free0; have hx3 := hTx2.free1; have hy2 := hTy2.cell0; have hy3 := hTy2.cell1)
          go_roundw
          case rel => exact ⟨k + 1, y, m, _, by omega, by go_num, HS.out, val_str (by exact B.out_snoc d t k hlt), (hTx2.set0 _).set1 _, (hB2.setCell (show B0 ≤ B0 from Nat.le_refl _) _).setCell (show B0 ≤ B0 from Nat.le_refl _) _⟩
          case measure => simp [intOf]; omega
      · rw [hkd] at CT0
        have CT := Lib.hid CT0
        clear CT0
        replace hS : B.ust (t.data.toList.take (k + 1)) = some ((y, m), d) := by rw [hS, hy]; unfold B.uStep; simp [hkd]
        have HS := Lib.hid hS
        clear hS hkd hu hy
        go_wp2_with fail
        go_region_held3 (fun w' => Below B0 w w' ∧ w'.cell? ⟨B0, 0, none⟩ = some (.int .u8 x) ∧ w'.cell? ⟨B0, 1, none⟩ = some (.int .i64 n) ∧ Two w' B0 (.int .u8 x) (.int .i64 n) 23)
          (first | assumption | exact ⟨hb.drew, hc0, hc1, hT.drew⟩ | exact KS.out _ _ ((Below.refl _ _).alloc (Nat.le_refl _) _) (by assumption) | exact KC.out _ _ _ _ (KC.out _ _ _ _ (by assumption) hz) hz)
          (first
            | (go_at_call 9; (with_reducible refine (CT.out _).mono ?_); rintro e w1 ⟨rfl, hb1⟩; have hN := (show Two ((wr.alloc (.cells #[.int .u8 0, .int .i64 0] 23)).drew) wr.heap.size (.int .u8 0) (.int .i64 0) 23 from two_new _ _ _ _).keep hb1; have hn0 := hN.cell0; have hn1 := hN.cell1; have hn2 := hN.free0; have hn3 := hN.free1; have hS := KS.out _ _ hb1 (by assumption))
            | (go_at_call 9; (with_reducible refine (CT.out _).mono ?_); rintro e w1 ⟨rfl, hb1⟩; have hS := KS.out _ _ hb1 (by assumption)))
        · have hbW : Below B0 w (w1.alloc (.cells #[.int .u8 y, .int .i64 m] 23)) := hS.1.alloc (Nat.le_of_lt hS.2.2.2.lt) _
          have hTx := hS.2.2.2.alloc (.cells #[.int .u8 y, .int .i64 m] 23)
          have hTy := two_new w1 (.int .u8 y) (.int .i64 m) 23
          have hgy : B0 < w1.heap.size := hS.2.2.2.lt
          revert hbW hTx hTy hgy
          generalize w1.alloc (.cells #[.int .u8 y, .int .i64 m] 23) = W
          generalize w1.heap.size = gy
          intro hbW hTx hTy hgy
          have hy0 := hTy.cell0
          have hy1 := hTy.cell1
          go_wp2_with (go_at_call 10; (with_reducible refine (CY.out _).mono ?_); rintro e W2 ⟨rfl, hb2⟩; have hTx2 := hTx.keep hb2; have hTy2 := hTy.keep hb2; have hB2 := below_keep hbW hb2 (Nat.le_of_lt hTx.lt); have hx0 := hTx2.cell0; have hx1 := hTx2.cell1; have hx2 := hTx2.free0; have hx3 := hTx2.free1; have hy2 := hTy2.cell0; have hy3 := hTy2.cell1)
          go_roundw
          case rel => exact ⟨k + 1, y, m, _, by omega, by go_num, HS.out, rfl, (hTx2.set0 _).set1 _, (hB2.setCell (show B0 ≤ B0 from Nat.le_refl _) _).setCell (show B0 ≤ B0 from Nat.le_refl _) _⟩
          case measure => simp [intOf]; omega
        all_goals
          have hN2 := (hN.set0 (.int .u8 y)).set1 (.int .i64 m)
          have hS2 := KC.out _ wr.heap.size 1 (.int .i64 m) (KC.out _ wr.heap.size 0 (.int .u8 y) hS hz) hz
          have hbW := hS2.1
          have hTx := hS2.2.2.2
          have hTy := hN2
          have hgy : B0 < wr.heap.size := hz
          clear hS2 hN2
          revert hbW hTx hTy hgy
          generalize (w1.setCell ⟨wr.heap.size, 0, none⟩ (.int .u8 y)).setCell ⟨wr.heap.size, 1, none⟩ (.int .i64 m) = W
          generalize wr.heap.size = gy
          intro hbW hTx hTy hgy
          have hy0 := hTy.cell0
          have hy1 := hTy.cell1
          go_wp2_with (go_at_call 10; (with_reducible refine (CY.out _).mono ?_); rintro e W2 ⟨rfl, hb2⟩; have hTx2 := hTx.keep hb2; have hTy2 := hTy.keep hb2; have hB2 := below_keep hbW hb2 (Nat.le_of_lt hTx.lt); have hx0 := hTx2.cell0; have hx1 := hTx2.cell1; have hx2 := hTx2.free0; have hx3 := hTx2.free1; have hy2 := hTy2.cell0; have hy3 := hTy2.cell1)
          go_roundw
          case rel => exact ⟨k + 1, y, m, _, by omega, by go_num, HS.out, rfl, (hTx2.set0 _).set1 _, (hB2.setCell (show B0 ≤ B0 from Nat.le_refl _) _).setCell (show B0 ≤ B0 from Nat.le_refl _) _⟩
          case measure => simp [intOf]; omega
      · rw [hkd] at CT0
        have CT := Lib.hid CT0
        clear CT0
        replace hS : B.ust t.data.toList = none := B.ust_take _ (k + 1) (by rw [hS]; unfold B.uStep; simp [hkd])
        have CU := Lib.hid (fun w => unstuff_err t w hr hS)
        have hxy : (y, m) = (x, n) := by
          rw [hy]; unfold B.kind at hkd; unfold B.kn
          split at hkd
          · split at hkd
            · rename_i e1 e2; rw [if_pos e1, if_pos e2]
            · omega
          · split at hkd <;> omega
        obtain ⟨rfl, rfl⟩ : x = y ∧ n = m := by simp at hxy; omega
        clear hS hkd hu hxy
        go_wp2_with fail
        go_region_held3 (fun w' => Below B0 w w' ∧ w'.cell? ⟨B0, 0, none⟩ = some (.int .u8 x) ∧ w'.cell? ⟨B0, 1, none⟩ = some (.int .i64 n) ∧ Two w' B0 (.int .u8 x) (.int .i64 n) 23)
          (first | assumption | exact ⟨hb.drew, hc0, hc1, hT.drew⟩ | exact KS.out _ _ ((Below.refl _ _).alloc (Nat.le_refl _) _) (by assumption) | exact KC.out _ _ _ _ (KC.out _ _ _ _ (by assumption) hz) hz)
          (first
            | (go_at_call 9; (with_reducible refine (CT.out _).mono ?_); rintro e w1 ⟨rfl, hb1⟩; have hN := (show Two ((wr.alloc (.cells #[.int .u8 0, .int .i64 0] 23)).drew) wr.heap.size (.int .u8 0) (.int .i64 0) 23 from two_new _ _ _ _).keep hb1; have hn0 := hN.cell0; have hn1 := hN.cell1; have hn2 := hN.free0; have hn3 := hN.free1; have hS := KS.out _ _ hb1 (by assumption))
            | (go_at_call 9; (with_reducible refine (CT.out _).mono ?_); rintro e w1 ⟨rfl, hb1⟩; have hS := KS.out _ _ hb1 (by assumption)))
        · have hbW : Below B0 w (w1.alloc (.cells #[.int .u8 x, .int .i64 n] 23)) := hS.1.alloc (Nat.le_of_lt hS.2.2.2.lt) _
          have hTx := hS.2.2.2.alloc (.cells #[.int .u8 x, .int .i64 n] 23)
          have hTy := two_new w1 (.int .u8 x) (.int .i64 n) 23
          have hgy : B0 < w1.heap.size := hS.2.2.2.lt
          revert hbW hTx hTy hgy
          generalize w1.alloc (.cells #[.int .u8 x, .int .i64 n] 23) = W
          generalize w1.heap.size = gy
          intro hbW hTx hTy hgy
          have hy0 := hTy.cell0
          have hy1 := hTy.cell1
          go_wp2_with (first
            | (go_at_call 10; (with_reducible refine (CY.out _).mono ?_); rintro e W2 ⟨rfl, hb2⟩; have hTx2 := hTx.keep hb2; have hTy2 := hTy.keep hb2; have hB2 := below_keep hbW hb2 (Nat.le_of_lt hTx.lt); have hx0 := hTx2.cell0; have hx1 := hTx2.cell1; have hx2 := hTx2.free0; have hx3 := hTx2.free1; have hy2 := hTy2.cell0; have hy3 := hTy2.cell1)
            | (go_at_call 15; (with_reducible refine (CU.out _).mono ?_); rintro e W3 ⟨rfl, hb3⟩; have hTx3 := hTx2.keep hb3; have hTy3 := hTy2.keep hb3; have hB3 := below_keep hB2 hb3 (Nat.le_of_lt hTx2.lt))
            | (go_at_call 12; (with_reducible refine (alive_any _).mono ?_); rintro e W4 ⟨rfl, hb4⟩; have hTx4 := hTx3.keep hb4; have hTy4 := hTy3.keep hb4; have hB4 := below_keep hB3 hb4 (Nat.le_of_lt hTx3.lt); have hu0 := hTx4.cell0; have hu1 := hTx4.cell1; have hv0 := hTy4.cell0; have hv1 := hTy4.cell1))
          go_ret
          exact ⟨rfl, hB4⟩
        all_goals
          have hN2 := (hN.set0 (.int .u8 x)).set1 (.int .i64 n)
          have hS2 := KC.out _ wr.heap.size 1 (.int .i64 n) (KC.out _ wr.heap.size 0 (.int .u8 x) hS hz) hz
          have hbW := hS2.1
          have hTx := hS2.2.2.2
          have hTy := hN2
          have hgy : B0 < wr.heap.size := hz
          clear hS2 hN2
          revert hbW hTx hTy hgy
          generalize (w1.setCell ⟨wr.heap.size, 0, none⟩ (.int .u8 x)).setCell ⟨wr.heap.size, 1, none⟩ (.int .i64 n) = W
          generalize wr.heap.size = gy
          intro hbW hTx hTy hgy
          have hy0 := hTy.cell0
          have hy1 := hTy.cell1
          go_wp2_with (first
            | (go_at_call 10; (with_reducible refine (CY.out _).mono ?_); rintro e W2 ⟨rfl, hb2⟩; have hTx2 := hTx.keep hb2; have hTy2 := hTy.keep hb2; have hB2 := below_keep hbW hb2 (Nat.le_of_lt hTx.lt); have hx0 := hTx2.cell0; have hx1 := hTx2.cell1; have hx2 := hTx2.free0; have hx3 := hTx2.free1; have hy2 := hTy2.cell0; have hy3 := hTy2.cell1)
            | (go_at_call 15; (with_reducible refine (CU.out _).mono ?_); rintro e W3 ⟨rfl, hb3⟩; have hTx3 := hTx2.keep hb3; have hTy3 := hTy2.keep hb3; have hB3 := below_keep hB2 hb3 (Nat.le_of_lt hTx2.lt))
            | (go_at_call 12; (with_reducible refine (alive_any _).mono ?_); rintro e W4 ⟨rfl, hb4⟩; have hTx4 := hTx3.keep hb4; have hTy4 := hTy3.keep hb4; have hB4 := below_keep hB3 hb4 (Nat.le_of_lt hTx3.lt); have hu0 := hTx4.cell0; have hu1 := hTx4.cell1; have hv0 := hTy4.cell0; have hv1 := hTy4.cell1))
          go_ret
          exact ⟨rfl, hB4⟩
    · have hks : k = t.size := by omega
      subst hks
      rw [List.take_of_length_le (by rw [B.size_len]; omega)] at hu
      have hc0 := hT.cell0
      have hc1 := hT.cell1
      clear hall hmay
      by_cases h5 : n = 5
      · have CU := Lib.hid (fun w => unstuff_short t w hr x n d hu h5)
        subst h5
        go_wp2_with (first
          | (go_at_call 15; (with_reducible refine (CU.out _).mono ?_); rintro e W3 ⟨rfl, hb3⟩; have hT3 := hT.keep hb3; have hB3 := below_keep hb hb3 (Nat.le_of_lt hT.lt); have hd0 := hT3.cell0; have hd1 := hT3.cell1)
          | (go_at_call 12; (with_reducible refine (alive_any _).mono ?_); rintro e W4 ⟨rfl, hb4⟩; have hB4 := below_keep hB3 hb4 (Nat.le_of_lt hT3.lt)))
        go_ret
        exact ⟨rfl, hB4⟩
      · have CU := Lib.hid (fun w => unstuff_yes t w hr x n d hu h5)
        have h5' : ((n : Int) == 5) = false := by simp; omega
        go_wp2_with (first
          | (go_at_call 15; (with_reducible refine (CU.out _).mono ?_); rintro e W3 ⟨rfl, hb3⟩; have hT3 := hT.keep hb3; have hB3 := below_keep hb hb3 (Nat.le_of_lt hT.lt); have hd0 := hT3.cell0; have hd1 := hT3.cell1)
          | (go_at_call 12; (with_reducible refine (alive_any _).mono ?_); rintro e W4 ⟨rfl, hb4⟩; have hB4 := below_keep hB3 hb4 (Nat.le_of_lt hT3.lt)))
        go_ret
        exact ⟨by simp, hB4⟩

theorem cutsLaw_any (s : ByteArray) (w : World) :
    Calls Try.prog 7 #[.string s] w fun e w' => e = .returned (.bool true) ∧ Below w.heap.size w w' := by
  obtain ⟨t, htz, ht⟩ := cut_at s 1000
  cases hr : B.right t
  · exact cuts_no s t w htz ht hr
  · rcases ht with ⟨h1, ht⟩ | ⟨h1, rfl⟩
    · exact cuts_long s t w h1 ht hr
    · exact cuts_short s w h1 hr
end Go.Proofs.Ytagboeejegbcgaa
