/- The walk of the reference's Unstuff (layer 3). -/
import Derived.Test.YtagboeejegbcgaaData
import Derived.Test.YtagboeejegbcgaaStep3
import Derived.Deep.RegionHeld3
import Derived.Lib.Strings
import Derived.Deep.DrawnRows
namespace Go.Proofs.Ytagboeejegbcgaa
open Go.RowKit Go.Lib
attribute [local go_sem ↓] Go.wp_at_zero Go.wp_at_succ

theorem below_keep {B : Nat} {a w w' : World} (h : Below B a w) (k : Below w.heap.size w w') (hz : B ≤ w.heap.size) : Below B a w' := h.trans (k.mono hz)
theorem cell_keep {w w' : World} (k : Below w.heap.size w w') {p : Addr} {v : Value} (h : w.cell? p = some v) : w'.cell? p = some v := by
  rw [k.cell (cell_lt h)]; exact h
theorem cell_new {w : World} {p : Addr} {v : Value} (h : w.cell? p = some v) : ∀ o, (w.alloc o).cell? p = some v := fun o => by
  rw [World.cell?_alloc_lt _ _ _ (cell_lt h)]; exact h
theorem Two.keep {w w' : World} {g : Nat} {u v : Value} {t : TypeId} (h : Two w g u v t) (k : Below w.heap.size w w') : Two w' g u v t := h.below k h.lt

theorem B.out_snoc (d : List UInt8) (s : ByteArray) (k : Nat) (h : k < s.size) : (⟨d.toArray⟩ : ByteArray) ++ s.extract k (k + 1) = ⟨(d ++ [s[k]]).toArray⟩ := by
  apply ByteArray.ext; apply Array.ext'
  rw [B.cat_list, Lib.extract_data]
  have e : List.take (k + 1 - k) (List.drop k s.data.toList) = [s[k]] := by
    rw [List.drop_eq_getElem_cons (by simpa using h), show k + 1 - k = 1 from by omega]; rfl
  rw [e]

theorem two_other {w wa : World} {B0 g i : Nat} {u a b : Value} {t : TypeId} (h1 : Below B0 w wa) (h4 : Two wa B0 a b t) (hg : B0 < g) :
    Below B0 w (wa.setCell ⟨g, i, none⟩ u) ∧ (wa.setCell ⟨g, i, none⟩ u).cell? ⟨B0, 0, none⟩ = some a ∧ (wa.setCell ⟨g, i, none⟩ u).cell? ⟨B0, 1, none⟩ = some b ∧ Two (wa.setCell ⟨g, i, none⟩ u) B0 a b t := by
  have hne : B0 ≠ g := by omega
  have h4' : Two (wa.setCell ⟨g, i, none⟩ u) B0 a b t := by
    show (wa.setCell ⟨g, i, none⟩ u).heap[B0]? = _
    rw [Below.heap_setCell _ _ _ _ hne]; exact h4
  exact ⟨h1.setCell (show B0 ≤ g by omega) _, h4'.cell0, h4'.cell1, h4'⟩

set_option maxHeartbeats 4000000 in
theorem refunstuff_any (s : ByteArray) (w : World) (hs : s.size ≤ 4010) (hr : s.data.toList.all B.okc = true) :
    Calls Try.prog 17 #[.string s] w fun e w' => Below w.heap.size w w' ∧
      ((B.ust s.data.toList = none ∧ e = .returned (.tuple #[.string ⟨#[]⟩, .int .i64 10])) ∨
       (∃ x d, B.ust s.data.toList = some ((x, 5), d) ∧ e = .returned (.tuple #[.string ⟨#[]⟩, .int .i64 3])) ∨
       (∃ x n d, B.ust s.data.toList = some ((x, n), d) ∧ n ≠ 5 ∧ e = .returned (.tuple #[.string ⟨d.toArray⟩, .int .i64 0]))) := by
  obtain ⟨B0, hB⟩ : ∃ b, b = w.heap.size := ⟨_, rfl⟩
  have HB := Lib.hid hB
  rw [← hB]
  clear hB
  go_enter Try.func17, Try.ntmps17
  go_wp2
  rw [← HB.out]
  have hT := two_new' w (.int .u8 0) (.int .i64 0) 23 B0 HB.out
  have hb0 := (Below.refl B0 w).alloc (by rw [HB.out]; exact Nat.le_refl _) (.cells #[.int .u8 0, .int .i64 0] 23)
  go_loopw [5, 6] (fun o i wr => ∃ (k x n : Nat) (d : List UInt8), k ≤ s.size ∧ i = .int .i64 k ∧ B.ust (s.data.toList.take k) = some ((x, n), d) ∧ o = .string ⟨d.toArray⟩ ∧ Two wr B0 (.int .u8 x) (.int .i64 n) 23 ∧ Below B0 w wr) (fun _ i _ => s.size - (intOf i).toNat)
  case atStart => exact ⟨0, 0, 0, [], Nat.zero_le _, rfl, rfl, rfl, hT, hb0⟩
  case round =>
    clear hT hb0
    obtain ⟨k, x, n, d, hk, rfl, hu, rfl, hT, hb⟩ := hrel
    by_cases hlt : k < s.size
    · have hall := B.all_take hr k
      have hmay := B.ust_may hall _ _ hu
      have hn5 : n ≤ 5 := by unfold B.may at hmay; simp only at hmay; omega
      have hS : B.ust (s.data.toList.take (k + 1)) = B.uStep (some ((x, n), d)) s[k] := by rw [B.take_snoc s k hlt, B.ust_snoc, hu]
      have CT0 := fun w => refstep_any x s[k].toNat n w hn5
      have hlen := (B.ust_all hall _ _ hu).2
      rw [List.length_take, B.size_len] at hlen
      clear hall hmay
      have q0 : (0 : Int) ≤ (k : Int) := by omega
      have q1 : (k : Int) < (s.size : Int) := by omega
      have hc0 := hT.cell0
      have hc1 := hT.cell1
      have hz := hT.lt
      have KS := Lib.hid (show ∀ wa wb, Below wa.heap.size wa wb → (Below B0 w wa ∧ wa.cell? ⟨B0, 0, none⟩ = some (.int .u8 x) ∧ wa.cell? ⟨B0, 1, none⟩ = some (.int .i64 n) ∧ Two wa B0 (.int .u8 x) (.int .i64 n) 23) → (Below B0 w wb ∧ wb.cell? ⟨B0, 0, none⟩ = some (.int .u8 x) ∧ wb.cell? ⟨B0, 1, none⟩ = some (.int .i64 n) ∧ Two wb B0 (.int .u8 x) (.int .i64 n) 23) from
        fun wa wb k ⟨h1, h2, h3, h4⟩ => ⟨below_keep h1 k (Nat.le_of_lt h4.lt), cell_keep k h2, cell_keep k h3, h4.keep k⟩)
      have KC := Lib.hid (show ∀ wa g i u, (Below B0 w wa ∧ wa.cell? ⟨B0, 0, none⟩ = some (.int .u8 x) ∧ wa.cell? ⟨B0, 1, none⟩ = some (.int .i64 n) ∧ Two wa B0 (.int .u8 x) (.int .i64 n) 23) → B0 < g → (Below B0 w (wa.setCell ⟨g, i, none⟩ u) ∧ (wa.setCell ⟨g, i, none⟩ u).cell? ⟨B0, 0, none⟩ = some (.int .u8 x) ∧ (wa.setCell ⟨g, i, none⟩ u).cell? ⟨B0, 1, none⟩ = some (.int .i64 n) ∧ Two (wa.setCell ⟨g, i, none⟩ u) B0 (.int .u8 x) (.int .i64 n) 23) from
        fun wa g i u ⟨h1, _, _, h4⟩ hg => two_other h1 h4 hg)
      obtain ⟨y, m, hy⟩ : ∃ y m, (y, m) = B.kn (x, n) s[k].toNat := ⟨_, _, rfl⟩
      rw [← hy] at CT0
      rcases B.kind_le (x, n) s[k].toNat with hkd | hkd | hkd
      · rw [hkd] at CT0
        have CT := Lib.hid CT0
        clear CT0
        replace hS : B.ust (s.data.toList.take (k + 1)) = some ((y, m), d ++ [s[k]]) := by rw [hS, hy]; unfold B.uStep; simp [hkd]
        have HS := Lib.hid hS
        clear hS hkd hu hy
        go_wp2_with fail
        go_region_held3 (fun w' => Below B0 w w' ∧ w'.cell? ⟨B0, 0, none⟩ = some (.int .u8 x) ∧ w'.cell? ⟨B0, 1, none⟩ = some (.int .i64 n) ∧ Two w' B0 (.int .u8 x) (.int .i64 n) 23)
          (first | assumption | exact ⟨hb.drew, hc0, hc1, hT.drew⟩ | exact KS.out _ _ ((Below.refl _ _).alloc (Nat.le_refl _) _) (by assumption) | exact KC.out _ _ _ _ (KC.out _ _ _ _ (by assumption) hz) hz)
          (first
            | (go_at_call 13; (with_reducible refine (CT.out _).mono ?_); rintro e w1 ⟨rfl, hb1⟩; have hN := (show Two ((wr.alloc (.cells #[.int .u8 0, .int .i64 0] 23)).drew) wr.heap.size (.int .u8 0) (.int .i64 0) 23 from two_new _ _ _ _).keep hb1; have hn0 := hN.cell0; have hn1 := hN.cell1; have hn2 := hN.free0; have hn3 := hN.free1; have hS := KS.out _ _ hb1 (by assumption))
            | (go_at_call 13; (with_reducible refine (CT.out _).mono ?_); rintro e w1 ⟨rfl, hb1⟩; have hS := KS.out _ _ hb1 (by assumption)))
        · have hbW : Below B0 w (w1.alloc (.cells #[.int .u8 y, .int .i64 m] 23)) := hS.1.alloc (Nat.le_of_lt hS.2.2.2.lt) _
          have hTx := hS.2.2.2.alloc (.cells #[.int .u8 y, .int .i64 m] 23)
          have hTy := two_new w1 (.int .u8 y) (.int .i64 m) 23
          have hgy : B0 < w1.heap.size := hS.2.2.2.lt
          revert hbW hTx hTy hgy
          generalize w1.alloc (.cells #[.int .u8 y, .int .i64 m] 23) = W
          generalize w1.heap.size = gy
          intro hbW hTx hTy hgy
          have hy0 := hTy.cell0
          have hy1 := hTy.cell1
          have hx0 := hTx.cell0
          have hx1 := hTx.cell1
          have hx2 := hTx.free0
          have hx3 := hTx.free1
          have HX := Lib.hid hTx
          have HW := Lib.hid hbW
          clear hbW hTx hTy
          go_wp2
          go_roundw
          case rel => exact ⟨k + 1, y, m, _, by omega, by go_num, HS.out, val_str (by exact B.out_snoc d s k hlt), (HX.out.set0 _).set1 _, (HW.out.setCell (show B0 ≤ B0 from Nat.le_refl _) _).setCell (show B0 ≤ B0 from Nat.le_refl _) _⟩
          case measure => simp [intOf]; omega
        all_goals
          have hN2 := (hN.set0 (.int .u8 y)).set1 (.int .i64 m)
          have hS2 := KC.out _ wr.heap.size 1 (.int .i64 m) (KC.out _ wr.heap.size 0 (.int .u8 y) hS hz) hz
          have hbW := hS2.1
          have hTx := hS2.2.2.2
          have hTy := hN2
          have hgy : B0 < wr.heap.size := hz
          clear hS2 hN2
          revert hbW hTx hTy hgy
          generalize (w1.setCell ⟨wr.heap.size, 0, none⟩ (.int .u8 y)).setCell ⟨wr.heap.size, 1, none⟩ (.int .i64 m) = W
          generalize wr.heap.size = gy
          intro hbW hTx hTy hgy
          have hy0 := hTy.cell0
          have hy1 := hTy.cell1
          have hx0 := hTx.cell0
          have hx1 := hTx.cell1
          have hx2 := hTx.free0
          have hx3 := hTx.free1
          have HX := Lib.hid hTx
          have HW := Lib.hid hbW
          clear hbW hTx hTy
          go_wp2
          go_roundw
          case rel => exact ⟨k + 1, y, m, _, by omega, by go_num, HS.out, val_str (by exact B.out_snoc d s k hlt), (HX.out.set0 _).set1 _, (HW.out.setCell (show B0 ≤ B0 from Nat.le_refl _) _).setCell (show B0 ≤ B0 from Nat.le_refl _) _⟩
          case measure => simp [intOf]; omega
      · rw [hkd] at CT0
        have CT := Lib.hid CT0
        clear CT0
        replace hS : B.ust (s.data.toList.take (k + 1)) = some ((y, m), d) := by rw [hS, hy]; unfold B.uStep; simp [hkd]
        have HS := Lib.hid hS
        clear hS hkd hu hy
        go_wp2_with fail
        go_region_held3 (fun w' => Below B0 w w' ∧ w'.cell? ⟨B0, 0, none⟩ = some (.int .u8 x) ∧ w'.cell? ⟨B0, 1, none⟩ = some (.int .i64 n) ∧ Two w' B0 (.int .u8 x) (.int .i64 n) 23)
          (first | assumption | exact ⟨hb.drew, hc0, hc1, hT.drew⟩ | exact KS.out _ _ ((Below.refl _ _).alloc (Nat.le_refl _) _) (by assumption) | exact KC.out _ _ _ _ (KC.out _ _ _ _ (by assumption) hz) hz)
          (first
            | (go_at_call 13; (with_reducible refine (CT.out _).mono ?_); rintro e w1 ⟨rfl, hb1⟩; have hN := (show Two ((wr.alloc (.cells #[.int .u8 0, .int .i64 0] 23)).drew) wr.heap.size (.int .u8 0) (.int .i64 0) 23 from two_new _ _ _ _).keep hb1; have hn0 := hN.cell0; have hn1 := hN.cell1; have hn2 := hN.free0; have hn3 := hN.free1; have hS := KS.out _ _ hb1 (by assumption))
            | (go_at_call 13; (with_reducible refine (CT.out _).mono ?_); rintro e w1 ⟨rfl, hb1⟩; have hS := KS.out _ _ hb1 (by assumption)))
        · have hbW : Below B0 w (w1.alloc (.cells #[.int .u8 y, .int .i64 m] 23)) := hS.1.alloc (Nat.le_of_lt hS.2.2.2.lt) _
          have hTx := hS.2.2.2.alloc (.cells #[.int .u8 y, .int .i64 m] 23)
          have hTy := two_new w1 (.int .u8 y) (.int .i64 m) 23
          have hgy : B0 < w1.heap.size := hS.2.2.2.lt
          revert hbW hTx hTy hgy
          generalize w1.alloc (.cells #[.int .u8 y, .int .i64 m] 23) = W
          generalize w1.heap.size = gy
          intro hbW hTx hTy hgy
          have hy0 := hTy.cell0
          have hy1 := hTy.cell1
          have hx0 := hTx.cell0
          have hx1 := hTx.cell1
          have hx2 := hTx.free0
          have hx3 := hTx.free1
          have HX := Lib.hid hTx
          have HW := Lib.hid hbW
          clear hbW hTx hTy
          go_wp2
          go_roundw
          case rel => exact ⟨k + 1, y, m, _, by omega, by go_num, HS.out, rfl, (HX.out.set0 _).set1 _, (HW.out.setCell (show B0 ≤ B0 from Nat.le_refl _) _).setCell (show B0 ≤ B0 from Nat.le_refl _) _⟩
          case measure => simp [intOf]; omega
        all_goals
          have hN2 := (hN.set0 (.int .u8 y)).set1 (.int .i64 m)
          have hS2 := KC.out _ wr.heap.size 1 (.int .i64 m) (KC.out _ wr.heap.size 0 (.int .u8 y) hS hz) hz
          have hbW := hS2.1
          have hTx := hS2.2.2.2
          have hTy := hN2
          have hgy : B0 < wr.heap.size := hz
          clear hS2 hN2
          revert hbW hTx hTy hgy
          generalize (w1.setCell ⟨wr.heap.size, 0, none⟩ (.int .u8 y)).setCell ⟨wr.heap.size, 1, none⟩ (.int .i64 m) = W
          generalize wr.heap.size = gy
          intro hbW hTx hTy hgy
          have hy0 := hTy.cell0
          have hy1 := hTy.cell1
          have hx0 := hTx.cell0
          have hx1 := hTx.cell1
          have hx2 := hTx.free0
          have hx3 := hTx.free1
          have HX := Lib.hid hTx
          have HW := Lib.hid hbW
          clear hbW hTx hTy
          go_wp2
          go_roundw
          case rel => exact ⟨k + 1, y, m, _, by omega, by go_num, HS.out, rfl, (HX.out.set0 _).set1 _, (HW.out.setCell (show B0 ≤ B0 from Nat.le_refl _) _).setCell (show B0 ≤ B0 from Nat.le_refl _) _⟩
          case measure => simp [intOf]; omega
      · rw [hkd] at CT0
        have CT := Lib.hid CT0
        clear CT0
        replace hS : B.ust s.data.toList = none := B.ust_take _ (k + 1) (by rw [hS]; unfold B.uStep; simp [hkd])
        have HS := Lib.hid hS
        clear hS hkd hu hy
        go_wp2_with fail
        go_region_held3 (fun w' => Below B0 w w' ∧ w'.cell? ⟨B0, 0, none⟩ = some (.int .u8 x) ∧ w'.cell? ⟨B0, 1, none⟩ = some (.int .i64 n) ∧ Two w' B0 (.int .u8 x) (.int .i64 n) 23)
          (first | assumption | exact ⟨hb.drew, hc0, hc1, hT.drew⟩ | exact KS.out _ _ ((Below.refl _ _).alloc (Nat.le_refl _) _) (by assumption) | exact KC.out _ _ _ _ (KC.out _ _ _ _ (by assumption) hz) hz)
          (first
            | (go_at_call 13; (with_reducible refine (CT.out _).mono ?_); rintro e w1 ⟨rfl, hb1⟩; have hN := (show Two ((wr.alloc (.cells #[.int .u8 0, .int .i64 0] 23)).drew) wr.heap.size (.int .u8 0) (.int .i64 0) 23 from two_new _ _ _ _).keep hb1; have hn0 := hN.cell0; have hn1 := hN.cell1; have hn2 := hN.free0; have hn3 := hN.free1; have hS := KS.out _ _ hb1 (by assumption))
            | (go_at_call 13; (with_reducible refine (CT.out _).mono ?_); rintro e w1 ⟨rfl, hb1⟩; have hS := KS.out _ _ hb1 (by assumption)))
        · have hbW : Below B0 w (w1.alloc (.cells #[.int .u8 y, .int .i64 m] 23)) := hS.1.alloc (Nat.le_of_lt hS.2.2.2.lt) _
          have hTx := hS.2.2.2.alloc (.cells #[.int .u8 y, .int .i64 m] 23)
          have hTy := two_new w1 (.int .u8 y) (.int .i64 m) 23
          have hgy : B0 < w1.heap.size := hS.2.2.2.lt
          revert hbW hTx hTy hgy
          generalize w1.alloc (.cells #[.int .u8 y, .int .i64 m] 23) = W
          generalize w1.heap.size = gy
          intro hbW hTx hTy hgy
          have hx0 := hTy.cell0
          have hx1 := hTy.cell1
          have hbW' := Lib.hid hbW
          clear hbW hTx hTy hgy
          go_wp2
          go_ret2
          exact ⟨hbW'.out, .inl ⟨HS.out, rfl⟩⟩
        all_goals
          have hN2 := (hN.set0 (.int .u8 y)).set1 (.int .i64 m)
          have hS2 := KC.out _ wr.heap.size 1 (.int .i64 m) (KC.out _ wr.heap.size 0 (.int .u8 y) hS hz) hz
          have hbW := hS2.1
          have hTx := hS2.2.2.2
          have hTy := hN2
          have hgy : B0 < wr.heap.size := hz
          clear hS2 hN2
          revert hbW hTx hTy hgy
          generalize (w1.setCell ⟨wr.heap.size, 0, none⟩ (.int .u8 y)).setCell ⟨wr.heap.size, 1, none⟩ (.int .i64 m) = W
          generalize wr.heap.size = gy
          intro hbW hTx hTy hgy
          have hx0 := hTy.cell0
          have hx1 := hTy.cell1
          have hbW' := Lib.hid hbW
          clear hbW hTx hTy hgy
          go_wp2
          go_ret2
          exact ⟨hbW'.out, .inl ⟨HS.out, rfl⟩⟩
    · have hks : k = s.size := by omega
      subst hks
      rw [List.take_of_length_le (by rw [B.size_len]; omega)] at hu
      have hc0 := hT.cell0
      have hc1 := hT.cell1
      clear hT
      by_cases h5 : n = 5
      · subst h5
        go_wp2
        go_ret2
        exact ⟨hb, .inr (.inl ⟨x, d, hu, rfl⟩)⟩
      · have h5' : ((n : Int) == 5) = false := by simp; omega
        go_wp2
        go_ret2
        exact ⟨hb, .inr (.inr ⟨x, n, d, hu, h5, rfl⟩)⟩
end Go.Proofs.Ytagboeejegbcgaa
