/- The reference's Parse (layer 4), of any row that may be. -/
import Derived.Test.YtdpfmpbnahhjmaaRefSt
import Derived.Test.YtdpfmpbnahhjmaaRef4e
import Derived.Test.YtdpfmpbnahhjmaaParse4
import Derived.Deep.RegionHeld3
import Derived.Deep.DrawnRows
namespace Go.Proofs.Ytdpfmpbnahhjmaa
open Go.RowKit Go.Lib
attribute [local go_sem ↓] Go.wp_at_zero Go.wp_at_succ

/-- the answer's block, and what was unstuffed -/
def PS (w : World) (g g5 : Nat) (bits : ByteArray) (m e : Int) : Prop := Blk w g frZ 24 ∧ Blk w g5 (tV bits m e) 71 ∧ g < g5
theorem PS.keep {w wb : World} {g g5 : Nat} {bits : ByteArray} {m e : Int} (h : PS w g g5 bits m e) (k : Below w.heap.size w wb) : PS wb g g5 bits m e := ⟨h.1.keep k, h.2.1.keep k, h.2.2⟩

set_option maxRecDepth 100000 in
set_option maxHeartbeats 16000000 in
theorem refparse_err (s bits : ByteArray) (m er : Int) (w : World) (he : (er != 0) = true)
    (CSt : Hid (∀ w, Calls Try.prog 41 #[.string s] w fun x w' => x = .returned (.agg (tV bits m er)) ∧ Below w.heap.size w w')) :
    Calls Try.prog 23 #[.string s] w fun x w' => x = .returned (.tuple #[.agg frZ, .int .i64 0, .int .i64 er]) ∧ Below w.heap.size w w' := by
  obtain ⟨B0, hB0⟩ : ∃ b, b = w.heap.size := ⟨_, rfl⟩
  have HB := Lib.hid hB0
  rw [← hB0]
  clear hB0
  go_enter Try.func23, Try.ntmps23
  go_wp2_with (go_at_call 41; go_loud ((with_reducible refine (CSt.out _).mono ?_); rintro e w1 ⟨rfl, hb1⟩; have hz1 : w.heap.size < w1.heap.size := Nat.lt_of_lt_of_le (show w.heap.size < (w.alloc (.cells frZ 24)).heap.size by simp) hb1.size; have hP : PS (w1.alloc (.cells (tV bits m er) 71)) B0 w1.heap.size bits m er := ⟨((blk_new w frZ 24 B0 HB.out).keep hb1).alloc _, blk_new _ _ _ _ rfl, Nat.lt_of_le_of_lt (Nat.le_of_eq HB.out) hz1⟩; have hW : Below B0 w (w1.alloc (.cells (tV bits m er) 71)) := (((Below.refl B0 w).alloc (Nat.le_of_eq HB.out) _).trans (hb1.mono (Nat.le_trans (Nat.le_of_eq HB.out) (by simp)))).alloc (Nat.le_trans (Nat.le_of_eq HB.out) (Nat.le_of_lt hz1)) _; clear hb1))
  rw [← HB.out]
  revert hP hW
  generalize w1.alloc (.cells (tV bits m er) 71) = W0
  generalize w1.heap.size = g5
  intro hP hW
  have hne1 : ¬ B0 = g5 := Nat.ne_of_lt hP.2.2
  have hne2 : ¬ g5 = B0 := Nat.ne_of_gt hP.2.2
  have c0 := hP.1.cell 0 _ rfl
  have c1 := hP.1.cell 1 _ rfl
  have c2 := hP.1.cell 2 _ rfl
  have c3 := hP.1.cell 3 _ rfl
  have c4 := hP.1.cell 4 _ rfl
  have z0 := hP.1.free 0
  have z1 := hP.1.free 1
  have z2 := hP.1.free 2
  have z3 := hP.1.free 3
  have z4 := hP.1.free 4
  have t0 := hP.2.1.cell 0 _ rfl
  have t1 := hP.2.1.cell 1 _ rfl
  have t2 := hP.2.1.cell 2 _ rfl
  go_region
  have hZ6 := blk_set4 (blk_set3 (blk_set2 (blk_set1 (blk_set0 hP.1 (.int .u32 0)) (.bool false)) (.bool false)) (.int .i64 0)) (.string ⟨#[]⟩)
  have hb6 := five_below hW (.int .u32 0) (.bool false) (.bool false) (.int .i64 0) (.string ⟨#[]⟩)
  revert hZ6 hb6
  generalize (((((W0.setCell ⟨B0, 0, none⟩ (.int .u32 0)).setCell ⟨B0, 1, none⟩ (.bool false)).setCell ⟨B0, 2, none⟩ (.bool false)).setCell ⟨B0, 3, none⟩ (.int .i64 0)).setCell ⟨B0, 4, none⟩ (.string ⟨#[]⟩)) = W6
  intro hZ6 hb6
  have k0 := hZ6.cell 0 _ rfl
  have k1 := hZ6.cell 1 _ rfl
  have k2 := hZ6.cell 2 _ rfl
  have k3 := hZ6.cell 3 _ rfl
  have k4 := hZ6.cell 4 _ rfl
  go_wp2
  refine bodyPost_ret (v := .tuple #[.agg frZ, .int .i64 0, .int .i64 er]) (by simp [results, Try.results23, go_sem, k0, k1, k2, k3, k4]) rfl ⟨?_, hb6.drew⟩
  rfl

set_option maxRecDepth 100000 in
set_option maxHeartbeats 16000000 in
theorem refparse_crc (s bits hd sm : ByteArray) (m : Nat) (w : World) (hb15 : (15 : Int) ≤ bits.size) (hb4 : bits.size ≤ 4000) (hHd : bits.extract 0 (bits.size - 15) = hd) (hsm : (sm.toList == bits.toList) = false)
    (CSt : Hid (∀ w, Calls Try.prog 41 #[.string s] w fun x w' => x = .returned (.agg (tV bits m 0)) ∧ Below w.heap.size w w'))
    (CSum : Hid (∀ w, Calls Try.prog 33 #[.string hd] w fun x w' => x = .returned (.string sm) ∧ Below w.heap.size w w')) :
    Calls Try.prog 23 #[.string s] w fun x w' => x = .returned (.tuple #[.agg frZ, .int .i64 0, .int .i64 11]) ∧ Below w.heap.size w w' := by
  obtain ⟨B0, hB0⟩ : ∃ b, b = w.heap.size := ⟨_, rfl⟩
  have HB := Lib.hid hB0
  rw [← hB0]
  clear hB0
  go_enter Try.func23, Try.ntmps23
  go_wp2_with (go_at_call 41; go_loud ((with_reducible refine (CSt.out _).mono ?_); rintro e w1 ⟨rfl, hb1⟩; have hz1 : w.heap.size < w1.heap.size := Nat.lt_of_lt_of_le (show w.heap.size < (w.alloc (.cells frZ 24)).heap.size by simp) hb1.size; have hP : PS (w1.alloc (.cells (tV bits m 0) 71)) B0 w1.heap.size bits m 0 := ⟨((blk_new w frZ 24 B0 HB.out).keep hb1).alloc _, blk_new _ _ _ _ rfl, Nat.lt_of_le_of_lt (Nat.le_of_eq HB.out) hz1⟩; have hW : Below B0 w (w1.alloc (.cells (tV bits m 0) 71)) := (((Below.refl B0 w).alloc (Nat.le_of_eq HB.out) _).trans (hb1.mono (Nat.le_trans (Nat.le_of_eq HB.out) (by simp)))).alloc (Nat.le_trans (Nat.le_of_eq HB.out) (Nat.le_of_lt hz1)) _; clear hb1))
  rw [← HB.out]
  revert hP hW
  generalize w1.alloc (.cells (tV bits m 0) 71) = W0
  generalize w1.heap.size = g5
  intro hP hW
  have KS := Lib.hid (show ∀ wa wb, Below wa.heap.size wa wb → (Below B0 w wa ∧ wa.cell? ⟨g5, 0, none⟩ = some (.string bits) ∧ PS wa B0 g5 bits m 0) → (Below B0 w wb ∧ wb.cell? ⟨g5, 0, none⟩ = some (.string bits) ∧ PS wb B0 g5 bits m 0) from fun wa wb kk ⟨h1, _, h4⟩ =>
    have h5 := h4.keep kk
    ⟨below_keep h1 kk (by have := h4.1.lt; omega), h5.2.1.cell 0 _ rfl, h5⟩)
  have t0 := hP.2.1.cell 0 _ rfl
  go_wp2
  have hd1 : Below B0 w W0.drew := hW.drew
  have hd2 : PS W0.drew B0 g5 bits m 0 := hP
  go_region_held3 (fun w' => Below B0 w w' ∧ w'.cell? ⟨g5, 0, none⟩ = some (.string bits) ∧ PS w' B0 g5 bits m 0)
    (first | assumption | exact ⟨hd1, hd2.2.1.cell 0 _ rfl, hd2⟩)
    (first
      | (go_at_call 33; (with_reducible refine (CSum.out _).mono ?_); rintro e w3 ⟨rfl, hb1⟩; have hS := KS.out _ _ hb1 (by assumption)))
  rename_i hdup
  clear hdup
  have hP3 := hS.2.2
  have hW3 := hS.1
  clear hP hW hd1 hd2 t0 KS hS
  have hne1 : ¬ B0 = g5 := Nat.ne_of_lt hP3.2.2
  have hne2 : ¬ g5 = B0 := Nat.ne_of_gt hP3.2.2
  have c0 := hP3.1.cell 0 _ rfl
  have c1 := hP3.1.cell 1 _ rfl
  have c2 := hP3.1.cell 2 _ rfl
  have c3 := hP3.1.cell 3 _ rfl
  have c4 := hP3.1.cell 4 _ rfl
  have z0 := hP3.1.free 0
  have z1 := hP3.1.free 1
  have z2 := hP3.1.free 2
  have z3 := hP3.1.free 3
  have z4 := hP3.1.free 4
  have t0 := hP3.2.1.cell 0 _ rfl
  have t1 := hP3.2.1.cell 1 _ rfl
  have t2 := hP3.2.1.cell 2 _ rfl
  go_wp2
  have hZ6 := blk_set4 (blk_set3 (blk_set2 (blk_set1 (blk_set0 hP3.1 (.int .u32 0)) (.bool false)) (.bool false)) (.int .i64 0)) (.string ⟨#[]⟩)
  have hb6 := five_below hW3 (.int .u32 0) (.bool false) (.bool false) (.int .i64 0) (.string ⟨#[]⟩)
  revert hZ6 hb6
  generalize (((((w3.setCell ⟨B0, 0, none⟩ (.int .u32 0)).setCell ⟨B0, 1, none⟩ (.bool false)).setCell ⟨B0, 2, none⟩ (.bool false)).setCell ⟨B0, 3, none⟩ (.int .i64 0)).setCell ⟨B0, 4, none⟩ (.string ⟨#[]⟩)) = W6
  intro hZ6 hb6
  have k0 := hZ6.cell 0 _ rfl
  have k1 := hZ6.cell 1 _ rfl
  have k2 := hZ6.cell 2 _ rfl
  have k3 := hZ6.cell 3 _ rfl
  have k4 := hZ6.cell 4 _ rfl
  refine bodyPost_ret (v := .tuple #[.agg frZ, .int .i64 0, .int .i64 11]) (by simp [results, Try.results23, go_sem, k0, k1, k2, k3, k4]) rfl ⟨?_, hb6⟩
  rfl

/-- what Parse answers, where a head and its sum are right -/
def B.tailX (t : Nat) (isB : Bool) (v : Array Value) (m : Nat) : Array Value × Int × Int := if t ≠ 0 then (frZ, 0, (t : Int)) else if isB then (v, (m : Int) + 10, 0) else (frZ, 0, 12)

set_option maxRecDepth 100000 in
set_option maxHeartbeats 16000000 in
theorem refparse_go_t (s bits hd sm : ByteArray) (m : Nat) (id n : Nat) (ext rem : Bool) (D : ByteArray) (w : World) (hb15 : (15 : Int) ≤ bits.size) (hb4 : bits.size ≤ 4000) (hHd : bits.extract 0 (bits.size - 15) = hd) (hsm : (sm.toList == bits.toList) = true) (hs4 : s.size ≤ 4000) (hms : m ≤ s.size)
    (CSt : Hid (∀ w, Calls Try.prog 41 #[.string s] w fun x w' => x = .returned (.agg (tV bits m 0)) ∧ Below w.heap.size w w'))
    (CSum : Hid (∀ w, Calls Try.prog 33 #[.string hd] w fun x w' => x = .returned (.string sm) ∧ Below w.heap.size w w'))
    (CRd : Hid (∀ w, Calls Try.prog 22 #[.string hd] w fun x w' => x = .returned (.tuple #[.agg (frV id ext rem n D), .bool true]) ∧ Below w.heap.size w w')) :
    Calls Try.prog 23 #[.string s] w fun x w' => x = .returned (.tuple #[.agg (B.tailX (B.tailL 0 (s.data.toList.drop m)) true (frV id ext rem n D) m).1, .int .i64 (B.tailX (B.tailL 0 (s.data.toList.drop m)) true (frV id ext rem n D) m).2.1, .int .i64 (B.tailX (B.tailL 0 (s.data.toList.drop m)) true (frV id ext rem n D) m).2.2]) ∧ Below w.heap.size w w' := by
  obtain ⟨B0, hB0⟩ : ∃ b, b = w.heap.size := ⟨_, rfl⟩
  have HB := Lib.hid hB0
  rw [← hB0]
  clear hB0
  go_enter Try.func23, Try.ntmps23
  go_wp2_with (go_at_call 41; go_loud ((with_reducible refine (CSt.out _).mono ?_); rintro e w1 ⟨rfl, hb1⟩; have hz1 : w.heap.size < w1.heap.size := Nat.lt_of_lt_of_le (show w.heap.size < (w.alloc (.cells frZ 24)).heap.size by simp) hb1.size; have hP : PS (w1.alloc (.cells (tV bits m 0) 71)) B0 w1.heap.size bits m 0 := ⟨((blk_new w frZ 24 B0 HB.out).keep hb1).alloc _, blk_new _ _ _ _ rfl, Nat.lt_of_le_of_lt (Nat.le_of_eq HB.out) hz1⟩; have hW : Below B0 w (w1.alloc (.cells (tV bits m 0) 71)) := (((Below.refl B0 w).alloc (Nat.le_of_eq HB.out) _).trans (hb1.mono (Nat.le_trans (Nat.le_of_eq HB.out) (by simp)))).alloc (Nat.le_trans (Nat.le_of_eq HB.out) (Nat.le_of_lt hz1)) _; clear hb1))
  rw [← HB.out]
  revert hP hW
  generalize w1.alloc (.cells (tV bits m 0) 71) = W0
  generalize w1.heap.size = g5
  intro hP hW
  have KS := Lib.hid (show ∀ wa wb, Below wa.heap.size wa wb → (Below B0 w wa ∧ wa.cell? ⟨g5, 0, none⟩ = some (.string bits) ∧ PS wa B0 g5 bits m 0) → (Below B0 w wb ∧ wb.cell? ⟨g5, 0, none⟩ = some (.string bits) ∧ PS wb B0 g5 bits m 0) from fun wa wb kk ⟨h1, _, h4⟩ =>
    have h5 := h4.keep kk
    ⟨below_keep h1 kk (by have := h4.1.lt; omega), h5.2.1.cell 0 _ rfl, h5⟩)
  have t0 := hP.2.1.cell 0 _ rfl
  go_wp2
  have hd1 : Below B0 w W0.drew := hW.drew
  have hd2 : PS W0.drew B0 g5 bits m 0 := hP
  go_region_held3 (fun w' => Below B0 w w' ∧ w'.cell? ⟨g5, 0, none⟩ = some (.string bits) ∧ PS w' B0 g5 bits m 0)
    (first | assumption | exact ⟨hd1, hd2.2.1.cell 0 _ rfl, hd2⟩)
    (first
      | (go_at_call 33; (with_reducible refine (CSum.out _).mono ?_); rintro e w3 ⟨rfl, hb1⟩; have hS := KS.out _ _ hb1 (by assumption)))
  rename_i hdup
  clear hdup
  have hP3 := hS.2.2
  have hW3 := hS.1
  clear hP hW hd1 hd2 t0 KS hS
  go_wp2
  go_loopw [7] (fun i wr => ∃ j : Nat, j ≤ 10 ∧ m + j ≤ s.size ∧ i = .int .i64 j ∧ Hid (B.tailL 0 (s.data.toList.drop m) = B.tailL j (s.data.toList.drop (m + j))) ∧ PS wr B0 g5 bits m 0 ∧ Below B0 w wr) (fun i _ => 10 - (intOf i).toNat)
  case atStart => exact ⟨0, by omega, hms, rfl, Lib.hid rfl, hP3, hW3⟩
  case round =>
    clear hP3 hW3
    obtain ⟨j, hj, hmj, rfl, HT, hP, hW⟩ := hrel
    have y1 : IntKind.i64.wrap ((m : Int) + (j : Int)) = (m : Int) + (j : Int) := IntWalk.i64_in _ (by omega)
    by_cases hj10 : j < 10
    · have hne1 : ¬ B0 = g5 := Nat.ne_of_lt hP.2.2
      have hne2 : ¬ g5 = B0 := Nat.ne_of_gt hP.2.2
      have c0 := hP.1.cell 0 _ rfl
      have c1 := hP.1.cell 1 _ rfl
      have c2 := hP.1.cell 2 _ rfl
      have c3 := hP.1.cell 3 _ rfl
      have c4 := hP.1.cell 4 _ rfl
      have z0 := hP.1.free 0
      have z1 := hP.1.free 1
      have z2 := hP.1.free 2
      have z3 := hP.1.free 3
      have z4 := hP.1.free 4
      have t0 := hP.2.1.cell 0 _ rfl
      have t1 := hP.2.1.cell 1 _ rfl
      have t2 := hP.2.1.cell 2 _ rfl
      by_cases hlt : m + j < s.size
      · have hge : decide ((s.size : Int) ≤ (m : Int) + (j : Int)) = false := by simp; omega
        have q0 : (0 : Int) ≤ (m : Int) + (j : Int) := by omega
        have q1 : (m : Int) + (j : Int) < (s.size : Int) := by omega
        have q5 : ((m : Int) + (j : Int)).toNat = m + j := by omega
        have hD : s.data.toList.drop (m + j) = s[m + j] :: s.data.toList.drop (m + j + 1) := List.drop_eq_getElem_cons (by have := B.size_len s; omega)
        by_cases hbad : j ≠ 1 ∧ s[m + j] ≠ 49
        · have hE := HT.out
          rw [hD, B.tail_bad hj10 hbad.1 hbad.2] at hE
          have HE := Lib.hid hE
          have x1 : ((j : Int) != 1) = true := by have := hbad.1; simp; omega
          have x2 : ((s[m + j].toNat : Int) != 49) = true := by
            simp only [bne_iff_ne, ne_eq]
            intro e; exact hbad.2 (UInt8.toNat_inj.1 (show s[m + j].toNat = 49 by omega))
          clear hE hbad hD
          go_wp2
          have hZ6 := blk_set4 (blk_set3 (blk_set2 (blk_set1 (blk_set0 hP.1 (.int .u32 0)) (.bool false)) (.bool false)) (.int .i64 0)) (.string ⟨#[]⟩)
          have hb6 := five_below hW (.int .u32 0) (.bool false) (.bool false) (.int .i64 0) (.string ⟨#[]⟩)
          revert hZ6 hb6
          generalize (((((wr.setCell ⟨B0, 0, none⟩ (.int .u32 0)).setCell ⟨B0, 1, none⟩ (.bool false)).setCell ⟨B0, 2, none⟩ (.bool false)).setCell ⟨B0, 3, none⟩ (.int .i64 0)).setCell ⟨B0, 4, none⟩ (.string ⟨#[]⟩)) = W6
          intro hZ6 hb6
          have k0 := hZ6.cell 0 _ rfl
          have k1 := hZ6.cell 1 _ rfl
          have k2 := hZ6.cell 2 _ rfl
          have k3 := hZ6.cell 3 _ rfl
          have k4 := hZ6.cell 4 _ rfl
          refine bodyPost_ret (v := .tuple #[.agg frZ, .int .i64 0, .int .i64 12]) (by simp [results, Try.results23, go_sem, k0, k1, k2, k3, k4]) rfl ⟨?_, hb6⟩
          rw [HE.out]; simp [B.tailX]
        · have hE := HT.out
          have hor : j = 1 ∨ s[m + j] = 49 := by
            by_cases h1 : j = 1
            · exact .inl h1
            · exact .inr (by simp only [not_and, ne_eq, Decidable.not_not] at hbad; exact hbad h1)
          rw [hD, B.tail_go hj10 hor] at hE
          have HE := Lib.hid hE
          have hx : ((j : Int) != 1) = false ∨ ((j : Int) != 1) = true ∧ ((s[m + j].toNat : Int) != 49) = false := by
            rcases hor with h | h
            · left; simp; omega
            · by_cases h1 : j = 1
              · left; simp; omega
              · right; exact ⟨by simp; omega, by rw [h] <;> rfl⟩
          clear hE hbad hD hor
          rcases hx with x1 | ⟨x1, x2⟩
          all_goals
            go_wp2
            go_roundw
            case rel => exact ⟨j + 1, by omega, by omega, by go_num, HE, hP, hW⟩
            case measure => simp [intOf]; omega
      · have hge : decide ((s.size : Int) ≤ (m : Int) + (j : Int)) = true := by simp; omega
        have hE := HT.out
        rw [List.drop_of_length_le (i := m + j) (by have := B.size_len s; omega), B.tail_none j hj10] at hE
        have HE := Lib.hid hE
        clear hE
        go_wp2
        have hZ6 := blk_set4 (blk_set3 (blk_set2 (blk_set1 (blk_set0 hP.1 (.int .u32 0)) (.bool false)) (.bool false)) (.int .i64 0)) (.string ⟨#[]⟩)
        have hb6 := five_below hW (.int .u32 0) (.bool false) (.bool false) (.int .i64 0) (.string ⟨#[]⟩)
        revert hZ6 hb6
        generalize (((((wr.setCell ⟨B0, 0, none⟩ (.int .u32 0)).setCell ⟨B0, 1, none⟩ (.bool false)).setCell ⟨B0, 2, none⟩ (.bool false)).setCell ⟨B0, 3, none⟩ (.int .i64 0)).setCell ⟨B0, 4, none⟩ (.string ⟨#[]⟩)) = W6
        intro hZ6 hb6
        have k0 := hZ6.cell 0 _ rfl
        have k1 := hZ6.cell 1 _ rfl
        have k2 := hZ6.cell 2 _ rfl
        have k3 := hZ6.cell 3 _ rfl
        have k4 := hZ6.cell 4 _ rfl
        refine bodyPost_ret (v := .tuple #[.agg frZ, .int .i64 0, .int .i64 3]) (by simp [results, Try.results23, go_sem, k0, k1, k2, k3, k4]) rfl ⟨?_, hb6⟩
        rw [HE.out]; simp [B.tailX]
    · have hj' : j = 10 := by omega
      subst hj'
      have hE := HT.out
      rw [B.tail_end 10 _ (by omega)] at hE
      have HE := Lib.hid hE
      clear hE y1
      go_wp2_with (go_at_call 22; (with_reducible refine (CRd.out _).mono ?_); rintro e w5 ⟨rfl, hb5⟩; have hgz := (hP.keep hb5).2.1.lt; have hP5 : PS (w5.alloc (.cells (frV id ext rem n D) 24)) B0 g5 bits m 0 := ⟨(hP.keep hb5).1.alloc _, (hP.keep hb5).2.1.alloc _, hP.2.2⟩; have hY5 := blk_new w5 (frV id ext rem n D) 24 w5.heap.size rfl; have hW5 := (below_keep hW hb5 (by have := hP.2.1.lt; have := hP.2.2; omega)).alloc (by have := hP.2.2; omega) (.cells (frV id ext rem n D) 24); clear hb5)
      revert hP5 hY5 hW5 hgz
      generalize w5.alloc (.cells (frV id ext rem n D) 24) = W5
      generalize w5.heap.size = gy
      intro hgz hP5 hY5 hW5
      have hP := hP5
      have hne1 : ¬ B0 = g5 := Nat.ne_of_lt hP.2.2
      have hne2 : ¬ g5 = B0 := Nat.ne_of_gt hP.2.2
      have c0 := hP.1.cell 0 _ rfl
      have c1 := hP.1.cell 1 _ rfl
      have c2 := hP.1.cell 2 _ rfl
      have c3 := hP.1.cell 3 _ rfl
      have c4 := hP.1.cell 4 _ rfl
      have z0 := hP.1.free 0
      have z1 := hP.1.free 1
      have z2 := hP.1.free 2
      have z3 := hP.1.free 3
      have z4 := hP.1.free 4
      have t0 := hP.2.1.cell 0 _ rfl
      have t1 := hP.2.1.cell 1 _ rfl
      have t2 := hP.2.1.cell 2 _ rfl
      have u0 := hY5.cell 0 _ rfl
      have u1 := hY5.cell 1 _ rfl
      have u2 := hY5.cell 2 _ rfl
      have u3 := hY5.cell 3 _ rfl
      have u4 := hY5.cell 4 _ rfl
      go_wp2
      go_region
      have hZ6 := blk_set4 (blk_set3 (blk_set2 (blk_set1 (blk_set0 hP5.1 (.int .u32 id)) (.bool ext)) (.bool rem)) (.int .i64 n)) (.string D)
      have hb6 := five_below hW5 (.int .u32 id) (.bool ext) (.bool rem) (.int .i64 n) (.string D)
      revert hZ6 hb6
      generalize (((((W5.setCell ⟨B0, 0, none⟩ (.int .u32 id)).setCell ⟨B0, 1, none⟩ (.bool ext)).setCell ⟨B0, 2, none⟩ (.bool rem)).setCell ⟨B0, 3, none⟩ (.int .i64 n)).setCell ⟨B0, 4, none⟩ (.string D)) = W6
      intro hZ6 hb6
      have k0 := hZ6.cell 0 _ rfl
      have k1 := hZ6.cell 1 _ rfl
      have k2 := hZ6.cell 2 _ rfl
      have k3 := hZ6.cell 3 _ rfl
      have k4 := hZ6.cell 4 _ rfl
      go_wp2
      refine bodyPost_ret (v := .tuple #[.agg (frV id ext rem n D), .int .i64 ((m : Int) + 10), .int .i64 0]) (by simp [results, Try.results23, go_sem, k0, k1, k2, k3, k4]) rfl ⟨?_, hb6.drew⟩
      rw [HE.out]; simp [B.tailX]

set_option maxRecDepth 100000 in
set_option maxHeartbeats 16000000 in
theorem refparse_go_f (s bits hd sm : ByteArray) (m : Nat) (id n : Nat) (ext rem : Bool) (D : ByteArray) (w : World) (hb15 : (15 : Int) ≤ bits.size) (hb4 : bits.size ≤ 4000) (hHd : bits.extract 0 (bits.size - 15) = hd) (hsm : (sm.toList == bits.toList) = true) (hs4 : s.size ≤ 4000) (hms : m ≤ s.size)
    (CSt : Hid (∀ w, Calls Try.prog 41 #[.string s] w fun x w' => x = .returned (.agg (tV bits m 0)) ∧ Below w.heap.size w w'))
    (CSum : Hid (∀ w, Calls Try.prog 33 #[.string hd] w fun x w' => x = .returned (.string sm) ∧ Below w.heap.size w w'))
    (CRd : Hid (∀ w, Calls Try.prog 22 #[.string hd] w fun x w' => x = .returned (.tuple #[.agg (frV id ext rem n D), .bool false]) ∧ Below w.heap.size w w')) :
    Calls Try.prog 23 #[.string s] w fun x w' => x = .returned (.tuple #[.agg (B.tailX (B.tailL 0 (s.data.toList.drop m)) false (frV id ext rem n D) m).1, .int .i64 (B.tailX (B.tailL 0 (s.data.toList.drop m)) false (frV id ext rem n D) m).2.1, .int .i64 (B.tailX (B.tailL 0 (s.data.toList.drop m)) false (frV id ext rem n D) m).2.2]) ∧ Below w.heap.size w w' := by
  obtain ⟨B0, hB0⟩ : ∃ b, b = w.heap.size := ⟨_, rfl⟩
  have HB := Lib.hid hB0
  rw [← hB0]
  clear hB0
  go_enter Try.func23, Try.ntmps23
  go_wp2_with (go_at_call 41; go_loud ((with_reducible refine (CSt.out _).mono ?_); rintro e w1 ⟨rfl, hb1⟩; have hz1 : w.heap.size < w1.heap.size := Nat.lt_of_lt_of_le (show w.heap.size < (w.alloc (.cells frZ 24)).heap.size by simp) hb1.size; have hP : PS (w1.alloc (.cells (tV bits m 0) 71)) B0 w1.heap.size bits m 0 := ⟨((blk_new w frZ 24 B0 HB.out).keep hb1).alloc _, blk_new _ _ _ _ rfl, Nat.lt_of_le_of_lt (Nat.le_of_eq HB.out) hz1⟩; have hW : Below B0 w (w1.alloc (.cells (tV bits m 0) 71)) := (((Below.refl B0 w).alloc (Nat.le_of_eq HB.out) _).trans (hb1.mono (Nat.le_trans (Nat.le_of_eq HB.out) (by simp)))).alloc (Nat.le_trans (Nat.le_of_eq HB.out) (Nat.le_of_lt hz1)) _; clear hb1))
  rw [← HB.out]
  revert hP hW
  generalize w1.alloc (.cells (tV bits m 0) 71) = W0
  generalize w1.heap.size = g5
  intro hP hW
  have KS := Lib.hid (show ∀ wa wb, Below wa.heap.size wa wb → (Below B0 w wa ∧ wa.cell? ⟨g5, 0, none⟩ = some (.string bits) ∧ PS wa B0 g5 bits m 0) → (Below B0 w wb ∧ wb.cell? ⟨g5, 0, none⟩ = some (.string bits) ∧ PS wb B0 g5 bits m 0) from fun wa wb kk ⟨h1, _, h4⟩ =>
    have h5 := h4.keep kk
    ⟨below_keep h1 kk (by have := h4.1.lt; omega), h5.2.1.cell 0 _ rfl, h5⟩)
  have t0 := hP.2.1.cell 0 _ rfl
  go_wp2
  have hd1 : Below B0 w W0.drew := hW.drew
  have hd2 : PS W0.drew B0 g5 bits m 0 := hP
  go_region_held3 (fun w' => Below B0 w w' ∧ w'.cell? ⟨g5, 0, none⟩ = some (.string bits) ∧ PS w' B0 g5 bits m 0)
    (first | assumption | exact ⟨hd1, hd2.2.1.cell 0 _ rfl, hd2⟩)
    (first
      | (go_at_call 33; (with_reducible refine (CSum.out _).mono ?_); rintro e w3 ⟨rfl, hb1⟩; have hS := KS.out _ _ hb1 (by assumption)))
  rename_i hdup
  clear hdup
  have hP3 := hS.2.2
  have hW3 := hS.1
  clear hP hW hd1 hd2 t0 KS hS
  go_wp2
  go_loopw [7] (fun i wr => ∃ j : Nat, j ≤ 10 ∧ m + j ≤ s.size ∧ i = .int .i64 j ∧ Hid (B.tailL 0 (s.data.toList.drop m) = B.tailL j (s.data.toList.drop (m + j))) ∧ PS wr B0 g5 bits m 0 ∧ Below B0 w wr) (fun i _ => 10 - (intOf i).toNat)
  case atStart => exact ⟨0, by omega, hms, rfl, Lib.hid rfl, hP3, hW3⟩
  case round =>
    clear hP3 hW3
    obtain ⟨j, hj, hmj, rfl, HT, hP, hW⟩ := hrel
    have y1 : IntKind.i64.wrap ((m : Int) + (j : Int)) = (m : Int) + (j : Int) := IntWalk.i64_in _ (by omega)
    by_cases hj10 : j < 10
    · have hne1 : ¬ B0 = g5 := Nat.ne_of_lt hP.2.2
      have hne2 : ¬ g5 = B0 := Nat.ne_of_gt hP.2.2
      have c0 := hP.1.cell 0 _ rfl
      have c1 := hP.1.cell 1 _ rfl
      have c2 := hP.1.cell 2 _ rfl
      have c3 := hP.1.cell 3 _ rfl
      have c4 := hP.1.cell 4 _ rfl
      have z0 := hP.1.free 0
      have z1 := hP.1.free 1
      have z2 := hP.1.free 2
      have z3 := hP.1.free 3
      have z4 := hP.1.free 4
      have t0 := hP.2.1.cell 0 _ rfl
      have t1 := hP.2.1.cell 1 _ rfl
      have t2 := hP.2.1.cell 2 _ rfl
      by_cases hlt : m + j < s.size
      · have hge : decide ((s.size : Int) ≤ (m : Int) + (j : Int)) = false := by simp; omega
        have q0 : (0 : Int) ≤ (m : Int) + (j : Int) := by omega
        have q1 : (m : Int) + (j : Int) < (s.size : Int) := by omega
        have q5 : ((m : Int) + (j : Int)).toNat = m + j := by omega
        have hD : s.data.toList.drop (m + j) = s[m + j] :: s.data.toList.drop (m + j + 1) := List.drop_eq_getElem_cons (by have := B.size_len s; omega)
        by_cases hbad : j ≠ 1 ∧ s[m + j] ≠ 49
        · have hE := HT.out
          rw [hD, B.tail_bad hj10 hbad.1 hbad.2] at hE
          have HE := Lib.hid hE
          have x1 : ((j : Int) != 1) = true := by have := hbad.1; simp; omega
          have x2 : ((s[m + j].toNat : Int) != 49) = true := by
            simp only [bne_iff_ne, ne_eq]
            intro e; exact hbad.2 (UInt8.toNat_inj.1 (show s[m + j].toNat = 49 by omega))
          clear hE hbad hD
          go_wp2
          have hZ6 := blk_set4 (blk_set3 (blk_set2 (blk_set1 (blk_set0 hP.1 (.int .u32 0)) (.bool false)) (.bool false)) (.int .i64 0)) (.string ⟨#[]⟩)
          have hb6 := five_below hW (.int .u32 0) (.bool false) (.bool false) (.int .i64 0) (.string ⟨#[]⟩)
          revert hZ6 hb6
          generalize (((((wr.setCell ⟨B0, 0, none⟩ (.int .u32 0)).setCell ⟨B0, 1, none⟩ (.bool false)).setCell ⟨B0, 2, none⟩ (.bool false)).setCell ⟨B0, 3, none⟩ (.int .i64 0)).setCell ⟨B0, 4, none⟩ (.string ⟨#[]⟩)) = W6
          intro hZ6 hb6
          have k0 := hZ6.cell 0 _ rfl
          have k1 := hZ6.cell 1 _ rfl
          have k2 := hZ6.cell 2 _ rfl
          have k3 := hZ6.cell 3 _ rfl
          have k4 := hZ6.cell 4 _ rfl
          refine bodyPost_ret (v := .tuple #[.agg frZ, .int .i64 0, .int .i64 12]) (by simp [results, Try.results23, go_sem, k0, k1, k2, k3, k4]) rfl ⟨?_, hb6⟩
          rw [HE.out]; simp [B.tailX]
        · have hE := HT.out
          have hor : j = 1 ∨ s[m + j] = 49 := by
            by_cases h1 : j = 1
            · exact .inl h1
            · exact .inr (by simp only [not_and, ne_eq, Decidable.not_not] at hbad; exact hbad h1)
          rw [hD, B.tail_go hj10 hor] at hE
          have HE := Lib.hid hE
          have hx : ((j : Int) != 1) = false ∨ ((j : Int) != 1) = true ∧ ((s[m + j].toNat : Int) != 49) = false := by
            rcases hor with h | h
            · left; simp; omega
            · by_cases h1 : j = 1
              · left; simp; omega
              · right; exact ⟨by simp; omega, by rw [h] <;> rfl⟩
          clear hE hbad hD hor
          rcases hx with x1 | ⟨x1, x2⟩
          all_goals
            go_wp2
            go_roundw
            case rel => exact ⟨j + 1, by omega, by omega, by go_num, HE, hP, hW⟩
            case measure => simp [intOf]; omega
      · have hge : decide ((s.size : Int) ≤ (m : Int) + (j : Int)) = true := by simp; omega
        have hE := HT.out
        rw [List.drop_of_length_le (i := m + j) (by have := B.size_len s; omega), B.tail_none j hj10] at hE
        have HE := Lib.hid hE
        clear hE
        go_wp2
        have hZ6 := blk_set4 (blk_set3 (blk_set2 (blk_set1 (blk_set0 hP.1 (.int .u32 0)) (.bool false)) (.bool false)) (.int .i64 0)) (.string ⟨#[]⟩)
        have hb6 := five_below hW (.int .u32 0) (.bool false) (.bool false) (.int .i64 0) (.string ⟨#[]⟩)
        revert hZ6 hb6
        generalize (((((wr.setCell ⟨B0, 0, none⟩ (.int .u32 0)).setCell ⟨B0, 1, none⟩ (.bool false)).setCell ⟨B0, 2, none⟩ (.bool false)).setCell ⟨B0, 3, none⟩ (.int .i64 0)).setCell ⟨B0, 4, none⟩ (.string ⟨#[]⟩)) = W6
        intro hZ6 hb6
        have k0 := hZ6.cell 0 _ rfl
        have k1 := hZ6.cell 1 _ rfl
        have k2 := hZ6.cell 2 _ rfl
        have k3 := hZ6.cell 3 _ rfl
        have k4 := hZ6.cell 4 _ rfl
        refine bodyPost_ret (v := .tuple #[.agg frZ, .int .i64 0, .int .i64 3]) (by simp [results, Try.results23, go_sem, k0, k1, k2, k3, k4]) rfl ⟨?_, hb6⟩
        rw [HE.out]; simp [B.tailX]
    · have hj' : j = 10 := by omega
      subst hj'
      have hE := HT.out
      rw [B.tail_end 10 _ (by omega)] at hE
      have HE := Lib.hid hE
      clear hE y1
      go_wp2_with (go_at_call 22; (with_reducible refine (CRd.out _).mono ?_); rintro e w5 ⟨rfl, hb5⟩; have hgz := (hP.keep hb5).2.1.lt; have hP5 : PS (w5.alloc (.cells (frV id ext rem n D) 24)) B0 g5 bits m 0 := ⟨(hP.keep hb5).1.alloc _, (hP.keep hb5).2.1.alloc _, hP.2.2⟩; have hY5 := blk_new w5 (frV id ext rem n D) 24 w5.heap.size rfl; have hW5 := (below_keep hW hb5 (by have := hP.2.1.lt; have := hP.2.2; omega)).alloc (by have := hP.2.2; omega) (.cells (frV id ext rem n D) 24); clear hb5; have c0 := hP5.1.cell 0 _ rfl; have c1 := hP5.1.cell 1 _ rfl; have c2 := hP5.1.cell 2 _ rfl; have c3 := hP5.1.cell 3 _ rfl; have c4 := hP5.1.cell 4 _ rfl; have z0 := hP5.1.free 0; have z1 := hP5.1.free 1; have z2 := hP5.1.free 2; have z3 := hP5.1.free 3; have z4 := hP5.1.free 4)
      have hZ6 := blk_set4 (blk_set3 (blk_set2 (blk_set1 (blk_set0 hP5.1 (.int .u32 0)) (.bool false)) (.bool false)) (.int .i64 0)) (.string ⟨#[]⟩)
      have hb6 := five_below hW5 (.int .u32 0) (.bool false) (.bool false) (.int .i64 0) (.string ⟨#[]⟩)
      revert hZ6 hb6
      generalize ((((((w5.alloc (.cells (frV id ext rem n D) 24)).setCell ⟨B0, 0, none⟩ (.int .u32 0)).setCell ⟨B0, 1, none⟩ (.bool false)).setCell ⟨B0, 2, none⟩ (.bool false)).setCell ⟨B0, 3, none⟩ (.int .i64 0)).setCell ⟨B0, 4, none⟩ (.string ⟨#[]⟩)) = W6
      intro hZ6 hb6
      have k0 := hZ6.cell 0 _ rfl
      have k1 := hZ6.cell 1 _ rfl
      have k2 := hZ6.cell 2 _ rfl
      have k3 := hZ6.cell 3 _ rfl
      have k4 := hZ6.cell 4 _ rfl
      refine bodyPost_ret (v := .tuple #[.agg frZ, .int .i64 0, .int .i64 12]) (by simp [results, Try.results23, go_sem, k0, k1, k2, k3, k4]) rfl ⟨?_, hb6⟩
      rw [HE.out]; simp [B.tailX]

/-- the reference's Parse -/
theorem refparse_any (s : ByteArray) (w : World) (hr : B.right s = true) :
    Calls Try.prog 23 #[.string s] w fun x w' => x = .returned (.tuple #[.agg (frA (B.parseL s.data.toList).1), .int .i64 (B.parseL s.data.toList).2.1, .int .i64 (B.parseL s.data.toList).2.2]) ∧ Below w.heap.size w w' := by
  have h4 := B.right_size hr
  have CS0 := fun w => refstuffed_any s w hr
  rcases hg : B.goL (0, 0) [] 0 s.data.toList with ⟨bl, m, er⟩
  rw [hg] at CS0
  simp only at CS0
  unfold B.parseL
  rw [hg]
  simp only
  by_cases he : er = 0
  · subst he
    rw [if_neg (by simp)]
    obtain ⟨hm, hba, hbl, h15, hsz⟩ := B.go_facts hr hg
    obtain ⟨bits, hbits⟩ : ∃ b : ByteArray, b = ⟨bl.toArray⟩ := ⟨_, rfl⟩
    have hbitl : bits.data.toList = bl := by rw [hbits, list_of]
    have hbs : bits.size = bl.length := by rw [hbits, size_of]
    have CSt : Hid (∀ w, Calls Try.prog 41 #[.string s] w fun x w' => x = .returned (.agg (tV bits (m : Int) 0)) ∧ Below w.heap.size w w') := Lib.hid (fun w => by rw [hbits]; exact CS0 w)
    have hbr : B.right bits = true := right_of_all (by omega) (by rw [hbitl]; exact hba)
    obtain ⟨hd, hHd⟩ : ∃ hd, bits.extract 0 (bits.size - 15) = hd := ⟨_, rfl⟩
    have hl : hd.data.toList = bl.take (bl.length - 15) := by rw [← hHd, Lib.extract_data, hbitl, hbs, List.drop_zero, Nat.sub_zero]
    have hdr : B.right hd = true := by rw [← hHd]; exact right_cut hbr _ _
    have hdz : hd.size ≤ 3985 := by rw [← B.size_len, hl, List.length_take]; omega
    have CSum := Lib.hid (fun w => refsum4_any hd w hdr hdz)
    have hfl : (B.framed hd).data.toList = hd.data.toList ++ B.ofl (B.crc 0 hd.data.toList) 15 := framed_list hd
    have hsplit : bl = hd.data.toList ++ bl.drop (bl.length - 15) := by rw [hl, List.take_append_drop]
    have hdrop : (bl.drop (bl.length - 15)).length = 15 := by rw [List.length_drop]; omega
    have hck := B.crc_check (h := hd.data.toList) (t := bl.drop (bl.length - 15)) (B.right_all hdr) (by
      rw [List.all_eq_true] at *; intro x hx; exact hba x (List.mem_of_mem_drop hx)) hdrop
    rw [← hsplit] at hck
    have hiff : ((B.framed hd).toList == bits.toList) = decide (B.crc 0 bl = 0) := by
      rw [Bool.eq_iff_iff, beq_iff_eq, decide_eq_true_eq, hck]
      have e1 := ByteArray.toList_eq (B.framed hd)
      have e2 := ByteArray.toList_eq bits
      constructor
      · intro h
        have h2 : (B.framed hd).data.toList = bits.data.toList := e1.symm.trans (h.trans e2)
        rw [hfl, hbitl] at h2
        exact (List.append_cancel_left (h2.trans hsplit)).symm
      · intro h
        have h2 : (B.framed hd).data.toList = bits.data.toList := by rw [hfl, hbitl, ← h]; exact hsplit.symm
        exact e1.trans (h2.trans e2.symm)
    by_cases hc : B.crc 0 bl = 0
    · rw [if_neg (by simp [hc])]
      rw [decide_eq_true hc] at hiff
      rw [← hl] at hsz ⊢
      rw [B.size_len] at hsz
      have hfr := B.decode_fr (B.right_all hdr) (by rw [B.size_len]; exact hsz)
      have CR0 := fun w => refread_yes hd w hdr hsz
      have hb4 : bits.size ≤ 4000 := by omega
      have hb15 : (15 : Int) ≤ bits.size := by omega
      by_cases hh : B.headL (B.decode hd.data.toList) = hd.data.toList
      · have hb : B.headB (B.decode hd.data.toList) hd = true := by
          unfold B.headB; rw [beq_iff_eq, hh, of_list hd]
        rw [hb] at CR0
        have := refparse_go_t s bits hd _ m _ _ _ _ _ w hb15 hb4 hHd hiff h4 hm CSt CSum (Lib.hid CR0)
        unfold B.tailX at this
        by_cases ht : B.tailL 0 (s.data.toList.drop m) = 0
        · rw [if_neg (by simp [ht])]
          rw [if_neg (by simp [ht])] at this
          rw [if_pos ⟨(B.frB_iff _).2 hfr, hh⟩]
          exact this
        · rw [if_pos ht]
          rw [if_pos ht] at this
          exact this
      · have hb : B.headB (B.decode hd.data.toList) hd = false := by
          unfold B.headB
          rw [beq_eq_false_iff_ne]
          intro e
          apply hh
          have e1 := ByteArray.toList_eq (⟨(B.headL (B.decode hd.data.toList)).toArray⟩ : ByteArray)
          have e2 := ByteArray.toList_eq hd
          have h3 : (⟨(B.headL (B.decode hd.data.toList)).toArray⟩ : ByteArray).data.toList = hd.data.toList := e1.symm.trans (e.trans e2)
          rwa [list_of] at h3
        rw [hb] at CR0
        have := refparse_go_f s bits hd _ m _ _ _ _ _ w hb15 hb4 hHd hiff h4 hm CSt CSum (Lib.hid CR0)
        unfold B.tailX at this
        by_cases ht : B.tailL 0 (s.data.toList.drop m) = 0
        · rw [if_neg (by simp [ht])]
          rw [if_neg (by simp [ht])] at this
          rw [if_neg (fun e => hh e.2)]
          exact this
        · rw [if_pos ht]
          rw [if_pos ht] at this
          exact this
    · rw [if_pos hc]
      rw [decide_eq_false hc] at hiff
      exact refparse_crc s bits hd _ m w (by omega) (by omega) hHd hiff CSt CSum
  · rw [if_pos he]
    exact refparse_err s _ m er w (by simp; omega) (Lib.hid CS0)
end Go.Proofs.Ytdpfmpbnahhjmaa
