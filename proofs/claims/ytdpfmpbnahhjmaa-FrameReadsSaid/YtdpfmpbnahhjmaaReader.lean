/- Package frame's reader: take. -/
import Derived.Test.YtdpfmpbnahhjmaaStep3
import Derived.Test.YtdpfmpbnahhjmaaRef4d
import Derived.StillTailTactics
namespace Go.Proofs.Ytdpfmpbnahhjmaa
open Go.RowKit Go.Lib
attribute [local go_sem ↓] Go.wp_at_zero Go.wp_at_succ

/-- a reader's cells: the row, the place, the last bit, how many of it, the bits without the stuffed ones -/
abbrev rdV (row : ByteArray) (k b n : Int) (got : ByteArray) : Array Value := #[.string row, .int .i64 k, .int .u8 b, .int .i64 n, .string got]

set_option maxRecDepth 100000 in
set_option maxHeartbeats 1000000 in
theorem take4_short (row got : ByteArray) (b n : Nat) (g : Nat) (w : World) (hB : Blk w g (rdV row row.size b n got) 67) :
    Calls Try.prog 55 #[.pointer (some ⟨g, 0, none⟩)] w fun e w' => e = .returned (.int .i64 3) ∧ Blk w' g (rdV row row.size b n got) 67 ∧ Below g w w' := by
  have c0 := hB.cell 0 _ rfl
  have c1 := hB.cell 1 _ rfl
  have HB := Lib.hid hB
  clear hB
  go_enter Try.func55, Try.ntmps55
  go_wp2
  go_quiet (fail)
  go_wp2
  go_ret
  exact ⟨rfl, HB.out, below_drewN (Below.refl _ _) _⟩

theorem rd_other {w wa : World} {g h i : Nat} {u : Value} {row got : ByteArray} {k b n : Int} (h1 : Below g w wa) (h4 : Blk wa g (rdV row k b n got) 67) (hg : g < h) :
    Below g w (wa.setCell ⟨h, i, none⟩ u) ∧ (wa.setCell ⟨h, i, none⟩ u).cell? ⟨g, 0, none⟩ = some (.string row) ∧ (wa.setCell ⟨h, i, none⟩ u).cell? ⟨g, 1, none⟩ = some (.int .i64 k) ∧ (wa.setCell ⟨h, i, none⟩ u).cell? ⟨g, 2, none⟩ = some (.int .u8 b) ∧ (wa.setCell ⟨h, i, none⟩ u).cell? ⟨g, 3, none⟩ = some (.int .i64 n) ∧ Blk (wa.setCell ⟨h, i, none⟩ u) g (rdV row k b n got) 67 := by
  have h5 := h4.other (k := h) (i := i) (by omega) u
  exact ⟨h1.setCell (show g ≤ h by omega) _, h5.cell 0 _ rfl, h5.cell 1 _ rfl, h5.cell 2 _ rfl, h5.cell 3 _ rfl, h5⟩
theorem rd_keep {w wa wb : World} {g : Nat} {row got : ByteArray} {k b n : Int} (hb : Below wa.heap.size wa wb) (h1 : Below g w wa) (h4 : Blk wa g (rdV row k b n got) 67) :
    Below g w wb ∧ wb.cell? ⟨g, 0, none⟩ = some (.string row) ∧ wb.cell? ⟨g, 1, none⟩ = some (.int .i64 k) ∧ wb.cell? ⟨g, 2, none⟩ = some (.int .u8 b) ∧ wb.cell? ⟨g, 3, none⟩ = some (.int .i64 n) ∧ Blk wb g (rdV row k b n got) 67 := by
  have h5 := h4.keep hb
  exact ⟨below_keep h1 hb (Nat.le_of_lt h4.lt), h5.cell 0 _ rfl, h5.cell 1 _ rfl, h5.cell 2 _ rfl, h5.cell 3 _ rfl, h5⟩

set_option maxRecDepth 100000 in
set_option maxHeartbeats 4000000 in
theorem take4_err (row got : ByteArray) (k b n : Nat) (g : Nat) (w : World) (h4 : row.size ≤ 4000) (hlt : k < row.size) (hm : B.mayB b n = true) (hc : B.okc row[k] = true) (hk : B.kind (b, n) row[k].toNat = 3) (hB : Blk w g (rdV row k b n got) 67) :
    Calls Try.prog 55 #[.pointer (some ⟨g, 0, none⟩)] w fun e w' => e = .returned (.int .i64 10) ∧ Blk w' g (rdV row k b n got) 67 ∧ Below g w w' := by
  have c0 := hB.cell 0 _ rfl
  have c1 := hB.cell 1 _ rfl
  have c2 := hB.cell 2 _ rfl
  have c3 := hB.cell 3 _ rfl
  have hz := hB.lt
  have hO := Lib.hid (B.out_snoc got.data.toList row k hlt)
  rw [of_list] at hO
  have CT0 := fun w => stp_any b row[k].toNat n w hm (bitB_of hc)
  rw [hk] at CT0
  obtain ⟨y, m, hy⟩ : ∃ y m, (y, m) = B.kn (b, n) row[k].toNat := ⟨_, _, rfl⟩
  rw [← hy] at CT0
  try rw [← hy]
  have CT : Hid (∀ w, Calls Try.prog 63 #[.agg #[.int .u8 b, .int .i64 n], .int .u8 row[k].toNat] w fun e w' => e = .returned (.tuple #[.agg #[.int .u8 y, .int .i64 m], .int .i64 3, .int .i64 0]) ∧ Below w.heap.size w w') := Lib.hid CT0
  have hkq : ((k : Int) == row.size) = false := by simp; omega
  have q0 : (0 : Int) ≤ (k : Int) := by omega
  have q1 : (k : Int) < (row.size : Int) := by omega
  have q2 : (k : Int) ≤ 4000 := by omega
  clear CT0 hm hc hk hy
  go_enter Try.func55, Try.ntmps55
  go_wp2
  go_quiet (fail)
  rename_i nq
  have hB' : Blk (w.drewN nq) g (rdV row k b n got) 67 := hB
  have hW' : Below g w (w.drewN nq) := below_drewN (Below.refl _ _) _
  have hz' : g < (w.drewN nq).heap.size := hz
  clear c0 c1 c2 c3 hz hB
  generalize w.drewN nq = wr at *
  have c0 := hB'.cell 0 _ rfl
  have c1 := hB'.cell 1 _ rfl
  have c2 := hB'.cell 2 _ rfl
  have c3 := hB'.cell 3 _ rfl
  have KS := Lib.hid (show ∀ wa wb, Below wa.heap.size wa wb → (Below g w wa ∧ wa.cell? ⟨g, 0, none⟩ = some (.string row) ∧ wa.cell? ⟨g, 1, none⟩ = some (.int .i64 k) ∧ wa.cell? ⟨g, 2, none⟩ = some (.int .u8 b) ∧ wa.cell? ⟨g, 3, none⟩ = some (.int .i64 n) ∧ Blk wa g (rdV row k b n got) 67) → (Below g w wb ∧ wb.cell? ⟨g, 0, none⟩ = some (.string row) ∧ wb.cell? ⟨g, 1, none⟩ = some (.int .i64 k) ∧ wb.cell? ⟨g, 2, none⟩ = some (.int .u8 b) ∧ wb.cell? ⟨g, 3, none⟩ = some (.int .i64 n) ∧ Blk wb g (rdV row k b n got) 67) from fun wa wb kk ⟨h1, _, _, _, _, h4⟩ => rd_keep kk h1 h4)
  have KC := Lib.hid (show ∀ wa h i u, (Below g w wa ∧ wa.cell? ⟨g, 0, none⟩ = some (.string row) ∧ wa.cell? ⟨g, 1, none⟩ = some (.int .i64 k) ∧ wa.cell? ⟨g, 2, none⟩ = some (.int .u8 b) ∧ wa.cell? ⟨g, 3, none⟩ = some (.int .i64 n) ∧ Blk wa g (rdV row k b n got) 67) → g < h → (Below g w (wa.setCell ⟨h, i, none⟩ u) ∧ (wa.setCell ⟨h, i, none⟩ u).cell? ⟨g, 0, none⟩ = some (.string row) ∧ (wa.setCell ⟨h, i, none⟩ u).cell? ⟨g, 1, none⟩ = some (.int .i64 k) ∧ (wa.setCell ⟨h, i, none⟩ u).cell? ⟨g, 2, none⟩ = some (.int .u8 b) ∧ (wa.setCell ⟨h, i, none⟩ u).cell? ⟨g, 3, none⟩ = some (.int .i64 n) ∧ Blk (wa.setCell ⟨h, i, none⟩ u) g (rdV row k b n got) 67) from fun wa h i u ⟨h1, _, _, _, _, h4⟩ hg => rd_other h1 h4 hg)
  go_wp2_with fail
  go_region_held3 (fun w' => Below g w w' ∧ w'.cell? ⟨g, 0, none⟩ = some (.string row) ∧ w'.cell? ⟨g, 1, none⟩ = some (.int .i64 k) ∧ w'.cell? ⟨g, 2, none⟩ = some (.int .u8 b) ∧ w'.cell? ⟨g, 3, none⟩ = some (.int .i64 n) ∧ Blk w' g (rdV row k b n got) 67)
    (first | assumption | exact ⟨hW'.drew, c0, c1, c2, c3, hB'.drew⟩ | exact KS.out _ _ ((Below.refl _ _).alloc (Nat.le_refl _) _) (by assumption) | exact KC.out _ _ _ _ (KC.out _ _ _ _ (by assumption) hz') hz')
    (first
      | (go_at_call 63; (with_reducible refine (CT.out _).mono ?_); rintro e w1 ⟨rfl, hb1⟩; have hN := (show Two ((wr.alloc (.cells #[.int .u8 0, .int .i64 0] 65)).drew) wr.heap.size (.int .u8 0) (.int .i64 0) 65 from two_new _ _ _ _).keep hb1; have hn0 := hN.cell0; have hn1 := hN.cell1; have hn2 := hN.free0; have hn3 := hN.free1; have hS := KS.out _ _ hb1 (by assumption))
      | (go_at_call 63; (with_reducible refine (CT.out _).mono ?_); rintro e w1 ⟨rfl, hb1⟩; have hS := KS.out _ _ hb1 (by assumption)))
  · have hbW : Below g w (w1.alloc (.cells #[.int .u8 y, .int .i64 m] 65)) := hS.1.alloc (Nat.le_of_lt hS.2.2.2.2.2.lt) _
    have hRx := hS.2.2.2.2.2.alloc (.cells #[.int .u8 y, .int .i64 m] 65)
    have hTy := two_new w1 (.int .u8 y) (.int .i64 m) 65
    have hgy : g < w1.heap.size := hS.2.2.2.2.2.lt
    revert hbW hRx hTy hgy
    generalize w1.alloc (.cells #[.int .u8 y, .int .i64 m] 65) = W
    generalize w1.heap.size = gy
    intro hbW hRx hTy hgy
    have HR := Lib.hid hRx
    have HW := Lib.hid hbW
    have HT := Lib.hid hTy
    have hy0 := hTy.cell0
    have hy1 := hTy.cell1
    clear hRx hbW hTy
    go_wp2
    go_ret
    exact ⟨rfl, HR.out, HW.out⟩
  all_goals
    have hN2 := (hN.set0 (.int .u8 y)).set1 (.int .i64 m)
    have hS2 := KC.out _ wr.heap.size 1 (.int .i64 m) (KC.out _ wr.heap.size 0 (.int .u8 y) hS hz') hz'
    have hbW := hS2.1
    have hRx := hS2.2.2.2.2.2
    have hTy := hN2
    have hgy : g < wr.heap.size := hz'
    clear hS2 hN2
    revert hbW hRx hTy hgy
    generalize (w1.setCell ⟨wr.heap.size, 0, none⟩ (.int .u8 y)).setCell ⟨wr.heap.size, 1, none⟩ (.int .i64 m) = W
    generalize wr.heap.size = gy
    intro hbW hRx hTy hgy
    have HR := Lib.hid hRx
    have HW := Lib.hid hbW
    have HT := Lib.hid hTy
    have hy0 := hTy.cell0
    have hy1 := hTy.cell1
    clear hRx hbW hTy
    go_wp2
    go_ret
    exact ⟨rfl, HR.out, HW.out⟩

set_option maxRecDepth 100000 in
set_option maxHeartbeats 4000000 in
theorem take4_put (row got : ByteArray) (k b n : Nat) (g : Nat) (w : World) (h4 : row.size ≤ 4000) (hlt : k < row.size) (hm : B.mayB b n = true) (hc : B.okc row[k] = true) (hk : B.kind (b, n) row[k].toNat = 2) (hB : Blk w g (rdV row k b n got) 67) :
    Calls Try.prog 55 #[.pointer (some ⟨g, 0, none⟩)] w fun e w' => e = .returned (.int .i64 0) ∧ Blk w' g (rdV row (k + 1) (B.kn (b, n) row[k].toNat).1 (B.kn (b, n) row[k].toNat).2 got) 67 ∧ Below g w w' := by
  have c0 := hB.cell 0 _ rfl
  have c1 := hB.cell 1 _ rfl
  have c2 := hB.cell 2 _ rfl
  have c3 := hB.cell 3 _ rfl
  have hz := hB.lt
  have hO := Lib.hid (B.out_snoc got.data.toList row k hlt)
  rw [of_list] at hO
  have CT0 := fun w => stp_any b row[k].toNat n w hm (bitB_of hc)
  rw [hk] at CT0
  obtain ⟨y, m, hy⟩ : ∃ y m, (y, m) = B.kn (b, n) row[k].toNat := ⟨_, _, rfl⟩
  rw [← hy] at CT0
  try rw [← hy]
  have CT : Hid (∀ w, Calls Try.prog 63 #[.agg #[.int .u8 b, .int .i64 n], .int .u8 row[k].toNat] w fun e w' => e = .returned (.tuple #[.agg #[.int .u8 y, .int .i64 m], .int .i64 2, .int .i64 0]) ∧ Below w.heap.size w w') := Lib.hid CT0
  have hkq : ((k : Int) == row.size) = false := by simp; omega
  have q0 : (0 : Int) ≤ (k : Int) := by omega
  have q1 : (k : Int) < (row.size : Int) := by omega
  have q2 : (k : Int) ≤ 4000 := by omega
  clear CT0 hm hc hk hy
  go_enter Try.func55, Try.ntmps55
  go_wp2
  go_quiet (fail)
  rename_i nq
  have hB' : Blk (w.drewN nq) g (rdV row k b n got) 67 := hB
  have hW' : Below g w (w.drewN nq) := below_drewN (Below.refl _ _) _
  have hz' : g < (w.drewN nq).heap.size := hz
  clear c0 c1 c2 c3 hz hB
  generalize w.drewN nq = wr at *
  have c0 := hB'.cell 0 _ rfl
  have c1 := hB'.cell 1 _ rfl
  have c2 := hB'.cell 2 _ rfl
  have c3 := hB'.cell 3 _ rfl
  have KS := Lib.hid (show ∀ wa wb, Below wa.heap.size wa wb → (Below g w wa ∧ wa.cell? ⟨g, 0, none⟩ = some (.string row) ∧ wa.cell? ⟨g, 1, none⟩ = some (.int .i64 k) ∧ wa.cell? ⟨g, 2, none⟩ = some (.int .u8 b) ∧ wa.cell? ⟨g, 3, none⟩ = some (.int .i64 n) ∧ Blk wa g (rdV row k b n got) 67) → (Below g w wb ∧ wb.cell? ⟨g, 0, none⟩ = some (.string row) ∧ wb.cell? ⟨g, 1, none⟩ = some (.int .i64 k) ∧ wb.cell? ⟨g, 2, none⟩ = some (.int .u8 b) ∧ wb.cell? ⟨g, 3, none⟩ = some (.int .i64 n) ∧ Blk wb g (rdV row k b n got) 67) from fun wa wb kk ⟨h1, _, _, _, _, h4⟩ => rd_keep kk h1 h4)
  have KC := Lib.hid (show ∀ wa h i u, (Below g w wa ∧ wa.cell? ⟨g, 0, none⟩ = some (.string row) ∧ wa.cell? ⟨g, 1, none⟩ = some (.int .i64 k) ∧ wa.cell? ⟨g, 2, none⟩ = some (.int .u8 b) ∧ wa.cell? ⟨g, 3, none⟩ = some (.int .i64 n) ∧ Blk wa g (rdV row k b n got) 67) → g < h → (Below g w (wa.setCell ⟨h, i, none⟩ u) ∧ (wa.setCell ⟨h, i, none⟩ u).cell? ⟨g, 0, none⟩ = some (.string row) ∧ (wa.setCell ⟨h, i, none⟩ u).cell? ⟨g, 1, none⟩ = some (.int .i64 k) ∧ (wa.setCell ⟨h, i, none⟩ u).cell? ⟨g, 2, none⟩ = some (.int .u8 b) ∧ (wa.setCell ⟨h, i, none⟩ u).cell? ⟨g, 3, none⟩ = some (.int .i64 n) ∧ Blk (wa.setCell ⟨h, i, none⟩ u) g (rdV row k b n got) 67) from fun wa h i u ⟨h1, _, _, _, _, h4⟩ hg => rd_other h1 h4 hg)
  go_wp2_with fail
  go_region_held3 (fun w' => Below g w w' ∧ w'.cell? ⟨g, 0, none⟩ = some (.string row) ∧ w'.cell? ⟨g, 1, none⟩ = some (.int .i64 k) ∧ w'.cell? ⟨g, 2, none⟩ = some (.int .u8 b) ∧ w'.cell? ⟨g, 3, none⟩ = some (.int .i64 n) ∧ Blk w' g (rdV row k b n got) 67)
    (first | assumption | exact ⟨hW'.drew, c0, c1, c2, c3, hB'.drew⟩ | exact KS.out _ _ ((Below.refl _ _).alloc (Nat.le_refl _) _) (by assumption) | exact KC.out _ _ _ _ (KC.out _ _ _ _ (by assumption) hz') hz')
    (first
      | (go_at_call 63; (with_reducible refine (CT.out _).mono ?_); rintro e w1 ⟨rfl, hb1⟩; have hN := (show Two ((wr.alloc (.cells #[.int .u8 0, .int .i64 0] 65)).drew) wr.heap.size (.int .u8 0) (.int .i64 0) 65 from two_new _ _ _ _).keep hb1; have hn0 := hN.cell0; have hn1 := hN.cell1; have hn2 := hN.free0; have hn3 := hN.free1; have hS := KS.out _ _ hb1 (by assumption))
      | (go_at_call 63; (with_reducible refine (CT.out _).mono ?_); rintro e w1 ⟨rfl, hb1⟩; have hS := KS.out _ _ hb1 (by assumption)))
  · have hbW : Below g w (w1.alloc (.cells #[.int .u8 y, .int .i64 m] 65)) := hS.1.alloc (Nat.le_of_lt hS.2.2.2.2.2.lt) _
    have hRx := hS.2.2.2.2.2.alloc (.cells #[.int .u8 y, .int .i64 m] 65)
    have hTy := two_new w1 (.int .u8 y) (.int .i64 m) 65
    have hgy : g < w1.heap.size := hS.2.2.2.2.2.lt
    revert hbW hRx hTy hgy
    generalize w1.alloc (.cells #[.int .u8 y, .int .i64 m] 65) = W
    generalize w1.heap.size = gy
    intro hbW hRx hTy hgy
    have HR := Lib.hid hRx
    have HW := Lib.hid hbW
    have HT := Lib.hid hTy
    have hy0 := hTy.cell0
    have hy1 := hTy.cell1
    clear hRx hbW hTy
    have k1 := HR.out.cell 1 _ rfl
    have k2 := HR.out.cell 2 _ rfl
    have k3 := HR.out.cell 3 _ rfl
    have z1 := HR.out.free 1
    have z2 := HR.out.free 2
    have z3 := HR.out.free 3
    go_wp2
    go_ret
    exact ⟨rfl, blk_set1 (blk_set3 (blk_set2 HR.out _) _) _, ((HW.out.setCell (show g ≤ g from Nat.le_refl _) _).setCell (show g ≤ g from Nat.le_refl _) _).setCell (show g ≤ g from Nat.le_refl _) _⟩
  all_goals
    have hN2 := (hN.set0 (.int .u8 y)).set1 (.int .i64 m)
    have hS2 := KC.out _ wr.heap.size 1 (.int .i64 m) (KC.out _ wr.heap.size 0 (.int .u8 y) hS hz') hz'
    have hbW := hS2.1
    have hRx := hS2.2.2.2.2.2
    have hTy := hN2
    have hgy : g < wr.heap.size := hz'
    clear hS2 hN2
    revert hbW hRx hTy hgy
    generalize (w1.setCell ⟨wr.heap.size, 0, none⟩ (.int .u8 y)).setCell ⟨wr.heap.size, 1, none⟩ (.int .i64 m) = W
    generalize wr.heap.size = gy
    intro hbW hRx hTy hgy
    have HR := Lib.hid hRx
    have HW := Lib.hid hbW
    have HT := Lib.hid hTy
    have hy0 := hTy.cell0
    have hy1 := hTy.cell1
    clear hRx hbW hTy
    have k1 := HR.out.cell 1 _ rfl
    have k2 := HR.out.cell 2 _ rfl
    have k3 := HR.out.cell 3 _ rfl
    have z1 := HR.out.free 1
    have z2 := HR.out.free 2
    have z3 := HR.out.free 3
    go_wp2
    go_ret
    exact ⟨rfl, blk_set1 (blk_set3 (blk_set2 HR.out _) _) _, ((HW.out.setCell (show g ≤ g from Nat.le_refl _) _).setCell (show g ≤ g from Nat.le_refl _) _).setCell (show g ≤ g from Nat.le_refl _) _⟩

set_option maxRecDepth 100000 in
set_option maxHeartbeats 4000000 in
theorem take4_data (row got : ByteArray) (k b n : Nat) (g : Nat) (w : World) (h4 : row.size ≤ 4000) (hg4 : got.size ≤ 4000) (hlt : k < row.size) (hm : B.mayB b n = true) (hc : B.okc row[k] = true) (hk : B.kind (b, n) row[k].toNat = 1) (hB : Blk w g (rdV row k b n got) 67) :
    Calls Try.prog 55 #[.pointer (some ⟨g, 0, none⟩)] w fun e w' => e = .returned (.int .i64 0) ∧ Blk w' g (rdV row (k + 1) (B.kn (b, n) row[k].toNat).1 (B.kn (b, n) row[k].toNat).2 ⟨(got.data.toList ++ [row[k]]).toArray⟩) 67 ∧ Below g w w' := by
  have c0 := hB.cell 0 _ rfl
  have c1 := hB.cell 1 _ rfl
  have c2 := hB.cell 2 _ rfl
  have c3 := hB.cell 3 _ rfl
  have hz := hB.lt
  have hO := Lib.hid (B.out_snoc got.data.toList row k hlt)
  rw [of_list] at hO
  have CT0 := fun w => stp_any b row[k].toNat n w hm (bitB_of hc)
  rw [hk] at CT0
  obtain ⟨y, m, hy⟩ : ∃ y m, (y, m) = B.kn (b, n) row[k].toNat := ⟨_, _, rfl⟩
  rw [← hy] at CT0
  try rw [← hy]
  have CT : Hid (∀ w, Calls Try.prog 63 #[.agg #[.int .u8 b, .int .i64 n], .int .u8 row[k].toNat] w fun e w' => e = .returned (.tuple #[.agg #[.int .u8 y, .int .i64 m], .int .i64 1, .int .i64 0]) ∧ Below w.heap.size w w') := Lib.hid CT0
  have hkq : ((k : Int) == row.size) = false := by simp; omega
  have q0 : (0 : Int) ≤ (k : Int) := by omega
  have q1 : (k : Int) < (row.size : Int) := by omega
  have q2 : (k : Int) ≤ 4000 := by omega
  clear CT0 hm hc hk hy
  go_enter Try.func55, Try.ntmps55
  go_wp2
  go_quiet (fail)
  rename_i nq
  have hB' : Blk (w.drewN nq) g (rdV row k b n got) 67 := hB
  have hW' : Below g w (w.drewN nq) := below_drewN (Below.refl _ _) _
  have hz' : g < (w.drewN nq).heap.size := hz
  clear c0 c1 c2 c3 hz hB
  generalize w.drewN nq = wr at *
  have c0 := hB'.cell 0 _ rfl
  have c1 := hB'.cell 1 _ rfl
  have c2 := hB'.cell 2 _ rfl
  have c3 := hB'.cell 3 _ rfl
  have KS := Lib.hid (show ∀ wa wb, Below wa.heap.size wa wb → (Below g w wa ∧ wa.cell? ⟨g, 0, none⟩ = some (.string row) ∧ wa.cell? ⟨g, 1, none⟩ = some (.int .i64 k) ∧ wa.cell? ⟨g, 2, none⟩ = some (.int .u8 b) ∧ wa.cell? ⟨g, 3, none⟩ = some (.int .i64 n) ∧ Blk wa g (rdV row k b n got) 67) → (Below g w wb ∧ wb.cell? ⟨g, 0, none⟩ = some (.string row) ∧ wb.cell? ⟨g, 1, none⟩ = some (.int .i64 k) ∧ wb.cell? ⟨g, 2, none⟩ = some (.int .u8 b) ∧ wb.cell? ⟨g, 3, none⟩ = some (.int .i64 n) ∧ Blk wb g (rdV row k b n got) 67) from fun wa wb kk ⟨h1, _, _, _, _, h4⟩ => rd_keep kk h1 h4)
  have KC := Lib.hid (show ∀ wa h i u, (Below g w wa ∧ wa.cell? ⟨g, 0, none⟩ = some (.string row) ∧ wa.cell? ⟨g, 1, none⟩ = some (.int .i64 k) ∧ wa.cell? ⟨g, 2, none⟩ = some (.int .u8 b) ∧ wa.cell? ⟨g, 3, none⟩ = some (.int .i64 n) ∧ Blk wa g (rdV row k b n got) 67) → g < h → (Below g w (wa.setCell ⟨h, i, none⟩ u) ∧ (wa.setCell ⟨h, i, none⟩ u).cell? ⟨g, 0, none⟩ = some (.string row) ∧ (wa.setCell ⟨h, i, none⟩ u).cell? ⟨g, 1, none⟩ = some (.int .i64 k) ∧ (wa.setCell ⟨h, i, none⟩ u).cell? ⟨g, 2, none⟩ = some (.int .u8 b) ∧ (wa.setCell ⟨h, i, none⟩ u).cell? ⟨g, 3, none⟩ = some (.int .i64 n) ∧ Blk (wa.setCell ⟨h, i, none⟩ u) g (rdV row k b n got) 67) from fun wa h i u ⟨h1, _, _, _, _, h4⟩ hg => rd_other h1 h4 hg)
  go_wp2_with fail
  go_region_held3 (fun w' => Below g w w' ∧ w'.cell? ⟨g, 0, none⟩ = some (.string row) ∧ w'.cell? ⟨g, 1, none⟩ = some (.int .i64 k) ∧ w'.cell? ⟨g, 2, none⟩ = some (.int .u8 b) ∧ w'.cell? ⟨g, 3, none⟩ = some (.int .i64 n) ∧ Blk w' g (rdV row k b n got) 67)
    (first | assumption | exact ⟨hW'.drew, c0, c1, c2, c3, hB'.drew⟩ | exact KS.out _ _ ((Below.refl _ _).alloc (Nat.le_refl _) _) (by assumption) | exact KC.out _ _ _ _ (KC.out _ _ _ _ (by assumption) hz') hz')
    (first
      | (go_at_call 63; (with_reducible refine (CT.out _).mono ?_); rintro e w1 ⟨rfl, hb1⟩; have hN := (show Two ((wr.alloc (.cells #[.int .u8 0, .int .i64 0] 65)).drew) wr.heap.size (.int .u8 0) (.int .i64 0) 65 from two_new _ _ _ _).keep hb1; have hn0 := hN.cell0; have hn1 := hN.cell1; have hn2 := hN.free0; have hn3 := hN.free1; have hS := KS.out _ _ hb1 (by assumption))
      | (go_at_call 63; (with_reducible refine (CT.out _).mono ?_); rintro e w1 ⟨rfl, hb1⟩; have hS := KS.out _ _ hb1 (by assumption)))
  · have hbW : Below g w (w1.alloc (.cells #[.int .u8 y, .int .i64 m] 65)) := hS.1.alloc (Nat.le_of_lt hS.2.2.2.2.2.lt) _
    have hRx := hS.2.2.2.2.2.alloc (.cells #[.int .u8 y, .int .i64 m] 65)
    have hTy := two_new w1 (.int .u8 y) (.int .i64 m) 65
    have hgy : g < w1.heap.size := hS.2.2.2.2.2.lt
    revert hbW hRx hTy hgy
    generalize w1.alloc (.cells #[.int .u8 y, .int .i64 m] 65) = W
    generalize w1.heap.size = gy
    intro hbW hRx hTy hgy
    have HR := Lib.hid hRx
    have HW := Lib.hid hbW
    have HT := Lib.hid hTy
    have hy0 := hTy.cell0
    have hy1 := hTy.cell1
    clear hRx hbW hTy
    have k0 := HR.out.cell 0 _ rfl
    have k1 := HR.out.cell 1 _ rfl
    have k4 := HR.out.cell 4 _ rfl
    have z4 := HR.out.free 4
    have y1 : IntKind.i64.wrap ((k : Int) + 1) = (k : Int) + 1 := IntWalk.i64_in _ (by omega)
    have qs : ¬ 9223372036854775807 < got.size + (min (k + 1) row.size - k) := by omega
    have q3 : (0 : Int) ≤ (k : Int) + 1 := by omega
    have q4 : (k : Int) + 1 ≤ (row.size : Int) := by omega
    have q5 : ((k : Int) + 1).toNat = k + 1 := by omega
    have q6 : (k : Int) ≤ (k : Int) + 1 := by omega
    go_wp2
    refine wp_region_still_tail 21 (by kernel_rfl) (by kernel_rfl) ?_
    change wpStill _ _ W.drew (fun a' => wpList _ _ _ _ a' W.drew) _ _
    have HR' : Blk W.drew g (rdV row k b n got) 67 := HR.out
    have HW' : Below g w W.drew := HW.out.drew
    have HT' : Two W.drew gy (.int .u8 y) (.int .i64 m) 65 := HT.out
    clear HR HW HT k0 k1 k4 z4 KS KC hy0 hy1
    generalize W.drew = W2 at *
    have k0 := HR'.cell 0 _ rfl
    have k1 := HR'.cell 1 _ rfl
    have k4 := HR'.cell 4 _ rfl
    have z4 := HR'.free 4
    simp only [List.take_succ_cons, List.take_zero, List.drop_succ_cons, List.drop_zero]
    repeat still_step
    refine wpStill_nil ?_
    have HT3 : Two (W2.setCell ⟨g, 4, none⟩ (.string (got ++ row.extract k (k + 1)))) gy (.int .u8 y) (.int .i64 m) 65 := by
      show (W2.setCell ⟨g, 4, none⟩ (.string (got ++ row.extract k (k + 1)))).heap[gy]? = _
      rw [Below.heap_setCell _ _ _ _ (show gy ≠ g from Nat.ne_of_gt hgy)]; exact HT'
    have hy0 := HT3.cell0
    have hy1 := HT3.cell1
    have k2 := HR'.cell 2 _ rfl
    have k3 := HR'.cell 3 _ rfl
    have z1 := HR'.free 1
    have z2 := HR'.free 2
    have z3 := HR'.free 3
    go_wp2
    go_ret
    refine ⟨rfl, ?_, ?_⟩
    · rw [← hO.out]
      exact blk_set1 (blk_set3 (blk_set2 (blk_set4 HR' _) _) _) _
    · exact (((HW'.setCell (show g ≤ g from Nat.le_refl _) _).setCell (show g ≤ g from Nat.le_refl _) _).setCell (show g ≤ g from Nat.le_refl _) _).setCell (show g ≤ g from Nat.le_refl _) _
  all_goals
    have hN2 := (hN.set0 (.int .u8 y)).set1 (.int .i64 m)
    have hS2 := KC.out _ wr.heap.size 1 (.int .i64 m) (KC.out _ wr.heap.size 0 (.int .u8 y) hS hz') hz'
    have hbW := hS2.1
    have hRx := hS2.2.2.2.2.2
    have hTy := hN2
    have hgy : g < wr.heap.size := hz'
    clear hS2 hN2
    revert hbW hRx hTy hgy
    generalize (w1.setCell ⟨wr.heap.size, 0, none⟩ (.int .u8 y)).setCell ⟨wr.heap.size, 1, none⟩ (.int .i64 m) = W
    generalize wr.heap.size = gy
    intro hbW hRx hTy hgy
    have HR := Lib.hid hRx
    have HW := Lib.hid hbW
    have HT := Lib.hid hTy
    have hy0 := hTy.cell0
    have hy1 := hTy.cell1
    clear hRx hbW hTy
    have k0 := HR.out.cell 0 _ rfl
    have k1 := HR.out.cell 1 _ rfl
    have k4 := HR.out.cell 4 _ rfl
    have z4 := HR.out.free 4
    have y1 : IntKind.i64.wrap ((k : Int) + 1) = (k : Int) + 1 := IntWalk.i64_in _ (by omega)
    have qs : ¬ 9223372036854775807 < got.size + (min (k + 1) row.size - k) := by omega
    have q3 : (0 : Int) ≤ (k : Int) + 1 := by omega
    have q4 : (k : Int) + 1 ≤ (row.size : Int) := by omega
    have q5 : ((k : Int) + 1).toNat = k + 1 := by omega
    have q6 : (k : Int) ≤ (k : Int) + 1 := by omega
    go_wp2
    refine wp_region_still_tail 21 (by kernel_rfl) (by kernel_rfl) ?_
    change wpStill _ _ W.drew (fun a' => wpList _ _ _ _ a' W.drew) _ _
    have HR' : Blk W.drew g (rdV row k b n got) 67 := HR.out
    have HW' : Below g w W.drew := HW.out.drew
    have HT' : Two W.drew gy (.int .u8 y) (.int .i64 m) 65 := HT.out
    clear HR HW HT k0 k1 k4 z4 KS KC hy0 hy1
    generalize W.drew = W2 at *
    have k0 := HR'.cell 0 _ rfl
    have k1 := HR'.cell 1 _ rfl
    have k4 := HR'.cell 4 _ rfl
    have z4 := HR'.free 4
    simp only [List.take_succ_cons, List.take_zero, List.drop_succ_cons, List.drop_zero]
    repeat still_step
    refine wpStill_nil ?_
    have HT3 : Two (W2.setCell ⟨g, 4, none⟩ (.string (got ++ row.extract k (k + 1)))) gy (.int .u8 y) (.int .i64 m) 65 := by
      show (W2.setCell ⟨g, 4, none⟩ (.string (got ++ row.extract k (k + 1)))).heap[gy]? = _
      rw [Below.heap_setCell _ _ _ _ (show gy ≠ g from Nat.ne_of_gt hgy)]; exact HT'
    have hy0 := HT3.cell0
    have hy1 := HT3.cell1
    have k2 := HR'.cell 2 _ rfl
    have k3 := HR'.cell 3 _ rfl
    have z1 := HR'.free 1
    have z2 := HR'.free 2
    have z3 := HR'.free 3
    go_wp2
    go_ret
    refine ⟨rfl, ?_, ?_⟩
    · rw [← hO.out]
      exact blk_set1 (blk_set3 (blk_set2 (blk_set4 HR' _) _) _) _
    · exact (((HW'.setCell (show g ≤ g from Nat.le_refl _) _).setCell (show g ≤ g from Nat.le_refl _) _).setCell (show g ≤ g from Nat.le_refl _) _).setCell (show g ≤ g from Nat.le_refl _) _
end Go.Proofs.Ytdpfmpbnahhjmaa
