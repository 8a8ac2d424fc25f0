/- Layer 4's law FrameBack: plain facts, and its walk. -/
import Derived.Test.YtdpfmpbnahhjmaaParse4
import Derived.Test.YtdpfmpbnahhjmaaFLawA
import Derived.Test.YtdpfmpbnahhjmaaRefRight
import Derived.Deep.RegionHeld3
import Derived.Deep.DrawnRows
import Derived.Deep.CutRange
namespace Go.Proofs.Ytdpfmpbnahhjmaa
open Go.RowKit Go.Lib
attribute [local go_sem ↓] Go.wp_at_zero Go.wp_at_succ

set_option maxRecDepth 100000 in
set_option maxHeartbeats 16000000 in
theorem fback_false (id : Nat) (ext rem : Bool) (dlc : Int) (data t behind bh : ByteArray) (came : Bool) (w : World) (hbh : (100 < behind.size ∧ behind.extract 0 100 = bh) ∨ (behind.size ≤ 100 ∧ behind = bh))
    (CFew : Hid (∀ w, Calls Try.prog 9 #[.agg (frV id ext rem dlc data)] w fun e w' => e = .returned (.agg (frV id ext rem dlc t)) ∧ Below w.heap.size w w'))
    (CAl : Hid (∀ w, Calls Try.prog 13 #[] w fun e w' => e = .returned (.bool true) ∧ Below w.heap.size w w'))
    (CBt : Hid (∀ w, Calls Try.prog 11 #[.agg (frV id ext rem dlc t)] w fun e w' => e = .returned (.tuple #[.string ⟨#[]⟩, .int .i64 1]) ∧ Below w.heap.size w w'))
    (CFr : Hid (∀ w, Calls Try.prog 14 #[.agg (frV id ext rem dlc t)] w fun e w' => e = .returned (.bool false) ∧ Below w.heap.size w w')) :
    Calls Try.prog 5 #[.agg (frV id ext rem dlc data), .string behind, .bool came] w fun e w' => e = .returned (.bool true) ∧ Below w.heap.size w w' := by
  have hB0 := blk_new w (frV id ext rem dlc data) 24 w.heap.size rfl
  have hW0 : Below w.heap.size w (w.alloc (.cells (frV id ext rem dlc data) 24)) := (Below.refl _ _).alloc (Nat.le_refl _) _
  go_enter Try.func5, Try.ntmps5
  go_upto_region 1 with fail
  go_cut [1] from 20 to 26 (fun v wc => v = .string bh ∧ Blk wc w.heap.size (frV id ext rem dlc t) 24 ∧ Below w.heap.size w wc)
  case first =>
    rcases hbh with ⟨h1, ht⟩ | ⟨h1, rfl⟩
    all_goals
      go_region_with (first
        | (go_at_call 9; (with_reducible refine (CFew.out _).mono ?_); rintro e w1 ⟨rfl, hb⟩; have hB1 := hB0.drew.keep hb; have hW := below_keep hW0.drew hb (Nat.le_of_lt hB0.lt); have c0 := hB1.cell 0 _ rfl; have c1 := hB1.cell 1 _ rfl; have c2 := hB1.cell 2 _ rfl; have c3 := hB1.cell 3 _ rfl; have c4 := hB1.cell 4 _ rfl; have z0 := hB1.free 0; have z1 := hB1.free 1; have z2 := hB1.free 2; have z3 := hB1.free 3; have z4 := hB1.free 4))
      all_goals
        go_wp2
        go_meet
        case rel => exact ⟨rfl, blk_set4 (blk_set3 (blk_set2 (blk_set1 (blk_set0 hB1 (.int .u32 id)) (.bool ext)) (.bool rem)) (.int .i64 dlc)) (.string t), five_below hW _ _ _ _ _⟩
  case rest =>
    clear hB0 hW0 hbh
    obtain ⟨rfl, hB1, hW⟩ := hcut
    have c0 := hB1.cell 0 _ rfl
    have c1 := hB1.cell 1 _ rfl
    have c2 := hB1.cell 2 _ rfl
    have c3 := hB1.cell 3 _ rfl
    have c4 := hB1.cell 4 _ rfl
    go_wp2_with (first
      | (go_at_call 11; (with_reducible refine (CBt.out _).mono ?_); rintro e w2 ⟨rfl, hb⟩; have hB2 := hB1.keep hb; replace hW := below_keep hW hb hW.size; clear hb hB1 c0 c1 c2 c3 c4)
      | (go_at_call 13; (with_reducible refine (CAl.out _).mono ?_); rintro e w3 ⟨rfl, hb⟩; have hB3 := hB2.keep hb; replace hW := below_keep hW hb hW.size; clear hb hB2; have c0 := hB3.cell 0 _ rfl; have c1 := hB3.cell 1 _ rfl; have c2 := hB3.cell 2 _ rfl; have c3 := hB3.cell 3 _ rfl; have c4 := hB3.cell 4 _ rfl)
      | (go_at_call 14; (with_reducible refine (CFr.out _).mono ?_); rintro e w4 ⟨rfl, hb⟩; replace hW := below_keep hW hb hW.size))
    go_ret
    exact ⟨rfl, hW⟩

set_option maxRecDepth 100000 in
set_option maxHeartbeats 16000000 in
theorem fback_ff (id n : Nat) (ext rem : Bool) (data t u hd behind bh : ByteArray) (w : World) (hbh : (100 < behind.size ∧ behind.extract 0 100 = bh) ∨ (behind.size ≤ 100 ∧ behind = bh))
    (CFew : Hid (∀ w, Calls Try.prog 9 #[.agg (frV id ext rem n data)] w fun e w' => e = .returned (.agg (frV id ext rem n t)) ∧ Below w.heap.size w w'))
    (CAl : Hid (∀ w, Calls Try.prog 13 #[] w fun e w' => e = .returned (.bool true) ∧ Below w.heap.size w w'))
    (CBt : Hid (∀ w, Calls Try.prog 11 #[.agg (frV id ext rem n t)] w fun e w' => e = .returned (.tuple #[.string u, .int .i64 0]) ∧ Below w.heap.size w w'))
    (hu44 : 44 ≤ u.size) (hu160 : u.size ≤ 160) (hbz : bh.size ≤ 100)
    (CRr : Hid (∀ w, Calls Try.prog 20 #[.string bh] w fun e w' => e = .returned (.bool false) ∧ w = w'))
    (CP : Hid (∀ w, Calls Try.prog 19 #[.string (u ++ ⟨#[]⟩)] w fun x w' => x = .returned (.tuple #[.agg (frV id ext rem n t), .int .i64 u.size, .int .i64 0]) ∧ Below w.heap.size w w'))
    (CHd : Hid (∀ w, Calls Try.prog 10 #[.agg (frV id ext rem n t)] w fun e w' => e = .returned (.tuple #[.string hd, .int .i64 0]) ∧ Below w.heap.size w w'))
    (CRd : Hid (∀ w, Calls Try.prog 18 #[.string hd] w fun x w' => x = .returned (.tuple #[.agg (frV id ext rem n t), .int .i64 0]) ∧ Below w.heap.size w w'))
    (CSz : Hid (∀ w, Calls Try.prog 17 #[.string hd] w fun x w' => x = .returned (.tuple #[.int .i64 hd.size, .int .i64 0]) ∧ Below w.heap.size w w')) :
    Calls Try.prog 5 #[.agg (frV id ext rem n data), .string behind, .bool false] w fun e w' => e = .returned (.bool true) ∧ Below w.heap.size w w' := by
  have hi44 : ¬ (u.size : Int) < 44 := by omega
  have hi160 : ¬ (160 : Int) < u.size := by omega
  have hB0 := blk_new w (frV id ext rem n data) 24 w.heap.size rfl
  have hW0 : Below w.heap.size w (w.alloc (.cells (frV id ext rem n data) 24)) := (Below.refl _ _).alloc (Nat.le_refl _) _
  go_enter Try.func5, Try.ntmps5
  go_upto_region 1 with fail
  go_cut [1] from 20 to 26 (fun v wc => v = .string bh ∧ Blk wc w.heap.size (frV id ext rem n t) 24 ∧ Below w.heap.size w wc)
  case first =>
    rcases hbh with ⟨h1, ht⟩ | ⟨h1, rfl⟩
    all_goals
      go_region_with (first
        | (go_at_call 9; (with_reducible refine (CFew.out _).mono ?_); rintro e w1 ⟨rfl, hb⟩; have hB1 := hB0.drew.keep hb; have hW := below_keep hW0.drew hb (Nat.le_of_lt hB0.lt); have c0 := hB1.cell 0 _ rfl; have c1 := hB1.cell 1 _ rfl; have c2 := hB1.cell 2 _ rfl; have c3 := hB1.cell 3 _ rfl; have c4 := hB1.cell 4 _ rfl; have z0 := hB1.free 0; have z1 := hB1.free 1; have z2 := hB1.free 2; have z3 := hB1.free 3; have z4 := hB1.free 4))
      all_goals
        go_wp2
        go_meet
        case rel => exact ⟨rfl, blk_set4 (blk_set3 (blk_set2 (blk_set1 (blk_set0 hB1 (.int .u32 id)) (.bool ext)) (.bool rem)) (.int .i64 n)) (.string t), five_below hW _ _ _ _ _⟩
  case rest =>
    clear hB0 hW0 hbh
    obtain ⟨rfl, hB1, hW⟩ := hcut
    have c0 := hB1.cell 0 _ rfl
    have c1 := hB1.cell 1 _ rfl
    have c2 := hB1.cell 2 _ rfl
    have c3 := hB1.cell 3 _ rfl
    have c4 := hB1.cell 4 _ rfl
    go_wp2_with (first
      | (go_at_call 11; (with_reducible refine (CBt.out _).mono ?_); rintro e w2 ⟨rfl, hb⟩; have hB2 := hB1.keep hb; replace hW := below_keep hW hb hW.size; clear hb hB1 c0 c1 c2 c3 c4)
      | (go_at_call 20; (with_reducible refine (CRr.out _).mono ?_); rintro e w' ⟨rfl, rfl⟩)
      | (go_at_call 13; (with_reducible refine (CAl.out _).mono ?_); rintro e w3 ⟨rfl, hb⟩; have hB3 := hB2.keep hb; replace hW := below_keep hW hb hW.size; clear hb hB2)
      | (go_at_call 19; (with_reducible refine (CP.out _).mono ?_); rintro e w5 ⟨rfl, hb⟩; have hX5 := blk_new w5 (frV id ext rem n t) 24 w5.heap.size rfl; have hB5 := (hB3.keep hb).alloc (.cells (frV id ext rem n t) 24); have hz5 := (hB3.keep hb).lt; replace hW := (below_keep hW hb hW.size).alloc (by omega) (.cells (frV id ext rem n t) 24); clear hb hB3; have d0 := hB5.cell 0 _ rfl; have d1 := hB5.cell 1 _ rfl; have d2 := hB5.cell 2 _ rfl; have d3 := hB5.cell 3 _ rfl; have d4 := hB5.cell 4 _ rfl)
      | (go_at_call 10; (with_reducible refine (CHd.out _).mono ?_); rintro e w6 ⟨rfl, hb⟩; have hX6 := hX5.keep hb; have hB6 := hB5.keep hb; replace hW := below_keep hW hb hW.size; clear hb hB5 hX5 d0 d1 d2 d3 d4)
      | (go_at_call 18; (with_reducible refine (CRd.out _).mono ?_); rintro e w7 ⟨rfl, hb⟩; have hY7 := blk_new w7 (frV id ext rem n t) 24 w7.heap.size rfl; have hX7 := (hX6.keep hb).alloc (.cells (frV id ext rem n t) 24); have hB7 := (hB6.keep hb).alloc (.cells (frV id ext rem n t) 24); have hz7 := (hB6.keep hb).lt; replace hW := (below_keep hW hb hW.size).alloc (by omega) (.cells (frV id ext rem n t) 24); clear hb hB6 hX6)
      | (go_at_call 17; (with_reducible refine (CSz.out _).mono ?_); rintro e w8 ⟨rfl, hb⟩; have hY8 := hY7.keep hb; have hX8 := hX7.keep hb; have hB8 := hB7.keep hb; replace hW := below_keep hW hb hW.size; clear hb hB7 hX7 hY7; have d0 := hB8.cell 0 _ rfl; have d1 := hB8.cell 1 _ rfl; have d2 := hB8.cell 2 _ rfl; have d3 := hB8.cell 3 _ rfl; have d4 := hB8.cell 4 _ rfl; have x0 := hX8.cell 0 _ rfl; have x1 := hX8.cell 1 _ rfl; have x2 := hX8.cell 2 _ rfl; have x3 := hX8.cell 3 _ rfl; have x4 := hX8.cell 4 _ rfl; have y0 := hY8.cell 0 _ rfl; have y1 := hY8.cell 1 _ rfl; have y2 := hY8.cell 2 _ rfl; have y3 := hY8.cell 3 _ rfl; have y4 := hY8.cell 4 _ rfl))
    go_ret
    exact ⟨rfl, hW⟩

set_option maxRecDepth 100000 in
set_option maxHeartbeats 16000000 in
theorem fback_tf (id n : Nat) (ext rem : Bool) (data t u hd behind bh : ByteArray) (T : ByteArray) (hT : u.extract 0 (u.size - 9) ++ ⟨#[48]⟩ ++ u.extract (u.size - 8) u.size = T) (hTz : T.size ≤ 160) (w : World) (hbh : (100 < behind.size ∧ behind.extract 0 100 = bh) ∨ (behind.size ≤ 100 ∧ behind = bh))
    (CFew : Hid (∀ w, Calls Try.prog 9 #[.agg (frV id ext rem n data)] w fun e w' => e = .returned (.agg (frV id ext rem n t)) ∧ Below w.heap.size w w'))
    (CAl : Hid (∀ w, Calls Try.prog 13 #[] w fun e w' => e = .returned (.bool true) ∧ Below w.heap.size w w'))
    (CBt : Hid (∀ w, Calls Try.prog 11 #[.agg (frV id ext rem n t)] w fun e w' => e = .returned (.tuple #[.string u, .int .i64 0]) ∧ Below w.heap.size w w'))
    (hu44 : 44 ≤ u.size) (hu160 : u.size ≤ 160) (hbz : bh.size ≤ 100)
    (CRr : Hid (∀ w, Calls Try.prog 20 #[.string bh] w fun e w' => e = .returned (.bool false) ∧ w = w'))
    (CP : Hid (∀ w, Calls Try.prog 19 #[.string (T ++ ⟨#[]⟩)] w fun x w' => x = .returned (.tuple #[.agg (frV id ext rem n t), .int .i64 u.size, .int .i64 0]) ∧ Below w.heap.size w w'))
    (CHd : Hid (∀ w, Calls Try.prog 10 #[.agg (frV id ext rem n t)] w fun e w' => e = .returned (.tuple #[.string hd, .int .i64 0]) ∧ Below w.heap.size w w'))
    (CRd : Hid (∀ w, Calls Try.prog 18 #[.string hd] w fun x w' => x = .returned (.tuple #[.agg (frV id ext rem n t), .int .i64 0]) ∧ Below w.heap.size w w'))
    (CSz : Hid (∀ w, Calls Try.prog 17 #[.string hd] w fun x w' => x = .returned (.tuple #[.int .i64 hd.size, .int .i64 0]) ∧ Below w.heap.size w w')) :
    Calls Try.prog 5 #[.agg (frV id ext rem n data), .string behind, .bool true] w fun e w' => e = .returned (.bool true) ∧ Below w.heap.size w w' := by
  have hi44 : ¬ (u.size : Int) < 44 := by omega
  have hi160 : ¬ (160 : Int) < u.size := by omega
  have hB0 := blk_new w (frV id ext rem n data) 24 w.heap.size rfl
  have hW0 : Below w.heap.size w (w.alloc (.cells (frV id ext rem n data) 24)) := (Below.refl _ _).alloc (Nat.le_refl _) _
  go_enter Try.func5, Try.ntmps5
  go_upto_region 1 with fail
  go_cut [1] from 20 to 26 (fun v wc => v = .string bh ∧ Blk wc w.heap.size (frV id ext rem n t) 24 ∧ Below w.heap.size w wc)
  case first =>
    rcases hbh with ⟨h1, ht⟩ | ⟨h1, rfl⟩
    all_goals
      go_region_with (first
        | (go_at_call 9; (with_reducible refine (CFew.out _).mono ?_); rintro e w1 ⟨rfl, hb⟩; have hB1 := hB0.drew.keep hb; have hW := below_keep hW0.drew hb (Nat.le_of_lt hB0.lt); have c0 := hB1.cell 0 _ rfl; have c1 := hB1.cell 1 _ rfl; have c2 := hB1.cell 2 _ rfl; have c3 := hB1.cell 3 _ rfl; have c4 := hB1.cell 4 _ rfl; have z0 := hB1.free 0; have z1 := hB1.free 1; have z2 := hB1.free 2; have z3 := hB1.free 3; have z4 := hB1.free 4))
      all_goals
        go_wp2
        go_meet
        case rel => exact ⟨rfl, blk_set4 (blk_set3 (blk_set2 (blk_set1 (blk_set0 hB1 (.int .u32 id)) (.bool ext)) (.bool rem)) (.int .i64 n)) (.string t), five_below hW _ _ _ _ _⟩
  case rest =>
    clear hB0 hW0 hbh
    obtain ⟨rfl, hB1, hW⟩ := hcut
    have c0 := hB1.cell 0 _ rfl
    have c1 := hB1.cell 1 _ rfl
    have c2 := hB1.cell 2 _ rfl
    have c3 := hB1.cell 3 _ rfl
    have c4 := hB1.cell 4 _ rfl
    go_wp2_with (first
      | (go_at_call 11; (with_reducible refine (CBt.out _).mono ?_); rintro e w2 ⟨rfl, hb⟩; have hB2 := hB1.keep hb; replace hW := below_keep hW hb hW.size; clear hb hB1 c0 c1 c2 c3 c4)
      | (go_at_call 20; (with_reducible refine (CRr.out _).mono ?_); rintro e w' ⟨rfl, rfl⟩)
      | (go_at_call 13; (with_reducible refine (CAl.out _).mono ?_); rintro e w3 ⟨rfl, hb⟩; have hB3 := hB2.keep hb; replace hW := below_keep hW hb hW.size; clear hb hB2))
    go_quiet (fail)
    have hB4 : Blk (w3.drewN nq) w.heap.size (frV id ext rem n t) 24 := hB3
    have hW4 := below_drewN hW nq
    clear hB3 hW hT
    generalize w3.drewN nq = wq at *
    go_wp2_with (first
      | (go_at_call 19; (with_reducible refine (CP.out _).mono ?_); rintro e w5 ⟨rfl, hb⟩; have hX5 := blk_new w5 (frV id ext rem n t) 24 w5.heap.size rfl; have hB5 := (hB4.keep hb).alloc (.cells (frV id ext rem n t) 24); have hz5 := (hB4.keep hb).lt; have hW := (below_keep hW4 hb hW4.size).alloc (by omega) (.cells (frV id ext rem n t) 24); clear hb hB4; have d0 := hB5.cell 0 _ rfl; have d1 := hB5.cell 1 _ rfl; have d2 := hB5.cell 2 _ rfl; have d3 := hB5.cell 3 _ rfl; have d4 := hB5.cell 4 _ rfl)
      | (go_at_call 10; (with_reducible refine (CHd.out _).mono ?_); rintro e w6 ⟨rfl, hb⟩; have hX6 := hX5.keep hb; have hB6 := hB5.keep hb; replace hW := below_keep hW hb hW.size; clear hb hB5 hX5 d0 d1 d2 d3 d4)
      | (go_at_call 18; (with_reducible refine (CRd.out _).mono ?_); rintro e w7 ⟨rfl, hb⟩; have hY7 := blk_new w7 (frV id ext rem n t) 24 w7.heap.size rfl; have hX7 := (hX6.keep hb).alloc (.cells (frV id ext rem n t) 24); have hB7 := (hB6.keep hb).alloc (.cells (frV id ext rem n t) 24); have hz7 := (hB6.keep hb).lt; replace hW := (below_keep hW hb hW.size).alloc (by omega) (.cells (frV id ext rem n t) 24); clear hb hB6 hX6)
      | (go_at_call 17; (with_reducible refine (CSz.out _).mono ?_); rintro e w8 ⟨rfl, hb⟩; have hY8 := hY7.keep hb; have hX8 := hX7.keep hb; have hB8 := hB7.keep hb; replace hW := below_keep hW hb hW.size; clear hb hB7 hX7 hY7; have d0 := hB8.cell 0 _ rfl; have d1 := hB8.cell 1 _ rfl; have d2 := hB8.cell 2 _ rfl; have d3 := hB8.cell 3 _ rfl; have d4 := hB8.cell 4 _ rfl; have x0 := hX8.cell 0 _ rfl; have x1 := hX8.cell 1 _ rfl; have x2 := hX8.cell 2 _ rfl; have x3 := hX8.cell 3 _ rfl; have x4 := hX8.cell 4 _ rfl; have y0 := hY8.cell 0 _ rfl; have y1 := hY8.cell 1 _ rfl; have y2 := hY8.cell 2 _ rfl; have y3 := hY8.cell 3 _ rfl; have y4 := hY8.cell 4 _ rfl))
    go_ret
    exact ⟨rfl, hW⟩

set_option maxRecDepth 100000 in
set_option maxHeartbeats 16000000 in
theorem fback_ft (id n : Nat) (ext rem : Bool) (data t u hd behind bh : ByteArray) (w : World) (hbh : (100 < behind.size ∧ behind.extract 0 100 = bh) ∨ (behind.size ≤ 100 ∧ behind = bh))
    (CFew : Hid (∀ w, Calls Try.prog 9 #[.agg (frV id ext rem n data)] w fun e w' => e = .returned (.agg (frV id ext rem n t)) ∧ Below w.heap.size w w'))
    (CAl : Hid (∀ w, Calls Try.prog 13 #[] w fun e w' => e = .returned (.bool true) ∧ Below w.heap.size w w'))
    (CBt : Hid (∀ w, Calls Try.prog 11 #[.agg (frV id ext rem n t)] w fun e w' => e = .returned (.tuple #[.string u, .int .i64 0]) ∧ Below w.heap.size w w'))
    (hu44 : 44 ≤ u.size) (hu160 : u.size ≤ 160) (hbz : bh.size ≤ 100)
    (CRr : Hid (∀ w, Calls Try.prog 20 #[.string bh] w fun e w' => e = .returned (.bool true) ∧ w = w'))
    (CP : Hid (∀ w, Calls Try.prog 19 #[.string (u ++ bh)] w fun x w' => x = .returned (.tuple #[.agg (frV id ext rem n t), .int .i64 u.size, .int .i64 0]) ∧ Below w.heap.size w w'))
    (CHd : Hid (∀ w, Calls Try.prog 10 #[.agg (frV id ext rem n t)] w fun e w' => e = .returned (.tuple #[.string hd, .int .i64 0]) ∧ Below w.heap.size w w'))
    (CRd : Hid (∀ w, Calls Try.prog 18 #[.string hd] w fun x w' => x = .returned (.tuple #[.agg (frV id ext rem n t), .int .i64 0]) ∧ Below w.heap.size w w'))
    (CSz : Hid (∀ w, Calls Try.prog 17 #[.string hd] w fun x w' => x = .returned (.tuple #[.int .i64 hd.size, .int .i64 0]) ∧ Below w.heap.size w w')) :
    Calls Try.prog 5 #[.agg (frV id ext rem n data), .string behind, .bool false] w fun e w' => e = .returned (.bool true) ∧ Below w.heap.size w w' := by
  have hi44 : ¬ (u.size : Int) < 44 := by omega
  have hi160 : ¬ (160 : Int) < u.size := by omega
  have hB0 := blk_new w (frV id ext rem n data) 24 w.heap.size rfl
  have hW0 : Below w.heap.size w (w.alloc (.cells (frV id ext rem n data) 24)) := (Below.refl _ _).alloc (Nat.le_refl _) _
  go_enter Try.func5, Try.ntmps5
  go_upto_region 1 with fail
  go_cut [1] from 20 to 26 (fun v wc => v = .string bh ∧ Blk wc w.heap.size (frV id ext rem n t) 24 ∧ Below w.heap.size w wc)
  case first =>
    rcases hbh with ⟨h1, ht⟩ | ⟨h1, rfl⟩
    all_goals
      go_region_with (first
        | (go_at_call 9; (with_reducible refine (CFew.out _).mono ?_); rintro e w1 ⟨rfl, hb⟩; have hB1 := hB0.drew.keep hb; have hW := below_keep hW0.drew hb (Nat.le_of_lt hB0.lt); have c0 := hB1.cell 0 _ rfl; have c1 := hB1.cell 1 _ rfl; have c2 := hB1.cell 2 _ rfl; have c3 := hB1.cell 3 _ rfl; have c4 := hB1.cell 4 _ rfl; have z0 := hB1.free 0; have z1 := hB1.free 1; have z2 := hB1.free 2; have z3 := hB1.free 3; have z4 := hB1.free 4))
      all_goals
        go_wp2
        go_meet
        case rel => exact ⟨rfl, blk_set4 (blk_set3 (blk_set2 (blk_set1 (blk_set0 hB1 (.int .u32 id)) (.bool ext)) (.bool rem)) (.int .i64 n)) (.string t), five_below hW _ _ _ _ _⟩
  case rest =>
    clear hB0 hW0 hbh
    obtain ⟨rfl, hB1, hW⟩ := hcut
    have c0 := hB1.cell 0 _ rfl
    have c1 := hB1.cell 1 _ rfl
    have c2 := hB1.cell 2 _ rfl
    have c3 := hB1.cell 3 _ rfl
    have c4 := hB1.cell 4 _ rfl
    go_wp2_with (first
      | (go_at_call 11; (with_reducible refine (CBt.out _).mono ?_); rintro e w2 ⟨rfl, hb⟩; have hB2 := hB1.keep hb; replace hW := below_keep hW hb hW.size; clear hb hB1 c0 c1 c2 c3 c4)
      | (go_at_call 20; (with_reducible refine (CRr.out _).mono ?_); rintro e w' ⟨rfl, rfl⟩)
      | (go_at_call 13; (with_reducible refine (CAl.out _).mono ?_); rintro e w3 ⟨rfl, hb⟩; have hB3 := hB2.keep hb; replace hW := below_keep hW hb hW.size; clear hb hB2)
      | (go_at_call 19; (with_reducible refine (CP.out _).mono ?_); rintro e w5 ⟨rfl, hb⟩; have hX5 := blk_new w5 (frV id ext rem n t) 24 w5.heap.size rfl; have hB5 := (hB3.keep hb).alloc (.cells (frV id ext rem n t) 24); have hz5 := (hB3.keep hb).lt; replace hW := (below_keep hW hb hW.size).alloc (by omega) (.cells (frV id ext rem n t) 24); clear hb hB3; have d0 := hB5.cell 0 _ rfl; have d1 := hB5.cell 1 _ rfl; have d2 := hB5.cell 2 _ rfl; have d3 := hB5.cell 3 _ rfl; have d4 := hB5.cell 4 _ rfl)
      | (go_at_call 10; (with_reducible refine (CHd.out _).mono ?_); rintro e w6 ⟨rfl, hb⟩; have hX6 := hX5.keep hb; have hB6 := hB5.keep hb; replace hW := below_keep hW hb hW.size; clear hb hB5 hX5 d0 d1 d2 d3 d4)
      | (go_at_call 18; (with_reducible refine (CRd.out _).mono ?_); rintro e w7 ⟨rfl, hb⟩; have hY7 := blk_new w7 (frV id ext rem n t) 24 w7.heap.size rfl; have hX7 := (hX6.keep hb).alloc (.cells (frV id ext rem n t) 24); have hB7 := (hB6.keep hb).alloc (.cells (frV id ext rem n t) 24); have hz7 := (hB6.keep hb).lt; replace hW := (below_keep hW hb hW.size).alloc (by omega) (.cells (frV id ext rem n t) 24); clear hb hB6 hX6)
      | (go_at_call 17; (with_reducible refine (CSz.out _).mono ?_); rintro e w8 ⟨rfl, hb⟩; have hY8 := hY7.keep hb; have hX8 := hX7.keep hb; have hB8 := hB7.keep hb; replace hW := below_keep hW hb hW.size; clear hb hB7 hX7 hY7; have d0 := hB8.cell 0 _ rfl; have d1 := hB8.cell 1 _ rfl; have d2 := hB8.cell 2 _ rfl; have d3 := hB8.cell 3 _ rfl; have d4 := hB8.cell 4 _ rfl; have x0 := hX8.cell 0 _ rfl; have x1 := hX8.cell 1 _ rfl; have x2 := hX8.cell 2 _ rfl; have x3 := hX8.cell 3 _ rfl; have x4 := hX8.cell 4 _ rfl; have y0 := hY8.cell 0 _ rfl; have y1 := hY8.cell 1 _ rfl; have y2 := hY8.cell 2 _ rfl; have y3 := hY8.cell 3 _ rfl; have y4 := hY8.cell 4 _ rfl))
    go_ret
    exact ⟨rfl, hW⟩

set_option maxRecDepth 100000 in
set_option maxHeartbeats 16000000 in
theorem fback_tt (id n : Nat) (ext rem : Bool) (data t u hd behind bh : ByteArray) (T : ByteArray) (hT : u.extract 0 (u.size - 9) ++ ⟨#[48]⟩ ++ u.extract (u.size - 8) u.size = T) (hTz : T.size ≤ 160) (w : World) (hbh : (100 < behind.size ∧ behind.extract 0 100 = bh) ∨ (behind.size ≤ 100 ∧ behind = bh))
    (CFew : Hid (∀ w, Calls Try.prog 9 #[.agg (frV id ext rem n data)] w fun e w' => e = .returned (.agg (frV id ext rem n t)) ∧ Below w.heap.size w w'))
    (CAl : Hid (∀ w, Calls Try.prog 13 #[] w fun e w' => e = .returned (.bool true) ∧ Below w.heap.size w w'))
    (CBt : Hid (∀ w, Calls Try.prog 11 #[.agg (frV id ext rem n t)] w fun e w' => e = .returned (.tuple #[.string u, .int .i64 0]) ∧ Below w.heap.size w w'))
    (hu44 : 44 ≤ u.size) (hu160 : u.size ≤ 160) (hbz : bh.size ≤ 100)
    (CRr : Hid (∀ w, Calls Try.prog 20 #[.string bh] w fun e w' => e = .returned (.bool true) ∧ w = w'))
    (CP : Hid (∀ w, Calls Try.prog 19 #[.string (T ++ bh)] w fun x w' => x = .returned (.tuple #[.agg (frV id ext rem n t), .int .i64 u.size, .int .i64 0]) ∧ Below w.heap.size w w'))
    (CHd : Hid (∀ w, Calls Try.prog 10 #[.agg (frV id ext rem n t)] w fun e w' => e = .returned (.tuple #[.string hd, .int .i64 0]) ∧ Below w.heap.size w w'))
    (CRd : Hid (∀ w, Calls Try.prog 18 #[.string hd] w fun x w' => x = .returned (.tuple #[.agg (frV id ext rem n t), .int .i64 0]) ∧ Below w.heap.size w w'))
    (CSz : Hid (∀ w, Calls Try.prog 17 #[.string hd] w fun x w' => x = .returned (.tuple #[.int .i64 hd.size, .int .i64 0]) ∧ Below w.heap.size w w')) :
    Calls Try.prog 5 #[.agg (frV id ext rem n data), .string behind, .bool true] w fun e w' => e = .returned (.bool true) ∧ Below w.heap.size w w' := by
  have hi44 : ¬ (u.size : Int) < 44 := by omega
  have hi160 : ¬ (160 : Int) < u.size := by omega
  have hB0 := blk_new w (frV id ext rem n data) 24 w.heap.size rfl
  have hW0 : Below w.heap.size w (w.alloc (.cells (frV id ext rem n data) 24)) := (Below.refl _ _).alloc (Nat.le_refl _) _
  go_enter Try.func5, Try.ntmps5
  go_upto_region 1 with fail
  go_cut [1] from 20 to 26 (fun v wc => v = .string bh ∧ Blk wc w.heap.size (frV id ext rem n t) 24 ∧ Below w.heap.size w wc)
  case first =>
    rcases hbh with ⟨h1, ht⟩ | ⟨h1, rfl⟩
    all_goals
      go_region_with (first
        | (go_at_call 9; (with_reducible refine (CFew.out _).mono ?_); rintro e w1 ⟨rfl, hb⟩; have hB1 := hB0.drew.keep hb; have hW := below_keep hW0.drew hb (Nat.le_of_lt hB0.lt); have c0 := hB1.cell 0 _ rfl; have c1 := hB1.cell 1 _ rfl; have c2 := hB1.cell 2 _ rfl; have c3 := hB1.cell 3 _ rfl; have c4 := hB1.cell 4 _ rfl; have z0 := hB1.free 0; have z1 := hB1.free 1; have z2 := hB1.free 2; have z3 := hB1.free 3; have z4 := hB1.free 4))
      all_goals
        go_wp2
        go_meet
        case rel => exact ⟨rfl, blk_set4 (blk_set3 (blk_set2 (blk_set1 (blk_set0 hB1 (.int .u32 id)) (.bool ext)) (.bool rem)) (.int .i64 n)) (.string t), five_below hW _ _ _ _ _⟩
  case rest =>
    clear hB0 hW0 hbh
    obtain ⟨rfl, hB1, hW⟩ := hcut
    have c0 := hB1.cell 0 _ rfl
    have c1 := hB1.cell 1 _ rfl
    have c2 := hB1.cell 2 _ rfl
    have c3 := hB1.cell 3 _ rfl
    have c4 := hB1.cell 4 _ rfl
    go_wp2_with (first
      | (go_at_call 11; (with_reducible refine (CBt.out _).mono ?_); rintro e w2 ⟨rfl, hb⟩; have hB2 := hB1.keep hb; replace hW := below_keep hW hb hW.size; clear hb hB1 c0 c1 c2 c3 c4)
      | (go_at_call 20; (with_reducible refine (CRr.out _).mono ?_); rintro e w' ⟨rfl, rfl⟩)
      | (go_at_call 13; (with_reducible refine (CAl.out _).mono ?_); rintro e w3 ⟨rfl, hb⟩; have hB3 := hB2.keep hb; replace hW := below_keep hW hb hW.size; clear hb hB2))
    go_quiet (fail)
    have hB4 : Blk (w3.drewN nq) w.heap.size (frV id ext rem n t) 24 := hB3
    have hW4 := below_drewN hW nq
    clear hB3 hW hT
    generalize w3.drewN nq = wq at *
    go_wp2_with (first
      | (go_at_call 19; (with_reducible refine (CP.out _).mono ?_); rintro e w5 ⟨rfl, hb⟩; have hX5 := blk_new w5 (frV id ext rem n t) 24 w5.heap.size rfl; have hB5 := (hB4.keep hb).alloc (.cells (frV id ext rem n t) 24); have hz5 := (hB4.keep hb).lt; have hW := (below_keep hW4 hb hW4.size).alloc (by omega) (.cells (frV id ext rem n t) 24); clear hb hB4; have d0 := hB5.cell 0 _ rfl; have d1 := hB5.cell 1 _ rfl; have d2 := hB5.cell 2 _ rfl; have d3 := hB5.cell 3 _ rfl; have d4 := hB5.cell 4 _ rfl)
      | (go_at_call 10; (with_reducible refine (CHd.out _).mono ?_); rintro e w6 ⟨rfl, hb⟩; have hX6 := hX5.keep hb; have hB6 := hB5.keep hb; replace hW := below_keep hW hb hW.size; clear hb hB5 hX5 d0 d1 d2 d3 d4)
      | (go_at_call 18; (with_reducible refine (CRd.out _).mono ?_); rintro e w7 ⟨rfl, hb⟩; have hY7 := blk_new w7 (frV id ext rem n t) 24 w7.heap.size rfl; have hX7 := (hX6.keep hb).alloc (.cells (frV id ext rem n t) 24); have hB7 := (hB6.keep hb).alloc (.cells (frV id ext rem n t) 24); have hz7 := (hB6.keep hb).lt; replace hW := (below_keep hW hb hW.size).alloc (by omega) (.cells (frV id ext rem n t) 24); clear hb hB6 hX6)
      | (go_at_call 17; (with_reducible refine (CSz.out _).mono ?_); rintro e w8 ⟨rfl, hb⟩; have hY8 := hY7.keep hb; have hX8 := hX7.keep hb; have hB8 := hB7.keep hb; replace hW := below_keep hW hb hW.size; clear hb hB7 hX7 hY7; have d0 := hB8.cell 0 _ rfl; have d1 := hB8.cell 1 _ rfl; have d2 := hB8.cell 2 _ rfl; have d3 := hB8.cell 3 _ rfl; have d4 := hB8.cell 4 _ rfl; have x0 := hX8.cell 0 _ rfl; have x1 := hX8.cell 1 _ rfl; have x2 := hX8.cell 2 _ rfl; have x3 := hX8.cell 3 _ rfl; have x4 := hX8.cell 4 _ rfl; have y0 := hY8.cell 0 _ rfl; have y1 := hY8.cell 1 _ rfl; have y2 := hY8.cell 2 _ rfl; have y3 := hY8.cell 3 _ rfl; have y4 := hY8.cell 4 _ rfl))
    go_ret
    exact ⟨rfl, hW⟩
end Go.Proofs.Ytdpfmpbnahhjmaa
