/- Layer 4's few, and the walk of its law FrameBits over what Right, Head and Bits answer. -/
import Derived.Test.YtdpfmpbnahhjmaaRef4d
namespace Go.Proofs.Ytdpfmpbnahhjmaa
open Go.RowKit Go.Lib

set_option maxHeartbeats 1000000 in
theorem few_any (id : Nat) (ext rem : Bool) (dlc : Int) (data t : ByteArray) (w : World) (ht : (12 < data.size ∧ data.extract 0 12 = t) ∨ (data.size ≤ 12 ∧ data = t)) :
    Calls Try.prog 9 #[.agg (frV id ext rem dlc data)] w fun e w' => e = .returned (.agg (frV id ext rem dlc t)) ∧ Below w.heap.size w w' := by
  have hB : Below w.heap.size w ((w.alloc (.cells (frV id ext rem dlc t) 24)).alloc (.cells (frV id ext rem dlc t) 24)) := ((Below.refl _ _).alloc (Nat.le_refl _) _).alloc (by simp) _
  rcases ht with ⟨h1, ht⟩ | ⟨h1, rfl⟩
  all_goals
    go_enter Try.func9, Try.ntmps9
    go_wp2
    refine bodyPost_ret (v := .agg (frV id ext rem dlc _)) (by simp [results, Try.results9, go_sem]) rfl ⟨rfl, ?_⟩
    exact hB

set_option maxHeartbeats 4000000 in
theorem framebits_false (id : Nat) (ext rem : Bool) (dlc : Int) (data t : ByteArray) (w : World)
    (CFew : Hid (∀ w, Calls Try.prog 9 #[.agg (frV id ext rem dlc data)] w fun e w' => e = .returned (.agg (frV id ext rem dlc t)) ∧ Below w.heap.size w w'))
    (CHd : Hid (∀ w, Calls Try.prog 10 #[.agg (frV id ext rem dlc t)] w fun e w' => e = .returned (.tuple #[.string ⟨#[]⟩, .int .i64 1]) ∧ Below w.heap.size w w'))
    (CBt : Hid (∀ w, Calls Try.prog 11 #[.agg (frV id ext rem dlc t)] w fun e w' => e = .returned (.tuple #[.string ⟨#[]⟩, .int .i64 1]) ∧ Below w.heap.size w w'))
    (CRr : Hid (∀ w, Calls Try.prog 12 #[.agg (frV id ext rem dlc t)] w fun e w' => e = .returned (.bool false) ∧ Below w.heap.size w w'))
    (CAl : Hid (∀ w, Calls Try.prog 13 #[] w fun e w' => e = .returned (.bool true) ∧ Below w.heap.size w w'))
    (CFr : Hid (∀ w, Calls Try.prog 14 #[.agg (frV id ext rem dlc t)] w fun e w' => e = .returned (.bool false) ∧ Below w.heap.size w w')) :
    Calls Try.prog 3 #[.agg (frV id ext rem dlc data)] w fun e w' => e = .returned (.bool true) ∧ Below w.heap.size w w' := by
  go_enter Try.func3, Try.ntmps3
  go_wp2_with (first
    | (go_at_call 9; (with_reducible refine (CFew.out _).mono ?_); rintro e w1 ⟨rfl, hb⟩; have hB1 := (blk_new w (frV id ext rem dlc data) 24 w.heap.size rfl).keep hb; have hW := below_keep ((Below.refl w.heap.size w).alloc (Nat.le_refl _) (.cells (frV id ext rem dlc data) 24)) hb (by simp); have c0 := hB1.cell 0 _ rfl; have c1 := hB1.cell 1 _ rfl; have c2 := hB1.cell 2 _ rfl; have c3 := hB1.cell 3 _ rfl; have c4 := hB1.cell 4 _ rfl; have z0 := hB1.free 0; have z1 := hB1.free 1; have z2 := hB1.free 2; have z3 := hB1.free 3; have z4 := hB1.free 4)
    | (go_at_call 10; (with_reducible refine (CHd.out _).mono ?_); rintro e w' ⟨rfl, hb⟩; have hB2 := (blk_set4 (blk_set3 (blk_set2 (blk_set1 (blk_set0 hB1 (.int .u32 id)) (.bool ext)) (.bool rem)) (.int .i64 dlc)) (.string t)).keep hb; replace hW := below_keep (five_below hW _ _ _ _ _) hb (Nat.le_of_lt (blk_set4 (blk_set3 (blk_set2 (blk_set1 (blk_set0 hB1 (.int .u32 id)) (.bool ext)) (.bool rem)) (.int .i64 dlc)) (.string t)).lt); clear c0 c1 c2 c3 c4 z0 z1 z2 z3 z4; have d0 := hB2.cell 0 _ rfl; have d1 := hB2.cell 1 _ rfl; have d2 := hB2.cell 2 _ rfl; have d3 := hB2.cell 3 _ rfl; have d4 := hB2.cell 4 _ rfl)
    | (go_at_call 11; (with_reducible refine (CBt.out _).mono ?_); rintro e w' ⟨rfl, hb⟩; replace hW := below_keep hW hb (Nat.le_of_lt hB2.lt); have hB3 := hB2.keep hb; have e0 := hB3.cell 0 _ rfl; have e1 := hB3.cell 1 _ rfl; have e2 := hB3.cell 2 _ rfl; have e3 := hB3.cell 3 _ rfl; have e4 := hB3.cell 4 _ rfl)
    | (go_at_call 12; (with_reducible refine (CRr.out _).mono ?_); rintro e w' ⟨rfl, hb⟩; replace hW := below_keep hW hb (Nat.le_of_lt hB3.lt); have hB4 := hB3.keep hb; have f0 := hB4.cell 0 _ rfl; have f1 := hB4.cell 1 _ rfl; have f2 := hB4.cell 2 _ rfl; have f3 := hB4.cell 3 _ rfl; have f4 := hB4.cell 4 _ rfl)
    | (go_at_call 13; (with_reducible refine (CAl.out _).mono ?_); rintro e w' ⟨rfl, hb⟩; replace hW := below_keep hW hb (Nat.le_of_lt hB4.lt); have hB5 := hB4.keep hb; have g0 := hB5.cell 0 _ rfl; have g1 := hB5.cell 1 _ rfl; have g2 := hB5.cell 2 _ rfl; have g3 := hB5.cell 3 _ rfl; have g4 := hB5.cell 4 _ rfl)
    | (go_at_call 14; (with_reducible refine (CFr.out _).mono ?_); rintro e w' ⟨rfl, hb⟩; replace hW := below_keep hW hb (Nat.le_of_lt hB5.lt); have hB6 := hB5.keep hb; have k0 := hB6.cell 0 _ rfl; have k1 := hB6.cell 1 _ rfl; have k2 := hB6.cell 2 _ rfl; have k3 := hB6.cell 3 _ rfl; have k4 := hB6.cell 4 _ rfl))
  go_ret
  exact ⟨rfl, hW⟩

set_option maxHeartbeats 4000000 in
theorem framebits_true (id : Nat) (ext rem : Bool) (dlc : Int) (data t h b : ByteArray) (w : World)
    (CFew : Hid (∀ w, Calls Try.prog 9 #[.agg (frV id ext rem dlc data)] w fun e w' => e = .returned (.agg (frV id ext rem dlc t)) ∧ Below w.heap.size w w'))
    (CHd : Hid (∀ w, Calls Try.prog 10 #[.agg (frV id ext rem dlc t)] w fun e w' => e = .returned (.tuple #[.string h, .int .i64 0]) ∧ Below w.heap.size w w'))
    (CBt : Hid (∀ w, Calls Try.prog 11 #[.agg (frV id ext rem dlc t)] w fun e w' => e = .returned (.tuple #[.string b, .int .i64 0]) ∧ Below w.heap.size w w'))
    (CRr : Hid (∀ w, Calls Try.prog 12 #[.agg (frV id ext rem dlc t)] w fun e w' => e = .returned (.bool true) ∧ Below w.heap.size w w'))
    (CAl : Hid (∀ w, Calls Try.prog 13 #[] w fun e w' => e = .returned (.bool true) ∧ Below w.heap.size w w'))
    (CFr : Hid (∀ w, Calls Try.prog 14 #[.agg (frV id ext rem dlc t)] w fun e w' => e = .returned (.bool true) ∧ Below w.heap.size w w'))
    (CRh : Hid (∀ w, Calls Try.prog 15 #[.agg (frV id ext rem dlc t)] w fun e w' => e = .returned (.string h) ∧ Below w.heap.size w w'))
    (CRb : Hid (∀ w, Calls Try.prog 16 #[.agg (frV id ext rem dlc t)] w fun e w' => e = .returned (.string b) ∧ Below w.heap.size w w')) :
    Calls Try.prog 3 #[.agg (frV id ext rem dlc data)] w fun e w' => e = .returned (.bool true) ∧ Below w.heap.size w w' := by
  go_enter Try.func3, Try.ntmps3
  go_wp2_with (first
    | (go_at_call 9; (with_reducible refine (CFew.out _).mono ?_); rintro e w1 ⟨rfl, hb⟩; have hB1 := (blk_new w (frV id ext rem dlc data) 24 w.heap.size rfl).keep hb; have hW := below_keep ((Below.refl w.heap.size w).alloc (Nat.le_refl _) (.cells (frV id ext rem dlc data) 24)) hb (by simp); have c0 := hB1.cell 0 _ rfl; have c1 := hB1.cell 1 _ rfl; have c2 := hB1.cell 2 _ rfl; have c3 := hB1.cell 3 _ rfl; have c4 := hB1.cell 4 _ rfl; have z0 := hB1.free 0; have z1 := hB1.free 1; have z2 := hB1.free 2; have z3 := hB1.free 3; have z4 := hB1.free 4)
    | (go_at_call 10; (with_reducible refine (CHd.out _).mono ?_); rintro e w' ⟨rfl, hb⟩; have hB2 := (blk_set4 (blk_set3 (blk_set2 (blk_set1 (blk_set0 hB1 (.int .u32 id)) (.bool ext)) (.bool rem)) (.int .i64 dlc)) (.string t)).keep hb; replace hW := below_keep (five_below hW _ _ _ _ _) hb (Nat.le_of_lt (blk_set4 (blk_set3 (blk_set2 (blk_set1 (blk_set0 hB1 (.int .u32 id)) (.bool ext)) (.bool rem)) (.int .i64 dlc)) (.string t)).lt); clear c0 c1 c2 c3 c4 z0 z1 z2 z3 z4; have d0 := hB2.cell 0 _ rfl; have d1 := hB2.cell 1 _ rfl; have d2 := hB2.cell 2 _ rfl; have d3 := hB2.cell 3 _ rfl; have d4 := hB2.cell 4 _ rfl)
    | (go_at_call 11; (with_reducible refine (CBt.out _).mono ?_); rintro e w' ⟨rfl, hb⟩; replace hW := below_keep hW hb (Nat.le_of_lt hB2.lt); have hB3 := hB2.keep hb; have e0 := hB3.cell 0 _ rfl; have e1 := hB3.cell 1 _ rfl; have e2 := hB3.cell 2 _ rfl; have e3 := hB3.cell 3 _ rfl; have e4 := hB3.cell 4 _ rfl)
    | (go_at_call 12; (with_reducible refine (CRr.out _).mono ?_); rintro e w' ⟨rfl, hb⟩; replace hW := below_keep hW hb (Nat.le_of_lt hB3.lt); have hB4 := hB3.keep hb; have f0 := hB4.cell 0 _ rfl; have f1 := hB4.cell 1 _ rfl; have f2 := hB4.cell 2 _ rfl; have f3 := hB4.cell 3 _ rfl; have f4 := hB4.cell 4 _ rfl)
    | (go_at_call 13; (with_reducible refine (CAl.out _).mono ?_); rintro e w' ⟨rfl, hb⟩; replace hW := below_keep hW hb (Nat.le_of_lt hB4.lt); have hB5 := hB4.keep hb; have g0 := hB5.cell 0 _ rfl; have g1 := hB5.cell 1 _ rfl; have g2 := hB5.cell 2 _ rfl; have g3 := hB5.cell 3 _ rfl; have g4 := hB5.cell 4 _ rfl)
    | (go_at_call 14; (with_reducible refine (CFr.out _).mono ?_); rintro e w' ⟨rfl, hb⟩; replace hW := below_keep hW hb (Nat.le_of_lt hB5.lt); have hB6 := hB5.keep hb; have k0 := hB6.cell 0 _ rfl; have k1 := hB6.cell 1 _ rfl; have k2 := hB6.cell 2 _ rfl; have k3 := hB6.cell 3 _ rfl; have k4 := hB6.cell 4 _ rfl)
    | (go_at_call 15; (with_reducible refine (CRh.out _).mono ?_); rintro e w' ⟨rfl, hb⟩; replace hW := below_keep hW hb (Nat.le_of_lt hB6.lt); have hB7 := hB6.keep hb; have l0 := hB7.cell 0 _ rfl; have l1 := hB7.cell 1 _ rfl; have l2 := hB7.cell 2 _ rfl; have l3 := hB7.cell 3 _ rfl; have l4 := hB7.cell 4 _ rfl)
    | (go_at_call 16; (with_reducible refine (CRb.out _).mono ?_); rintro e w' ⟨rfl, hb⟩; replace hW := below_keep hW hb (Nat.le_of_lt hB7.lt)))
  go_ret
  exact ⟨rfl, hW⟩
end Go.Proofs.Ytdpfmpbnahhjmaa
