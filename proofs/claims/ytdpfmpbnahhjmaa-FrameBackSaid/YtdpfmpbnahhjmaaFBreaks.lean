/- Layer 4's law FrameBreaks: plain facts, and its walk. -/
import Derived.Test.YtdpfmpbnahhjmaaParse4
import Derived.Test.YtdpfmpbnahhjmaaRefTurn
import Derived.Test.YtdpfmpbnahhjmaaFLawA
namespace Go.Proofs.Ytdpfmpbnahhjmaa
open Go.RowKit Go.Lib

/-- the ten ones behind a frame's sum, one of the last eight turned -/
theorem B.tail_turned (j : Nat) (h2 : 2 ≤ j) (h : j < 10) : tailL 0 ((List.replicate 10 (49 : UInt8)).modify j turn) = 12 := by
  have : j = 2 ∨ j = 3 ∨ j = 4 ∨ j = 5 ∨ j = 6 ∨ j = 7 ∨ j = 8 ∨ j = 9 := by omega
  rcases this with rfl | rfl | rfl | rfl | rfl | rfl | rfl | rfl <;> decide
theorem B.modify_right {a b : List UInt8} {i : Nat} (h : a.length ≤ i) : (a ++ b).modify i turn = a ++ b.modify (i - a.length) turn := by
  apply List.ext_getElem?
  intro j
  rw [List.getElem?_modify, List.getElem?_append, List.getElem?_append]
  by_cases hj : j < a.length
  · rw [if_pos hj, if_pos hj]
    have : i ≠ j := by omega
    simp [this]
  · rw [if_neg hj, if_neg hj, List.getElem?_modify]
    by_cases e : i = j
    · subst e; simp
    · have : i - a.length ≠ j - a.length := by omega
      simp [e, this]
/-- a frame with one of its last eight bits turned is none -/
theorem B.parse_late {f : Fr} (h : FrR f) (i : Nat) (h8 : (bitsL f).length - 8 ≤ i) (hl : i < (bitsL f).length) : parseL ((bitsL f).modify i turn) = (noFr, 0, 12) := by
  unfold bitsL at hl h8 ⊢
  rw [List.length_append, List.length_replicate] at hl h8
  rw [modify_right (by omega), parse_front h, tail_turned _ (by omega) (by omega)]
  simp
theorem turn_right {s : ByteArray} (hr : B.right s = true) (i : Nat) : B.right (B.turnB s i) = true := by
  have h4 := B.right_size hr
  refine right_of_all ?_ ?_
  · show (s.data.toList.modify i B.turn).toArray.size ≤ 4000
    rw [List.size_toArray, List.length_modify, B.size_len]; exact h4
  · show (s.data.toList.modify i B.turn).toArray.toList.all B.okc = true
    simpa using B.all_modify (B.right_all hr) i
theorem bits_right {f : B.Fr} (h : B.FrR f) : B.right ⟨(B.bitsL f).toArray⟩ = true := by
  have hl := B.bits_length h
  refine right_of_all (by rw [size_of]; omega) ?_
  rw [list_of]
  unfold B.bitsL
  rw [List.all_append, (B.stf_all (B.sumL_all (B.headL_all f)))]
  rfl

set_option maxRecDepth 100000 in
set_option maxHeartbeats 8000000 in
theorem fbreaks_false (id : Nat) (ext rem : Bool) (dlc : Int) (data t : ByteArray) (cut at' : Int) (w : World)
    (CFew : Hid (∀ w, Calls Try.prog 9 #[.agg (frV id ext rem dlc data)] w fun e w' => e = .returned (.agg (frV id ext rem dlc t)) ∧ Below w.heap.size w w'))
    (CBt : Hid (∀ w, Calls Try.prog 11 #[.agg (frV id ext rem dlc t)] w fun e w' => e = .returned (.tuple #[.string ⟨#[]⟩, .int .i64 1]) ∧ Below w.heap.size w w'))
    (CAl : Hid (∀ w, Calls Try.prog 13 #[] w fun e w' => e = .returned (.bool true) ∧ Below w.heap.size w w')) :
    Calls Try.prog 6 #[.agg (frV id ext rem dlc data), .int .i64 cut, .int .i64 at'] w fun e w' => e = .returned (.bool true) ∧ Below w.heap.size w w' := by
  go_enter Try.func6, Try.ntmps6
  go_wp2_with (first
    | (go_at_call 9; (with_reducible refine (CFew.out _).mono ?_); rintro e w1 ⟨rfl, hb⟩; have hB1 := (blk_new w (frV id ext rem dlc data) 24 w.heap.size rfl).keep hb; have hW := below_keep ((Below.refl w.heap.size w).alloc (Nat.le_refl _) (.cells (frV id ext rem dlc data) 24)) hb (by simp); have c0 := hB1.cell 0 _ rfl; have c1 := hB1.cell 1 _ rfl; have c2 := hB1.cell 2 _ rfl; have c3 := hB1.cell 3 _ rfl; have c4 := hB1.cell 4 _ rfl; have z0 := hB1.free 0; have z1 := hB1.free 1; have z2 := hB1.free 2; have z3 := hB1.free 3; have z4 := hB1.free 4)
    | (go_at_call 11; (with_reducible refine (CBt.out _).mono ?_); rintro e w2 ⟨rfl, hb⟩; have hB2 := (blk_set4 (blk_set3 (blk_set2 (blk_set1 (blk_set0 hB1 (.int .u32 id)) (.bool ext)) (.bool rem)) (.int .i64 dlc)) (.string t)).keep hb; replace hW := below_keep (five_below hW _ _ _ _ _) hb (Nat.le_of_lt (blk_set4 (blk_set3 (blk_set2 (blk_set1 (blk_set0 hB1 (.int .u32 id)) (.bool ext)) (.bool rem)) (.int .i64 dlc)) (.string t)).lt); clear c0 c1 c2 c3 c4 z0 z1 z2 z3 z4 hb hB1)
    | (go_at_call 13; (with_reducible refine (CAl.out _).mono ?_); rintro e w9 ⟨rfl, hb⟩; replace hW := below_keep hW hb hW.size))
  go_ret
  exact ⟨rfl, hW⟩

set_option maxRecDepth 100000 in
set_option maxHeartbeats 8000000 in
theorem fbreaks_neg (id n : Nat) (ext rem : Bool) (data t u : ByteArray) (cut at' : Int) (p : Nat) (w : World) (h0 : cut < 0)
    (CFew : Hid (∀ w, Calls Try.prog 9 #[.agg (frV id ext rem n data)] w fun e w' => e = .returned (.agg (frV id ext rem n t)) ∧ Below w.heap.size w w'))
    (CBt : Hid (∀ w, Calls Try.prog 11 #[.agg (frV id ext rem n t)] w fun e w' => e = .returned (.tuple #[.string u, .int .i64 0]) ∧ Below w.heap.size w w'))
    (CAl : Hid (∀ w, Calls Try.prog 13 #[] w fun e w' => e = .returned (.bool true) ∧ Below w.heap.size w w'))
    (hu44 : 44 ≤ u.size) (hu160 : u.size ≤ 160)
    (CP1 : Hid (∀ w, Calls Try.prog 19 #[.string ByteArray.empty] w fun e w' => e = .returned (.tuple #[.agg frZ, .int .i64 0, .int .i64 3]) ∧ Below w.heap.size w w'))
    (CT : Hid (∀ w, Calls Try.prog 24 #[.string u, .int .i64 (wrap64 ((u.size : Int) - 8 + (wrap64 (at'.tmod 8 + 8)).tmod 8))] w fun e w' => e = .returned (.string (B.turnB u p)) ∧ Below w.heap.size w w'))
    (CP2 : Hid (∀ w, Calls Try.prog 19 #[.string (B.turnB u p)] w fun e w' => e = .returned (.tuple #[.agg frZ, .int .i64 0, .int .i64 12]) ∧ Below w.heap.size w w')) :
    Calls Try.prog 6 #[.agg (frV id ext rem n data), .int .i64 cut, .int .i64 at'] w fun e w' => e = .returned (.bool true) ∧ Below w.heap.size w w' := by
  go_enter Try.func6, Try.ntmps6
  go_wp2_with (first
    | (go_at_call 9; (with_reducible refine (CFew.out _).mono ?_); rintro e w1 ⟨rfl, hb⟩; have hB1 := (blk_new w (frV id ext rem n data) 24 w.heap.size rfl).keep hb; have hW := below_keep ((Below.refl w.heap.size w).alloc (Nat.le_refl _) (.cells (frV id ext rem n data) 24)) hb (by simp); have c0 := hB1.cell 0 _ rfl; have c1 := hB1.cell 1 _ rfl; have c2 := hB1.cell 2 _ rfl; have c3 := hB1.cell 3 _ rfl; have c4 := hB1.cell 4 _ rfl; have z0 := hB1.free 0; have z1 := hB1.free 1; have z2 := hB1.free 2; have z3 := hB1.free 3; have z4 := hB1.free 4)
    | (go_at_call 11; (with_reducible refine (CBt.out _).mono ?_); rintro e w2 ⟨rfl, hb⟩; have hB2 := (blk_set4 (blk_set3 (blk_set2 (blk_set1 (blk_set0 hB1 (.int .u32 id)) (.bool ext)) (.bool rem)) (.int .i64 n)) (.string t)).keep hb; replace hW := below_keep (five_below hW _ _ _ _ _) hb (Nat.le_of_lt (blk_set4 (blk_set3 (blk_set2 (blk_set1 (blk_set0 hB1 (.int .u32 id)) (.bool ext)) (.bool rem)) (.int .i64 n)) (.string t)).lt); clear c0 c1 c2 c3 c4 z0 z1 z2 z3 z4 hb hB1)
    | (go_at_call 13; (with_reducible refine (CAl.out _).mono ?_); rintro e w9 ⟨rfl, hb⟩; replace hW := below_keep (hW.alloc hW.size _) hb (by have := hW.size; simp; omega))
    | (go_at_call 19; (with_reducible refine (CP1.out _).mono ?_); rintro e w3 ⟨rfl, hb⟩; replace hW := below_keep hW hb hW.size; clear hb)
    | (go_at_call 24; (with_reducible refine (CT.out _).mono ?_); rintro e w4 ⟨rfl, hb⟩; replace hW := below_keep (hW.alloc hW.size _) hb (by have := hW.size; simp; omega); clear hb)
    | (go_at_call 19; (with_reducible refine (CP2.out _).mono ?_); rintro e w5 ⟨rfl, hb⟩; replace hW := below_keep hW hb hW.size; clear hb))
  go_ret
  exact ⟨rfl, hW⟩

set_option maxRecDepth 100000 in
set_option maxHeartbeats 8000000 in
theorem fbreaks_in (id n : Nat) (ext rem : Bool) (data t u : ByteArray) (at' : Int) (p : Nat) (w : World) (c : Nat) (h1 : ¬ (u.size : Int) - 1 < c)
    (CFew : Hid (∀ w, Calls Try.prog 9 #[.agg (frV id ext rem n data)] w fun e w' => e = .returned (.agg (frV id ext rem n t)) ∧ Below w.heap.size w w'))
    (CBt : Hid (∀ w, Calls Try.prog 11 #[.agg (frV id ext rem n t)] w fun e w' => e = .returned (.tuple #[.string u, .int .i64 0]) ∧ Below w.heap.size w w'))
    (CAl : Hid (∀ w, Calls Try.prog 13 #[] w fun e w' => e = .returned (.bool true) ∧ Below w.heap.size w w'))
    (hu44 : 44 ≤ u.size) (hu160 : u.size ≤ 160)
    (CP1 : Hid (∀ w, Calls Try.prog 19 #[.string (u.extract 0 c)] w fun e w' => e = .returned (.tuple #[.agg frZ, .int .i64 0, .int .i64 3]) ∧ Below w.heap.size w w'))
    (CT : Hid (∀ w, Calls Try.prog 24 #[.string u, .int .i64 (wrap64 ((u.size : Int) - 8 + (wrap64 (at'.tmod 8 + 8)).tmod 8))] w fun e w' => e = .returned (.string (B.turnB u p)) ∧ Below w.heap.size w w'))
    (CP2 : Hid (∀ w, Calls Try.prog 19 #[.string (B.turnB u p)] w fun e w' => e = .returned (.tuple #[.agg frZ, .int .i64 0, .int .i64 12]) ∧ Below w.heap.size w w')) :
    Calls Try.prog 6 #[.agg (frV id ext rem n data), .int .i64 (c : Int), .int .i64 at'] w fun e w' => e = .returned (.bool true) ∧ Below w.heap.size w w' := by
  go_enter Try.func6, Try.ntmps6
  go_wp2_with (first
    | (go_at_call 9; (with_reducible refine (CFew.out _).mono ?_); rintro e w1 ⟨rfl, hb⟩; have hB1 := (blk_new w (frV id ext rem n data) 24 w.heap.size rfl).keep hb; have hW := below_keep ((Below.refl w.heap.size w).alloc (Nat.le_refl _) (.cells (frV id ext rem n data) 24)) hb (by simp); have c0 := hB1.cell 0 _ rfl; have c1 := hB1.cell 1 _ rfl; have c2 := hB1.cell 2 _ rfl; have c3 := hB1.cell 3 _ rfl; have c4 := hB1.cell 4 _ rfl; have z0 := hB1.free 0; have z1 := hB1.free 1; have z2 := hB1.free 2; have z3 := hB1.free 3; have z4 := hB1.free 4)
    | (go_at_call 11; (with_reducible refine (CBt.out _).mono ?_); rintro e w2 ⟨rfl, hb⟩; have hB2 := (blk_set4 (blk_set3 (blk_set2 (blk_set1 (blk_set0 hB1 (.int .u32 id)) (.bool ext)) (.bool rem)) (.int .i64 n)) (.string t)).keep hb; replace hW := below_keep (five_below hW _ _ _ _ _) hb (Nat.le_of_lt (blk_set4 (blk_set3 (blk_set2 (blk_set1 (blk_set0 hB1 (.int .u32 id)) (.bool ext)) (.bool rem)) (.int .i64 n)) (.string t)).lt); clear c0 c1 c2 c3 c4 z0 z1 z2 z3 z4 hb hB1)
    | (go_at_call 13; (with_reducible refine (CAl.out _).mono ?_); rintro e w9 ⟨rfl, hb⟩; replace hW := below_keep (hW.alloc hW.size _) hb (by have := hW.size; simp; omega))
    | (go_at_call 19; (with_reducible refine (CP1.out _).mono ?_); rintro e w3 ⟨rfl, hb⟩; replace hW := below_keep hW hb hW.size; clear hb)
    | (go_at_call 24; (with_reducible refine (CT.out _).mono ?_); rintro e w4 ⟨rfl, hb⟩; replace hW := below_keep (hW.alloc hW.size _) hb (by have := hW.size; simp; omega); clear hb)
    | (go_at_call 19; (with_reducible refine (CP2.out _).mono ?_); rintro e w5 ⟨rfl, hb⟩; replace hW := below_keep hW hb hW.size; clear hb))
  go_ret
  exact ⟨rfl, hW⟩

set_option maxRecDepth 100000 in
set_option maxHeartbeats 8000000 in
theorem fbreaks_big (id n : Nat) (ext rem : Bool) (data t u : ByteArray) (cut at' : Int) (p : Nat) (w : World) (h0 : ¬ cut < 0) (h1 : (u.size : Int) - 1 < cut)
    (CFew : Hid (∀ w, Calls Try.prog 9 #[.agg (frV id ext rem n data)] w fun e w' => e = .returned (.agg (frV id ext rem n t)) ∧ Below w.heap.size w w'))
    (CBt : Hid (∀ w, Calls Try.prog 11 #[.agg (frV id ext rem n t)] w fun e w' => e = .returned (.tuple #[.string u, .int .i64 0]) ∧ Below w.heap.size w w'))
    (CAl : Hid (∀ w, Calls Try.prog 13 #[] w fun e w' => e = .returned (.bool true) ∧ Below w.heap.size w w'))
    (hu44 : 44 ≤ u.size) (hu160 : u.size ≤ 160)
    (CP1 : Hid (∀ w, Calls Try.prog 19 #[.string (u.extract 0 (u.size - 1))] w fun e w' => e = .returned (.tuple #[.agg frZ, .int .i64 0, .int .i64 3]) ∧ Below w.heap.size w w'))
    (CT : Hid (∀ w, Calls Try.prog 24 #[.string u, .int .i64 (wrap64 ((u.size : Int) - 8 + (wrap64 (at'.tmod 8 + 8)).tmod 8))] w fun e w' => e = .returned (.string (B.turnB u p)) ∧ Below w.heap.size w w'))
    (CP2 : Hid (∀ w, Calls Try.prog 19 #[.string (B.turnB u p)] w fun e w' => e = .returned (.tuple #[.agg frZ, .int .i64 0, .int .i64 12]) ∧ Below w.heap.size w w')) :
    Calls Try.prog 6 #[.agg (frV id ext rem n data), .int .i64 cut, .int .i64 at'] w fun e w' => e = .returned (.bool true) ∧ Below w.heap.size w w' := by
  go_enter Try.func6, Try.ntmps6
  go_wp2_with (first
    | (go_at_call 9; (with_reducible refine (CFew.out _).mono ?_); rintro e w1 ⟨rfl, hb⟩; have hB1 := (blk_new w (frV id ext rem n data) 24 w.heap.size rfl).keep hb; have hW := below_keep ((Below.refl w.heap.size w).alloc (Nat.le_refl _) (.cells (frV id ext rem n data) 24)) hb (by simp); have c0 := hB1.cell 0 _ rfl; have c1 := hB1.cell 1 _ rfl; have c2 := hB1.cell 2 _ rfl; have c3 := hB1.cell 3 _ rfl; have c4 := hB1.cell 4 _ rfl; have z0 := hB1.free 0; have z1 := hB1.free 1; have z2 := hB1.free 2; have z3 := hB1.free 3; have z4 := hB1.free 4)
    | (go_at_call 11; (with_reducible refine (CBt.out _).mono ?_); rintro e w2 ⟨rfl, hb⟩; have hB2 := (blk_set4 (blk_set3 (blk_set2 (blk_set1 (blk_set0 hB1 (.int .u32 id)) (.bool ext)) (.bool rem)) (.int .i64 n)) (.string t)).keep hb; replace hW := below_keep (five_below hW _ _ _ _ _) hb (Nat.le_of_lt (blk_set4 (blk_set3 (blk_set2 (blk_set1 (blk_set0 hB1 (.int .u32 id)) (.bool ext)) (.bool rem)) (.int .i64 n)) (.string t)).lt); clear c0 c1 c2 c3 c4 z0 z1 z2 z3 z4 hb hB1)
    | (go_at_call 13; (with_reducible refine (CAl.out _).mono ?_); rintro e w9 ⟨rfl, hb⟩; replace hW := below_keep (hW.alloc hW.size _) hb (by have := hW.size; simp; omega))
    | (go_at_call 19; (with_reducible refine (CP1.out _).mono ?_); rintro e w3 ⟨rfl, hb⟩; replace hW := below_keep hW hb hW.size; clear hb)
    | (go_at_call 24; (with_reducible refine (CT.out _).mono ?_); rintro e w4 ⟨rfl, hb⟩; replace hW := below_keep (hW.alloc hW.size _) hb (by have := hW.size; simp; omega); clear hb)
    | (go_at_call 19; (with_reducible refine (CP2.out _).mono ?_); rintro e w5 ⟨rfl, hb⟩; replace hW := below_keep hW hb hW.size; clear hb))
  go_ret
  exact ⟨rfl, hW⟩

theorem frZ_eq : frA B.noFr = frZ := rfl
/-- Parse, of a row whose answer is known to be none -/
theorem parse4_none (s : ByteArray) (er : Nat) (e : Int) (hee : e = er) (w : World) (hr : B.right s = true) (h : B.parseL s.data.toList = (B.noFr, 0, er)) :
    Calls Try.prog 19 #[.string s] w fun e' w' => e' = .returned (.tuple #[.agg frZ, .int .i64 0, .int .i64 e]) ∧ Below w.heap.size w w' := by
  have := parse4_any s w hr
  rw [h] at this
  subst hee
  exact this
theorem tmod_place (a : Int) (k : Nat) (h : 8 ≤ k) (hk : k ≤ 160) : ∃ p : Nat, wrap64 ((k : Int) - 8 + (wrap64 (a.tmod 8 + 8)).tmod 8) = p ∧ k - 8 ≤ p ∧ p < k := by
  have hm1 := Int.tmod_lt_of_pos a (show (0 : Int) < 8 by omega)
  have hm2 := Int.lt_tmod_of_pos a (show (0 : Int) < 8 by omega)
  rw [IntWalk.wrap64_in (a.tmod 8 + 8) (by omega), Int.tmod_eq_emod_of_nonneg (by omega)]
  refine ⟨(k - 8) + ((a.tmod 8 + 8) % 8).toNat, ?_, by omega, by omega⟩
  rw [IntWalk.wrap64_in _ (by omega)]
  omega
theorem framebreaksLaw (id : Nat) (ext rem : Bool) (dlc : Int) (data : ByteArray) (cut at' : Int) (w : World) :
    Calls Try.prog 6 #[.agg (frV id ext rem dlc data), .int .i64 cut, .int .i64 at'] w fun e w' => e = .returned (.bool true) ∧ Below w.heap.size w w' := by
  obtain ⟨t, ht, hc⟩ := cut_at data 12
  have CFew := Lib.hid (fun w => few_any id ext rem dlc data t w hc)
  cases hI : B.frI id ext rem dlc t.size
  · exact fbreaks_false id ext rem dlc data t cut at' w CFew (Lib.hid fun w => bits4_no id ext rem dlc t w hI) (Lib.hid alive4_any)
  · obtain ⟨n, rfl, hf⟩ := frI_back hI
    have hl := B.bits_length hf
    have hur := bits_right hf
    obtain ⟨u, hu⟩ : ∃ u : ByteArray, u = ⟨(B.bitsL ⟨id, ext, rem, n, t.data.toList⟩).toArray⟩ := ⟨_, rfl⟩
    have hul : u.data.toList = B.bitsL ⟨id, ext, rem, n, t.data.toList⟩ := by rw [hu, list_of]
    have hus : u.size = (B.bitsL ⟨id, ext, rem, n, t.data.toList⟩).length := by rw [hu, size_of]
    rw [← hu] at hur
    obtain ⟨p, hp, hp1, hp2⟩ := tmod_place at' u.size (by omega) (by omega)
    have CBt : Hid (∀ w, Calls Try.prog 11 #[.agg (frV id ext rem n t)] w fun e w' => e = .returned (.tuple #[.string u, .int .i64 0]) ∧ Below w.heap.size w w') := Lib.hid (fun w => by rw [hu]; exact bits4_yes id n ext rem t w hf)
    have CT : Hid (∀ w, Calls Try.prog 24 #[.string u, .int .i64 (wrap64 ((u.size : Int) - 8 + (wrap64 (at'.tmod 8 + 8)).tmod 8))] w fun e w' => e = .returned (.string (B.turnB u p)) ∧ Below w.heap.size w w') := Lib.hid (fun w => by rw [hp]; exact refturn_any u p w hp2 (by omega) hur)
    have CP2 : Hid (∀ w, Calls Try.prog 19 #[.string (B.turnB u p)] w fun e w' => e = .returned (.tuple #[.agg frZ, .int .i64 0, .int .i64 12]) ∧ Below w.heap.size w w') := Lib.hid (fun w => parse4_none _ 12 12 rfl w (turn_right hur p) (by
      show B.parseL (u.data.toList.modify p B.turn).toArray.toList = _
      rw [List.toList_toArray, hul]
      exact B.parse_late hf p (by omega) (by omega)))
    have HP1 := fun (c : Nat) (hcl : c < u.size) w => parse4_none (u.extract 0 c) 3 3 rfl w (right_cut hur 0 c) (by
      rw [Lib.extract_data, hul, List.drop_zero, Nat.sub_zero]
      exact B.parse_short hf c (by omega))
    by_cases h0 : cut < 0
    · refine fbreaks_neg id n ext rem data t u cut at' p w h0 CFew CBt (Lib.hid alive4_any) (by omega) (by omega) (Lib.hid fun w => ?_) CT CP2
      have := HP1 0 (by omega) w
      rwa [show u.extract 0 0 = ByteArray.empty from bytes_eq (by rw [Lib.extract_data]; rfl)] at this
    · by_cases h1 : (u.size : Int) - 1 < cut
      · exact fbreaks_big id n ext rem data t u cut at' p w h0 h1 CFew CBt (Lib.hid alive4_any) (by omega) (by omega) (Lib.hid fun w => HP1 (u.size - 1) (by omega) w) CT CP2
      · obtain ⟨c, rfl⟩ := Int.eq_ofNat_of_zero_le (show 0 ≤ cut by omega)
        exact fbreaks_in id n ext rem data t u at' p w c h1 CFew CBt (Lib.hid alive4_any) (by omega) (by omega) (Lib.hid fun w => HP1 c (by omega) w) CT CP2
end Go.Proofs.Ytdpfmpbnahhjmaa
