/- Layer 4's law FrameTurned: plain facts, and its walk. -/
import Derived.Test.YtdpfmpbnahhjmaaFBreaks
namespace Go.Proofs.Ytdpfmpbnahhjmaa
open Go.RowKit Go.Lib

/-- a frame one of whose stuffed bits is turned is not read as that frame -/
theorem B.parse_turned {f : Fr} (h : FrR f) (i : Nat) (hi : i + 10 < (bitsL f).length) {x : Fr} {k e : Nat} (hp : parseL ((bitsL f).modify i turn) = (x, k, e)) : e ≠ 0 ∨ x ≠ f := by
  by_cases he : e = 0
  · right
    rintro rfl
    subst he
    have hall : (bitsL x).all okc = true := by
      unfold bitsL
      rw [List.all_append, stf_all (sumL_all (headL_all x))]; rfl
    obtain ⟨_, _, ht⟩ := parse_back (all_modify hall i) hp
    have hl : i < (stf (sumL (headL x))).2.length := by
      unfold bitsL at hi
      rw [List.length_append, List.length_replicate] at hi; omega
    have h1 : ((bitsL x).modify i turn)[i]? = ((stf (sumL (headL x))).2)[i]? := by
      have := congrArg (fun l : List UInt8 => l[i]?) ht
      simp only [List.getElem?_take, if_pos hl] at this
      exact this
    have h2 : (bitsL x)[i]? = some ((stf (sumL (headL x))).2[i]) := by
      unfold bitsL; rw [List.getElem?_append_left hl, List.getElem?_eq_getElem hl]
    rw [List.getElem?_modify, h2, List.getElem?_eq_getElem hl] at h1
    simp at h1
    exact turn_ne _ h1
  · exact .inl he

set_option maxRecDepth 100000 in
set_option maxHeartbeats 8000000 in
theorem fturned_false (id : Nat) (ext rem : Bool) (dlc : Int) (data t : ByteArray) (at' : Int) (w : World)
    (CFew : Hid (∀ w, Calls Try.prog 9 #[.agg (frV id ext rem dlc data)] w fun e w' => e = .returned (.agg (frV id ext rem dlc t)) ∧ Below w.heap.size w w'))
    (CBt : Hid (∀ w, Calls Try.prog 11 #[.agg (frV id ext rem dlc t)] w fun e w' => e = .returned (.tuple #[.string ⟨#[]⟩, .int .i64 1]) ∧ Below w.heap.size w w'))
    (CAl : Hid (∀ w, Calls Try.prog 13 #[] w fun e w' => e = .returned (.bool true) ∧ Below w.heap.size w w')) :
    Calls Try.prog 7 #[.agg (frV id ext rem dlc data), .int .i64 at'] w fun e w' => e = .returned (.bool true) ∧ Below w.heap.size w w' := by
  go_enter Try.func7, Try.ntmps7
  go_wp2_with (first
    | (go_at_call 9; (with_reducible refine (CFew.out _).mono ?_); rintro e w1 ⟨rfl, hb⟩; have hB1 := (blk_new w (frV id ext rem dlc data) 24 w.heap.size rfl).keep hb; have hW := below_keep ((Below.refl w.heap.size w).alloc (Nat.le_refl _) (.cells (frV id ext rem dlc data) 24)) hb (by simp); have c0 := hB1.cell 0 _ rfl; have c1 := hB1.cell 1 _ rfl; have c2 := hB1.cell 2 _ rfl; have c3 := hB1.cell 3 _ rfl; have c4 := hB1.cell 4 _ rfl; have z0 := hB1.free 0; have z1 := hB1.free 1; have z2 := hB1.free 2; have z3 := hB1.free 3; have z4 := hB1.free 4)
    | (go_at_call 11; (with_reducible refine (CBt.out _).mono ?_); rintro e w2 ⟨rfl, hb⟩; have hB2 := (blk_set4 (blk_set3 (blk_set2 (blk_set1 (blk_set0 hB1 (.int .u32 id)) (.bool ext)) (.bool rem)) (.int .i64 dlc)) (.string t)).keep hb; replace hW := below_keep (five_below hW _ _ _ _ _) hb (Nat.le_of_lt (blk_set4 (blk_set3 (blk_set2 (blk_set1 (blk_set0 hB1 (.int .u32 id)) (.bool ext)) (.bool rem)) (.int .i64 dlc)) (.string t)).lt); clear c0 c1 c2 c3 c4 z0 z1 z2 z3 z4 hb hB1)
    | (go_at_call 13; (with_reducible refine (CAl.out _).mono ?_); rintro e w9 ⟨rfl, hb⟩; replace hW := below_keep hW hb hW.size))
  go_ret
  exact ⟨rfl, hW⟩

set_option maxRecDepth 100000 in
set_option maxHeartbeats 8000000 in
theorem fturned_err (id n : Nat) (ext rem : Bool) (data t u v : ByteArray) (at' : Int) (id2 n2 : Nat) (ext2 rem2 : Bool) (t2 : ByteArray) (k e : Int) (w : World) (he : (e != 0) = true)
    (CFew : Hid (∀ w, Calls Try.prog 9 #[.agg (frV id ext rem n data)] w fun e w' => e = .returned (.agg (frV id ext rem n t)) ∧ Below w.heap.size w w'))
    (CBt : Hid (∀ w, Calls Try.prog 11 #[.agg (frV id ext rem n t)] w fun e w' => e = .returned (.tuple #[.string u, .int .i64 0]) ∧ Below w.heap.size w w'))
    (CAl : Hid (∀ w, Calls Try.prog 13 #[] w fun e w' => e = .returned (.bool true) ∧ Below w.heap.size w w'))
    (hu44 : 44 ≤ u.size) (hu160 : u.size ≤ 160)
    (CT : Hid (∀ w, Calls Try.prog 24 #[.string u, .int .i64 ((wrap64 (at'.tmod ((u.size : Int) - 10) + ((u.size : Int) - 10))).tmod ((u.size : Int) - 10))] w fun e w' => e = .returned (.string v) ∧ Below w.heap.size w w'))
    (CP : Hid (∀ w, Calls Try.prog 19 #[.string v] w fun x w' => x = .returned (.tuple #[.agg (frV id2 ext2 rem2 n2 t2), .int .i64 k, .int .i64 e]) ∧ Below w.heap.size w w')) :
    Calls Try.prog 7 #[.agg (frV id ext rem n data), .int .i64 at'] w fun e w' => e = .returned (.bool true) ∧ Below w.heap.size w w' := by
  go_enter Try.func7, Try.ntmps7
  go_wp2_with (first
    | (go_at_call 9; (with_reducible refine (CFew.out _).mono ?_); rintro e w1 ⟨rfl, hb⟩; have hB1 := (blk_new w (frV id ext rem n data) 24 w.heap.size rfl).keep hb; have hW := below_keep ((Below.refl w.heap.size w).alloc (Nat.le_refl _) (.cells (frV id ext rem n data) 24)) hb (by simp); have c0 := hB1.cell 0 _ rfl; have c1 := hB1.cell 1 _ rfl; have c2 := hB1.cell 2 _ rfl; have c3 := hB1.cell 3 _ rfl; have c4 := hB1.cell 4 _ rfl; have z0 := hB1.free 0; have z1 := hB1.free 1; have z2 := hB1.free 2; have z3 := hB1.free 3; have z4 := hB1.free 4)
    | (go_at_call 11; (with_reducible refine (CBt.out _).mono ?_); rintro e w2 ⟨rfl, hb⟩; have hB2 := (blk_set4 (blk_set3 (blk_set2 (blk_set1 (blk_set0 hB1 (.int .u32 id)) (.bool ext)) (.bool rem)) (.int .i64 n)) (.string t)).keep hb; replace hW := below_keep (five_below hW _ _ _ _ _) hb (Nat.le_of_lt (blk_set4 (blk_set3 (blk_set2 (blk_set1 (blk_set0 hB1 (.int .u32 id)) (.bool ext)) (.bool rem)) (.int .i64 n)) (.string t)).lt); clear c0 c1 c2 c3 c4 z0 z1 z2 z3 z4 hb hB1)
    | (go_at_call 13; (with_reducible refine (CAl.out _).mono ?_); rintro e w9 ⟨rfl, hb⟩; have hX := (blk_new w5 (frV id2 ext2 rem2 n2 t2) 24 w5.heap.size rfl).keep hb; have hB9 := (hB5.alloc (.cells (frV id2 ext2 rem2 n2 t2) 24)).keep hb; replace hW := below_keep (hW.alloc hW.size _) hb (by have := hW.size; simp; omega); clear hb hB5; have d0 := hX.cell 0 _ rfl; have d1 := hX.cell 1 _ rfl; have d2 := hX.cell 2 _ rfl; have d3 := hX.cell 3 _ rfl; have d4 := hX.cell 4 _ rfl; have f0 := hB9.cell 0 _ rfl; have f1 := hB9.cell 1 _ rfl; have f2 := hB9.cell 2 _ rfl; have f3 := hB9.cell 3 _ rfl; have f4 := hB9.cell 4 _ rfl)
    | (go_at_call 24; (with_reducible refine (CT.out _).mono ?_); rintro e w4 ⟨rfl, hb⟩; have hB4 := hB2.keep hb; replace hW := below_keep hW hb hW.size; clear hb hB2)
    | (go_at_call 19; (with_reducible refine (CP.out _).mono ?_); rintro e w5 ⟨rfl, hb⟩; have hB5 := hB4.keep hb; replace hW := below_keep hW hb hW.size; clear hb hB4))
  go_ret
  exact ⟨rfl, hW⟩

set_option maxRecDepth 100000 in
set_option maxHeartbeats 8000000 in
theorem fturned_same (id n : Nat) (ext rem : Bool) (data t u v : ByteArray) (at' : Int) (id2 n2 : Nat) (ext2 rem2 : Bool) (t2 : ByteArray) (k e : Int) (w : World) (he : (e != 0) = false) (HNE : Hid (¬ (id2 = id ∧ ext2 = ext ∧ rem2 = rem ∧ n2 = n ∧ t2 = t)))
    (CFew : Hid (∀ w, Calls Try.prog 9 #[.agg (frV id ext rem n data)] w fun e w' => e = .returned (.agg (frV id ext rem n t)) ∧ Below w.heap.size w w'))
    (CBt : Hid (∀ w, Calls Try.prog 11 #[.agg (frV id ext rem n t)] w fun e w' => e = .returned (.tuple #[.string u, .int .i64 0]) ∧ Below w.heap.size w w'))
    (CAl : Hid (∀ w, Calls Try.prog 13 #[] w fun e w' => e = .returned (.bool true) ∧ Below w.heap.size w w'))
    (hu44 : 44 ≤ u.size) (hu160 : u.size ≤ 160)
    (CT : Hid (∀ w, Calls Try.prog 24 #[.string u, .int .i64 ((wrap64 (at'.tmod ((u.size : Int) - 10) + ((u.size : Int) - 10))).tmod ((u.size : Int) - 10))] w fun e w' => e = .returned (.string v) ∧ Below w.heap.size w w'))
    (CP : Hid (∀ w, Calls Try.prog 19 #[.string v] w fun x w' => x = .returned (.tuple #[.agg (frV id2 ext2 rem2 n2 t2), .int .i64 k, .int .i64 e]) ∧ Below w.heap.size w w')) :
    Calls Try.prog 7 #[.agg (frV id ext rem n data), .int .i64 at'] w fun e w' => e = .returned (.bool true) ∧ Below w.heap.size w w' := by
  go_enter Try.func7, Try.ntmps7
  go_wp2_with (first
    | (go_at_call 9; (with_reducible refine (CFew.out _).mono ?_); rintro e w1 ⟨rfl, hb⟩; have hB1 := (blk_new w (frV id ext rem n data) 24 w.heap.size rfl).keep hb; have hW := below_keep ((Below.refl w.heap.size w).alloc (Nat.le_refl _) (.cells (frV id ext rem n data) 24)) hb (by simp); have c0 := hB1.cell 0 _ rfl; have c1 := hB1.cell 1 _ rfl; have c2 := hB1.cell 2 _ rfl; have c3 := hB1.cell 3 _ rfl; have c4 := hB1.cell 4 _ rfl; have z0 := hB1.free 0; have z1 := hB1.free 1; have z2 := hB1.free 2; have z3 := hB1.free 3; have z4 := hB1.free 4)
    | (go_at_call 11; (with_reducible refine (CBt.out _).mono ?_); rintro e w2 ⟨rfl, hb⟩; have hB2 := (blk_set4 (blk_set3 (blk_set2 (blk_set1 (blk_set0 hB1 (.int .u32 id)) (.bool ext)) (.bool rem)) (.int .i64 n)) (.string t)).keep hb; replace hW := below_keep (five_below hW _ _ _ _ _) hb (Nat.le_of_lt (blk_set4 (blk_set3 (blk_set2 (blk_set1 (blk_set0 hB1 (.int .u32 id)) (.bool ext)) (.bool rem)) (.int .i64 n)) (.string t)).lt); clear c0 c1 c2 c3 c4 z0 z1 z2 z3 z4 hb hB1)
    | (go_at_call 13; (with_reducible refine (CAl.out _).mono ?_); rintro e w9 ⟨rfl, hb⟩; have hX := (blk_new w5 (frV id2 ext2 rem2 n2 t2) 24 w5.heap.size rfl).keep hb; have hB9 := (hB5.alloc (.cells (frV id2 ext2 rem2 n2 t2) 24)).keep hb; replace hW := below_keep (hW.alloc hW.size _) hb (by have := hW.size; simp; omega); clear hb hB5; have d0 := hX.cell 0 _ rfl; have d1 := hX.cell 1 _ rfl; have d2 := hX.cell 2 _ rfl; have d3 := hX.cell 3 _ rfl; have d4 := hX.cell 4 _ rfl; have f0 := hB9.cell 0 _ rfl; have f1 := hB9.cell 1 _ rfl; have f2 := hB9.cell 2 _ rfl; have f3 := hB9.cell 3 _ rfl; have f4 := hB9.cell 4 _ rfl)
    | (go_at_call 24; (with_reducible refine (CT.out _).mono ?_); rintro e w4 ⟨rfl, hb⟩; have hB4 := hB2.keep hb; replace hW := below_keep hW hb hW.size; clear hb hB2)
    | (go_at_call 19; (with_reducible refine (CP.out _).mono ?_); rintro e w5 ⟨rfl, hb⟩; have hB5 := hB4.keep hb; replace hW := below_keep hW hb hW.size; clear hb hB4))
  all_goals first
    | (go_ret; exact ⟨rfl, hW⟩)
    | (exact absurd ⟨by omega, ‹ext2 = ext›, ‹rem2 = rem›, by omega, bytes_eq ((ByteArray.toList_eq t2).symm.trans (‹t2.toList = t.toList›.trans (ByteArray.toList_eq t)))⟩ HNE.out)

theorem tmod_in (a : Int) (k : Nat) (h : 1 ≤ k) (hk : k ≤ 160) : ∃ p : Nat, (wrap64 (a.tmod (k : Int) + (k : Int))).tmod (k : Int) = p ∧ p < k := by
  have hm1 := Int.tmod_lt_of_pos a (show (0 : Int) < k by omega)
  have hm2 := Int.lt_tmod_of_pos a (show (0 : Int) < k by omega)
  rw [IntWalk.wrap64_in _ (by omega), Int.tmod_eq_emod_of_nonneg (by omega)]
  have h1 := Int.emod_nonneg (a.tmod (k : Int) + (k : Int)) (show (k : Int) ≠ 0 by omega)
  have h2 := Int.emod_lt_of_pos (a.tmod (k : Int) + (k : Int)) (show (0 : Int) < k by omega)
  exact ⟨((a.tmod (k : Int) + (k : Int)) % (k : Int)).toNat, by omega, by omega⟩
theorem frameturnedLaw (id : Nat) (ext rem : Bool) (dlc : Int) (data : ByteArray) (at' : Int) (w : World) :
    Calls Try.prog 7 #[.agg (frV id ext rem dlc data), .int .i64 at'] w fun e w' => e = .returned (.bool true) ∧ Below w.heap.size w w' := by
  obtain ⟨t, ht, hc⟩ := cut_at data 12
  have CFew := Lib.hid (fun w => few_any id ext rem dlc data t w hc)
  cases hI : B.frI id ext rem dlc t.size
  · exact fturned_false id ext rem dlc data t at' w CFew (Lib.hid fun w => bits4_no id ext rem dlc t w hI) (Lib.hid alive4_any)
  · obtain ⟨n, rfl, hf⟩ := frI_back hI
    have hl := B.bits_length hf
    have hur := bits_right hf
    obtain ⟨u, hu⟩ : ∃ u : ByteArray, u = ⟨(B.bitsL ⟨id, ext, rem, n, t.data.toList⟩).toArray⟩ := ⟨_, rfl⟩
    have hul : u.data.toList = B.bitsL ⟨id, ext, rem, n, t.data.toList⟩ := by rw [hu, list_of]
    have hus : u.size = (B.bitsL ⟨id, ext, rem, n, t.data.toList⟩).length := by rw [hu, size_of]
    rw [← hu] at hur
    obtain ⟨p, hp, hp2⟩ := tmod_in at' (u.size - 10) (by omega) (by omega)
    rw [show ((u.size - 10 : Nat) : Int) = (u.size : Int) - 10 by omega] at hp
    have CBt : Hid (∀ w, Calls Try.prog 11 #[.agg (frV id ext rem n t)] w fun e w' => e = .returned (.tuple #[.string u, .int .i64 0]) ∧ Below w.heap.size w w') := Lib.hid (fun w => by rw [hu]; exact bits4_yes id n ext rem t w hf)
    have CT : Hid (∀ w, Calls Try.prog 24 #[.string u, .int .i64 ((wrap64 (at'.tmod ((u.size : Int) - 10) + ((u.size : Int) - 10))).tmod ((u.size : Int) - 10))] w fun e w' => e = .returned (.string (B.turnB u p)) ∧ Below w.heap.size w w') := Lib.hid (fun w => by rw [hp]; exact refturn_any u p w (by omega) (by omega) hur)
    have CP0 := fun w => parse4_any (B.turnB u p) w (turn_right hur p)
    have hpl : B.parseL (B.turnB u p).data.toList = B.parseL ((B.bitsL ⟨id, ext, rem, n, t.data.toList⟩).modify p B.turn) := by
      rw [← hul]
      show B.parseL (u.data.toList.modify p B.turn).toArray.toList = _
      rw [List.toList_toArray]
    rcases hR : B.parseL (B.turnB u p).data.toList with ⟨x, k, e⟩
    rw [hR] at CP0 hpl
    have hor := B.parse_turned hf p (by omega) hpl.symm
    by_cases he : e = 0
    · have hne : x ≠ ⟨id, ext, rem, n, t.data.toList⟩ := by
        rcases hor with h | h
        · exact absurd he h
        · exact h
      refine fturned_same id n ext rem data t u _ at' x.id x.dlc x.ext x.remote ⟨x.data.toArray⟩ k e w (by simp; omega) (Lib.hid ?_) CFew CBt (Lib.hid alive4_any) (by omega) (by omega) CT (Lib.hid CP0)
      rintro ⟨h1, h2, h3, h4, h5⟩
      exact hne (B.Fr.same h1 h2 h3 h4 (by simp only; rw [← h5, list_of]))
    · exact fturned_err id n ext rem data t u _ at' x.id x.dlc x.ext x.remote ⟨x.data.toArray⟩ k e w (by simp; omega) CFew CBt (Lib.hid alive4_any) (by omega) (by omega) CT (Lib.hid CP0)
end Go.Proofs.Ytdpfmpbnahhjmaa
