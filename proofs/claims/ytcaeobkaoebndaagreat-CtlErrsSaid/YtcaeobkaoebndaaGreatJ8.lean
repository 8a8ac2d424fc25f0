/- Own texts joined: Head5 Read4. -/
import Derived.Test.YtcaeobkaoebndaaGreatHead4
import Derived.Test.YtcaeobkaoebndaaGreatFrameOf
/- Head5 -/
namespace Go.Proofs.YtcaeobkaoebndaaGreat
open Go.RowKit Go.Lib

set_option maxRecDepth 100000 in
set_option maxHeartbeats 1000000 in
theorem head4_no (id : Nat) (ext rem : Bool) (dlc : Int) (data : ByteArray) (w : World) (h : B.frI id ext rem dlc data.size = false) :
    Calls Tryz.prog 88 #[.agg (frV id ext rem dlc data)] w fun e w' => e = .returned (.tuple #[.string ⟨#[]⟩, .int .i64 1]) ∧ Below w.heap.size w w' := by
  have CR := right4_any id ext rem dlc data (w.alloc (.cells (frV id ext rem dlc data) 24))
  rw [h] at CR
  replace CR := Lib.hid CR
  have hA : Below w.heap.size w (w.alloc (.cells (frV id ext rem dlc data) 24)) := (Below.refl _ _).alloc (Nat.le_refl _) _
  clear h
  go_enter Tryz.func88, Tryz.ntmps88
  go_wp2_with (go_at_call 27; (with_reducible refine CR.out.mono ?_); rintro e w1 ⟨rfl, hb⟩)
  go_ret2
  exact ⟨rfl, hA.trans (hb.mono (by simp))⟩

theorem headL_ne (f : B.Fr) : B.headL f ≠ [] := by
  intro h; have := congrArg List.length h; rw [B.headL_length] at this; unfold B.base at this; split at this <;> simp at this

set_option maxRecDepth 100000 in
set_option maxHeartbeats 2000000 in
theorem head4_yes (id n : Nat) (ext rem : Bool) (data : ByteArray) (w : World) (h : B.FrR ⟨id, ext, rem, n, data.data.toList⟩) :
    Calls Tryz.prog 88 #[.agg (frV id ext rem n data)] w fun e w' => e = .returned (.tuple #[.string ⟨(B.headL ⟨id, ext, rem, n, data.data.toList⟩).toArray⟩, .int .i64 0]) ∧ Below w.heap.size w w' := by
  have CR := right4_any id ext rem n data (w.alloc (.cells (frV id ext rem n data) 24))
  have hI := frI_of h
  rw [of_list] at hI
  simp only at hI
  rw [hI] at CR
  replace CR := Lib.hid CR
  have CH := Lib.hid (fun (w1 : World) (h1 : Wr w1.heap.size w1.heap.size [] (w1.alloc (.cells #[.pointer none, .slice none 0 0] 124))) => wrhead_any w1.heap.size w1.heap.size id n ext rem data _ h1 h)
  have CS := Lib.hid (fun G b (w1 : World) (h1 : Wr G b (B.headL ⟨id, ext, rem, n, data.data.toList⟩) w1) => wrstring_any G b _ w1 h1 (headL_ne _))
  have hA : Below w.heap.size w (w.alloc (.cells (frV id ext rem n data) 24)) := (Below.refl _ _).alloc (Nat.le_refl _) _
  have hK := blk_new w (frV id ext rem n data) 24 w.heap.size rfl
  obtain ⟨H, hH⟩ : ∃ H, H = B.headL ⟨id, ext, rem, n, data.data.toList⟩ := ⟨_, rfl⟩
  rw [← hH] at CH CS ⊢
  clear h hI hH
  go_enter Tryz.func88, Tryz.ntmps88
  go_wp2_with (first
    | (go_at_call 27; (with_reducible refine CR.out.mono ?_); rintro e w1 ⟨rfl, hb⟩; have hW := hA.trans (hb.mono (by simp)); have hB := (hK.keep hb).alloc (.cells #[.pointer none, .slice none 0 0] 124); have hz := hB.lt; clear hA hK hb; have c0 := hB.cell 0 _ rfl; have c1 := hB.cell 1 _ rfl; have c2 := hB.cell 2 _ rfl; have c3 := hB.cell 3 _ rfl; have c4 := hB.cell 4 _ rfl)
    | (go_at_call 102; (with_reducible refine (CH.out _ (wr_new _)).mono ?_); rintro e w2 ⟨rfl, h2, hb2⟩)
    | (go_at_call 35; (with_reducible refine (CS.out _ _ _ h2).mono ?_); rintro e w3 ⟨rfl, hb3⟩))
  go_ret2
  refine ⟨rfl, ?_⟩
  have hsz : w.heap.size ≤ w1.heap.size := hW.size
  exact ((hW.alloc hsz _).trans (hb2.mono hsz)).trans (hb3.mono hsz)

set_option maxRecDepth 100000 in
set_option maxHeartbeats 1000000 in
theorem bits4_no (id : Nat) (ext rem : Bool) (dlc : Int) (data : ByteArray) (w : World) (h : B.frI id ext rem dlc data.size = false) :
    Calls Tryz.prog 67 #[.agg (frV id ext rem dlc data)] w fun e w' => e = .returned (.tuple #[.string ⟨#[]⟩, .int .i64 1]) ∧ Below w.heap.size w w' := by
  have CH := Lib.hid (head4_no id ext rem dlc data (w.alloc (.cells (frV id ext rem dlc data) 24)) h)
  have hA : Below w.heap.size w (w.alloc (.cells (frV id ext rem dlc data) 24)) := (Below.refl _ _).alloc (Nat.le_refl _) _
  clear h
  go_enter Tryz.func67, Tryz.ntmps67
  go_wp2_with (go_at_call 88; (with_reducible refine CH.out.mono ?_); rintro e w1 ⟨rfl, hb⟩)
  go_ret2
  exact ⟨rfl, hA.trans (hb.mono (by simp))⟩

set_option maxRecDepth 100000 in
set_option maxHeartbeats 1000000 in
theorem bits4_yes (id n : Nat) (ext rem : Bool) (data : ByteArray) (w : World) (h : B.FrR ⟨id, ext, rem, n, data.data.toList⟩) :
    Calls Tryz.prog 67 #[.agg (frV id ext rem n data)] w fun e w' => e = .returned (.tuple #[.string ⟨(B.bitsL ⟨id, ext, rem, n, data.data.toList⟩).toArray⟩, .int .i64 0]) ∧ Below w.heap.size w w' := by
  have hhr := head_right h
  have hbl := B.bits_length h
  have hbits := Lib.hid (bits_ones ⟨id, ext, rem, n, data.data.toList⟩)
  have hsz : (⟨(B.stf (B.framed ⟨(B.headL ⟨id, ext, rem, n, data.data.toList⟩).toArray⟩).data.toList).2.toArray⟩ : ByteArray).size ≤ 160 := by
    rw [size_of, framed_list, list_of]; unfold B.bitsL at hbl; rw [List.length_append] at hbl; omega
  have hhz : (⟨(B.headL ⟨id, ext, rem, n, data.data.toList⟩).toArray⟩ : ByteArray).size ≤ 160 := by
    have hl := B.stf_length (B.sumL_all (B.headL_all ⟨id, ext, rem, n, data.data.toList⟩))
    rw [size_of]; unfold B.bitsL at hbl; rw [List.length_append] at hbl; rw [B.sumL_length] at hl; omega
  have CH := Lib.hid (fun w => head4_yes id n ext rem data w h)
  obtain ⟨u, hu⟩ : ∃ u : ByteArray, u = ⟨(B.headL ⟨id, ext, rem, n, data.data.toList⟩).toArray⟩ := ⟨_, rfl⟩
  rw [← hu] at CH hhr hhz hsz hbits
  have CS := Lib.hid (fun w => frame_yes u w hhr (by omega))
  have hfz := B.framed_size u
  have CT := Lib.hid (fun w => stuff_yes (B.framed u) w (B.framed_right hhr (by omega)) (by unfold B.stfS; omega))
  obtain ⟨v, hv⟩ : ∃ v, v = B.framed u := ⟨_, rfl⟩
  rw [← hv] at CS CT hsz hbits
  obtain ⟨x, hx⟩ : ∃ x : ByteArray, x = ⟨(B.stf v.data.toList).2.toArray⟩ := ⟨_, rfl⟩
  rw [show B.stfS v = x from hx.symm] at CT
  rw [← hx] at hsz hbits
  clear hu hv hx hfz hhr hbl h
  have hB : Below w.heap.size w (w.alloc (.cells (frV id ext rem n data) 24)) := (Below.refl _ _).alloc (Nat.le_refl _) _
  go_enter Tryz.func67, Tryz.ntmps67
  go_wp2_with (first
    | (go_at_call 88; (with_reducible refine (CH.out _).mono ?_); rintro e w' ⟨rfl, hb⟩; replace hB := hB.trans (hb.mono hB.size))
    | (go_at_call 89; (with_reducible refine (CS.out _).mono ?_); rintro e w' ⟨rfl, hb⟩; replace hB := hB.trans (hb.mono hB.size))
    | (go_at_call 90; (with_reducible refine (CT.out _).mono ?_); rintro e w' ⟨rfl, hb⟩; replace hB := hB.trans (hb.mono hB.size)))
  go_ret2
  exact ⟨ret_str hbits.out, hB⟩

/-- alive: the law's own trial -/
theorem B.alive_head : (⟨(headL ⟨5, false, false, 0, []⟩).toArray⟩ : ByteArray) = ⟨#[48, 48, 48, 48, 48, 48, 48, 48, 48, 49, 48, 49, 48, 48, 48, 48, 48, 48, 48]⟩ := by decide +kernel
end Go.Proofs.YtcaeobkaoebndaaGreat

/- Read4 -/
namespace Go.Proofs.YtcaeobkaoebndaaGreat
open Go.RowKit Go.Lib

/-- the frame of nothing -/
abbrev frZ : Array Value := #[.int .u32 0, .bool false, .bool false, .int .i64 0, .string ⟨#[]⟩]

set_option maxRecDepth 100000 in
set_option maxHeartbeats 1000000 in
theorem read4_no (s : ByteArray) (n e : Int) (w : World) (hCS : ∀ w, Calls Tryz.prog 64 #[.string s] w fun x w' => x = .returned (.tuple #[.int .i64 n, .int .i64 e]) ∧ Below w.heap.size w w') (h : e ≠ 0 ∨ n ≠ s.size) :
    Calls Tryz.prog 101 #[.string s] w fun x w' => x = .returned (.tuple #[.agg frZ, .int .i64 12]) ∧ Below w.heap.size w w' := by
  have CS := Lib.hid hCS
  clear hCS
  by_cases he : e = 0
  · have hn : (n != (s.size : Int)) = true := by
      rcases h with h | h
      · exact absurd he h
      · simpa using h
    subst he
    clear h
    go_enter Tryz.func101, Tryz.ntmps101
    go_wp2_with (go_at_call 64; (with_reducible refine (CS.out _).mono ?_); rintro e w1 ⟨rfl, hw1⟩; have hZ := (blk_new w frZ 24 w.heap.size rfl).keep hw1; have hB : Below w.heap.size w w1 := ((Below.refl _ _).alloc (Nat.le_refl _) _).trans (hw1.mono (by simp)); clear hw1; have c0 := hZ.cell 0 _ rfl; have c1 := hZ.cell 1 _ rfl; have c2 := hZ.cell 2 _ rfl; have c3 := hZ.cell 3 _ rfl; have c4 := hZ.cell 4 _ rfl; have z0 := hZ.free 0; have z1 := hZ.free 1; have z2 := hZ.free 2; have z3 := hZ.free 3; have z4 := hZ.free 4)
    have hZ6 := blk_set4 (blk_set3 (blk_set2 (blk_set1 (blk_set0 hZ (.int .u32 0)) (.bool false)) (.bool false)) (.int .i64 0)) (.string ⟨#[]⟩)
    have hb6 := five_below hB (.int .u32 0) (.bool false) (.bool false) (.int .i64 0) (.string ⟨#[]⟩)
    revert hZ6 hb6
    generalize (((((w1.setCell ⟨w.heap.size, 0, none⟩ (.int .u32 0)).setCell ⟨w.heap.size, 1, none⟩ (.bool false)).setCell ⟨w.heap.size, 2, none⟩ (.bool false)).setCell ⟨w.heap.size, 3, none⟩ (.int .i64 0)).setCell ⟨w.heap.size, 4, none⟩ (.string ⟨#[]⟩)) = W6
    intro hZ6 hb6
    have k0 := hZ6.cell 0 _ rfl
    have k1 := hZ6.cell 1 _ rfl
    have k2 := hZ6.cell 2 _ rfl
    have k3 := hZ6.cell 3 _ rfl
    have k4 := hZ6.cell 4 _ rfl
    refine bodyPost_ret (v := .tuple #[.agg frZ, .int .i64 12]) (by simp [results, Tryz.results101, go_sem, k0, k1, k2, k3, k4]) rfl ⟨rfl, hb6⟩
  · have he' : (e != 0) = true := by simpa using he
    clear h
    go_enter Tryz.func101, Tryz.ntmps101
    go_wp2_with (go_at_call 64; (with_reducible refine (CS.out _).mono ?_); rintro e w1 ⟨rfl, hw1⟩; have hZ := (blk_new w frZ 24 w.heap.size rfl).keep hw1; have hB : Below w.heap.size w w1 := ((Below.refl _ _).alloc (Nat.le_refl _) _).trans (hw1.mono (by simp)); clear hw1; have c0 := hZ.cell 0 _ rfl; have c1 := hZ.cell 1 _ rfl; have c2 := hZ.cell 2 _ rfl; have c3 := hZ.cell 3 _ rfl; have c4 := hZ.cell 4 _ rfl; have z0 := hZ.free 0; have z1 := hZ.free 1; have z2 := hZ.free 2; have z3 := hZ.free 3; have z4 := hZ.free 4)
    have hZ6 := blk_set4 (blk_set3 (blk_set2 (blk_set1 (blk_set0 hZ (.int .u32 0)) (.bool false)) (.bool false)) (.int .i64 0)) (.string ⟨#[]⟩)
    have hb6 := five_below hB (.int .u32 0) (.bool false) (.bool false) (.int .i64 0) (.string ⟨#[]⟩)
    revert hZ6 hb6
    generalize (((((w1.setCell ⟨w.heap.size, 0, none⟩ (.int .u32 0)).setCell ⟨w.heap.size, 1, none⟩ (.bool false)).setCell ⟨w.heap.size, 2, none⟩ (.bool false)).setCell ⟨w.heap.size, 3, none⟩ (.int .i64 0)).setCell ⟨w.heap.size, 4, none⟩ (.string ⟨#[]⟩)) = W6
    intro hZ6 hb6
    have k0 := hZ6.cell 0 _ rfl
    have k1 := hZ6.cell 1 _ rfl
    have k2 := hZ6.cell 2 _ rfl
    have k3 := hZ6.cell 3 _ rfl
    have k4 := hZ6.cell 4 _ rfl
    refine bodyPost_ret (v := .tuple #[.agg frZ, .int .i64 12]) (by simp [results, Tryz.results101, go_sem, k0, k1, k2, k3, k4]) rfl ⟨rfl, hb6⟩

set_option maxRecDepth 100000 in
set_option maxHeartbeats 4000000 in
theorem read4_yes (s : ByteArray) (w : World) (hr : B.right s = true) (h : B.sizeL s.data.toList = (s.size, 0)) (hh : B.headB (B.decode s.data.toList) s = true) :
    Calls Tryz.prog 101 #[.string s] w fun x w' => x = .returned (.tuple #[.agg (frV (B.decode s.data.toList).id (B.decode s.data.toList).ext (B.decode s.data.toList).remote ((B.decode s.data.toList).dlc : Int) ⟨(B.decode s.data.toList).data.toArray⟩), .int .i64 0]) ∧ Below w.heap.size w w' := by
  have hall := B.right_all hr
  have h' : B.sizeL s.data.toList = (s.data.toList.length, 0) := by rw [B.size_len]; exact h
  have hfr := B.decode_fr hall h'
  have CS0 := fun w => size4_any s w hr
  rw [h] at CS0
  have CS : Hid (∀ w, Calls Tryz.prog 64 #[.string s] w fun x w' => x = .returned (.tuple #[.int .i64 s.size, .int .i64 0]) ∧ Below w.heap.size w w') := Lib.hid CS0
  have CF := Lib.hid (fun w => frameOf_any s w hr h)
  obtain ⟨F, hF⟩ : ∃ F, F = B.decode s.data.toList := ⟨_, rfl⟩
  rw [← hF] at CF hfr hh ⊢
  obtain ⟨id, ext, rem, n, data⟩ := F
  have CH := Lib.hid (fun w => head4_yes id n ext rem ⟨data.toArray⟩ w (by rw [list_of]; exact hfr))
  rw [list_of] at CH
  unfold B.headB at hh
  obtain ⟨u, hu⟩ : ∃ u : ByteArray, u = ⟨(B.headL ⟨id, ext, rem, n, data⟩).toArray⟩ := ⟨_, rfl⟩
  rw [← hu] at CH hh
  obtain ⟨D, hD⟩ : ∃ D : ByteArray, D = ⟨data.toArray⟩ := ⟨_, rfl⟩
  simp only at CF ⊢
  rw [← hD] at CF CH ⊢
  clear CS0 hF hfr h h' hall hr hu hD
  go_enter Tryz.func101, Tryz.ntmps101
  go_wp2_with (first
    | (go_at_call 64; (with_reducible refine (CS.out _).mono ?_); rintro e w1 ⟨rfl, hw1⟩; have hZ := (blk_new w frZ 24 w.heap.size rfl).keep hw1; have hB : Below w.heap.size w w1 := ((Below.refl _ _).alloc (Nat.le_refl _) _).trans (hw1.mono (by simp)); clear hw1)
    | (go_at_call 113; (with_reducible refine (CF.out _).mono ?_); rintro e w2 ⟨rfl, hw2⟩)
    | (go_at_call 88; (with_reducible refine (CH.out _).mono ?_); rintro e w3 ⟨rfl, hw3⟩; have hZ3 := ((hZ.keep hw2).alloc (.cells (frV id ext rem n D) 24)).keep hw3; have hF3 := (blk_new w2 (frV id ext rem n D) 24 w2.heap.size rfl).keep hw3; have hB2 := below_keep hB hw2 (Nat.le_of_lt hZ.lt); have hB3 := below_keep (hB2.alloc hB2.size (.cells (frV id ext rem n D) 24)) hw3 (by have := hB2.size; simp; omega); clear hw3 hw2 hB hB2 hZ; have f0 := hF3.cell 0 _ rfl; have f1 := hF3.cell 1 _ rfl; have f2 := hF3.cell 2 _ rfl; have f3 := hF3.cell 3 _ rfl; have f4 := hF3.cell 4 _ rfl; have c0 := hZ3.cell 0 _ rfl; have c1 := hZ3.cell 1 _ rfl; have c2 := hZ3.cell 2 _ rfl; have c3 := hZ3.cell 3 _ rfl; have c4 := hZ3.cell 4 _ rfl; have z0 := hZ3.free 0; have z1 := hZ3.free 1; have z2 := hZ3.free 2; have z3 := hZ3.free 3; have z4 := hZ3.free 4))
  have hZ6 := blk_set4 (blk_set3 (blk_set2 (blk_set1 (blk_set0 hZ3 (.int .u32 id)) (.bool ext)) (.bool rem)) (.int .i64 n)) (.string D)
  have hb6 := five_below hB3 (.int .u32 id) (.bool ext) (.bool rem) (.int .i64 n) (.string D)
  revert hZ6 hb6
  generalize (((((w3.setCell ⟨w.heap.size, 0, none⟩ (.int .u32 id)).setCell ⟨w.heap.size, 1, none⟩ (.bool ext)).setCell ⟨w.heap.size, 2, none⟩ (.bool rem)).setCell ⟨w.heap.size, 3, none⟩ (.int .i64 n)).setCell ⟨w.heap.size, 4, none⟩ (.string D)) = W6
  intro hZ6 hb6
  have k0 := hZ6.cell 0 _ rfl
  have k1 := hZ6.cell 1 _ rfl
  have k2 := hZ6.cell 2 _ rfl
  have k3 := hZ6.cell 3 _ rfl
  have k4 := hZ6.cell 4 _ rfl
  refine bodyPost_ret (v := .tuple #[.agg (frV id ext rem n D), .int .i64 0]) (by simp [results, Tryz.results101, go_sem, k0, k1, k2, k3, k4]) rfl ⟨rfl, hb6⟩

set_option maxRecDepth 100000 in
set_option maxHeartbeats 4000000 in
theorem read4_other (s : ByteArray) (w : World) (hr : B.right s = true) (h : B.sizeL s.data.toList = (s.size, 0)) (hh : B.headB (B.decode s.data.toList) s = false) :
    Calls Tryz.prog 101 #[.string s] w fun x w' => x = .returned (.tuple #[.agg frZ, .int .i64 12]) ∧ Below w.heap.size w w' := by
  have hall := B.right_all hr
  have h' : B.sizeL s.data.toList = (s.data.toList.length, 0) := by rw [B.size_len]; exact h
  have hfr := B.decode_fr hall h'
  have CS0 := fun w => size4_any s w hr
  rw [h] at CS0
  have CS : Hid (∀ w, Calls Tryz.prog 64 #[.string s] w fun x w' => x = .returned (.tuple #[.int .i64 s.size, .int .i64 0]) ∧ Below w.heap.size w w') := Lib.hid CS0
  have CF := Lib.hid (fun w => frameOf_any s w hr h)
  obtain ⟨F, hF⟩ : ∃ F, F = B.decode s.data.toList := ⟨_, rfl⟩
  rw [← hF] at CF hfr hh
  obtain ⟨id, ext, rem, n, data⟩ := F
  have CH := Lib.hid (fun w => head4_yes id n ext rem ⟨data.toArray⟩ w (by rw [list_of]; exact hfr))
  rw [list_of] at CH
  unfold B.headB at hh
  obtain ⟨u, hu⟩ : ∃ u : ByteArray, u = ⟨(B.headL ⟨id, ext, rem, n, data⟩).toArray⟩ := ⟨_, rfl⟩
  rw [← hu] at CH hh
  obtain ⟨D, hD⟩ : ∃ D : ByteArray, D = ⟨data.toArray⟩ := ⟨_, rfl⟩
  simp only at CF
  rw [← hD] at CF CH
  clear CS0 hF hfr h h' hall hr hu hD
  go_enter Tryz.func101, Tryz.ntmps101
  go_wp2_with (first
    | (go_at_call 64; (with_reducible refine (CS.out _).mono ?_); rintro e w1 ⟨rfl, hw1⟩; have hZ := (blk_new w frZ 24 w.heap.size rfl).keep hw1; have hB : Below w.heap.size w w1 := ((Below.refl _ _).alloc (Nat.le_refl _) _).trans (hw1.mono (by simp)); clear hw1)
    | (go_at_call 113; (with_reducible refine (CF.out _).mono ?_); rintro e w2 ⟨rfl, hw2⟩)
    | (go_at_call 88; (with_reducible refine (CH.out _).mono ?_); rintro e w3 ⟨rfl, hw3⟩; have hZ3 := ((hZ.keep hw2).alloc (.cells (frV id ext rem n D) 24)).keep hw3; have hF3 := (blk_new w2 (frV id ext rem n D) 24 w2.heap.size rfl).keep hw3; have hB2 := below_keep hB hw2 (Nat.le_of_lt hZ.lt); have hB3 := below_keep (hB2.alloc hB2.size (.cells (frV id ext rem n D) 24)) hw3 (by have := hB2.size; simp; omega); clear hw3 hw2 hB hB2 hZ; have f0 := hF3.cell 0 _ rfl; have f1 := hF3.cell 1 _ rfl; have f2 := hF3.cell 2 _ rfl; have f3 := hF3.cell 3 _ rfl; have f4 := hF3.cell 4 _ rfl; have c0 := hZ3.cell 0 _ rfl; have c1 := hZ3.cell 1 _ rfl; have c2 := hZ3.cell 2 _ rfl; have c3 := hZ3.cell 3 _ rfl; have c4 := hZ3.cell 4 _ rfl; have z0 := hZ3.free 0; have z1 := hZ3.free 1; have z2 := hZ3.free 2; have z3 := hZ3.free 3; have z4 := hZ3.free 4))
  have hZ6 := blk_set4 (blk_set3 (blk_set2 (blk_set1 (blk_set0 hZ3 (.int .u32 0)) (.bool false)) (.bool false)) (.int .i64 0)) (.string ⟨#[]⟩)
  have hb6 := five_below hB3 (.int .u32 0) (.bool false) (.bool false) (.int .i64 0) (.string ⟨#[]⟩)
  revert hZ6 hb6
  generalize (((((w3.setCell ⟨w.heap.size, 0, none⟩ (.int .u32 0)).setCell ⟨w.heap.size, 1, none⟩ (.bool false)).setCell ⟨w.heap.size, 2, none⟩ (.bool false)).setCell ⟨w.heap.size, 3, none⟩ (.int .i64 0)).setCell ⟨w.heap.size, 4, none⟩ (.string ⟨#[]⟩)) = W6
  intro hZ6 hb6
  have k0 := hZ6.cell 0 _ rfl
  have k1 := hZ6.cell 1 _ rfl
  have k2 := hZ6.cell 2 _ rfl
  have k3 := hZ6.cell 3 _ rfl
  have k4 := hZ6.cell 4 _ rfl
  refine bodyPost_ret (v := .tuple #[.agg frZ, .int .i64 12]) (by simp [results, Tryz.results101, go_sem, k0, k1, k2, k3, k4]) rfl ⟨rfl, hb6⟩

end Go.Proofs.YtcaeobkaoebndaaGreat
