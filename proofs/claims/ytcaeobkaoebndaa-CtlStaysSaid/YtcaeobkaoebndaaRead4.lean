/- Package frame's Read. -/
import Derived.Test.YtcaeobkaoebndaaFrameOf
import Derived.Test.YtcaeobkaoebndaaHead5
namespace Go.Proofs.Ytcaeobkaoebndaa
open Go.RowKit Go.Lib

/-- the frame of nothing -/
abbrev frZ : Array Value := #[.int .u32 0, .bool false, .bool false, .int .i64 0, .string ⟨#[]⟩]

set_option maxRecDepth 100000 in
set_option maxHeartbeats 1000000 in
theorem read4_no (s : ByteArray) (n e : Int) (w : World) (hCS : ∀ w, Calls Try.prog 43 #[.string s] w fun x w' => x = .returned (.tuple #[.int .i64 n, .int .i64 e]) ∧ Below w.heap.size w w') (h : e ≠ 0 ∨ n ≠ s.size) :
    Calls Try.prog 77 #[.string s] w fun x w' => x = .returned (.tuple #[.agg frZ, .int .i64 12]) ∧ Below w.heap.size w w' := by
  have CS := Lib.hid hCS
  clear hCS
  by_cases he : e = 0
  · have hn : (n != (s.size : Int)) = true := by
      rcases h with h | h
      · exact absurd he h
      · simpa using h
    subst he
    clear h
    go_enter Try.func77, Try.ntmps77
    go_wp2_with (go_at_call 43; (with_reducible refine (CS.out _).mono ?_); rintro e w1 ⟨rfl, hw1⟩; have hZ := (blk_new w frZ 30 w.heap.size rfl).keep hw1; have hB : Below w.heap.size w w1 := ((Below.refl _ _).alloc (Nat.le_refl _) _).trans (hw1.mono (by simp)); clear hw1; have c0 := hZ.cell 0 _ rfl; have c1 := hZ.cell 1 _ rfl; have c2 := hZ.cell 2 _ rfl; have c3 := hZ.cell 3 _ rfl; have c4 := hZ.cell 4 _ rfl; have z0 := hZ.free 0; have z1 := hZ.free 1; have z2 := hZ.free 2; have z3 := hZ.free 3; have z4 := hZ.free 4)
    have hZ6 := blk_set4 (blk_set3 (blk_set2 (blk_set1 (blk_set0 hZ (.int .u32 0)) (.bool false)) (.bool false)) (.int .i64 0)) (.string ⟨#[]⟩)
    have hb6 := five_below hB (.int .u32 0) (.bool false) (.bool false) (.int .i64 0) (.string ⟨#[]⟩)
    revert hZ6 hb6
    generalize (((((w1.setCell ⟨w.heap.size, 0, none⟩ (.int .u32 0)).setCell ⟨w.heap.size, 1, none⟩ (.bool false)).setCell ⟨w.heap.size, 2, none⟩ (.bool false)).setCell ⟨w.heap.size, 3, none⟩ (.int .i64 0)).setCell ⟨w.heap.size, 4, none⟩ (.string ⟨#[]⟩)) = W6
    intro hZ6 hb6
    have k0 := hZ6.cell 0 _ rfl
    have k1 := hZ6.cell 1 _ rfl
    have k2 := hZ6.cell 2 _ rfl
    have k3 := hZ6.cell 3 _ rfl
    have k4 := hZ6.cell 4 _ rfl
    refine bodyPost_ret (v := .tuple #[.agg frZ, .int .i64 12]) (by simp [results, Try.results77, go_sem, k0, k1, k2, k3, k4]) rfl ⟨rfl, hb6⟩
  · have he' : (e != 0) = true := by simpa using he
    clear h
    go_enter Try.func77, Try.ntmps77
    go_wp2_with (go_at_call 43; (with_reducible refine (CS.out _).mono ?_); rintro e w1 ⟨rfl, hw1⟩; have hZ := (blk_new w frZ 30 w.heap.size rfl).keep hw1; have hB : Below w.heap.size w w1 := ((Below.refl _ _).alloc (Nat.le_refl _) _).trans (hw1.mono (by simp)); clear hw1; have c0 := hZ.cell 0 _ rfl; have c1 := hZ.cell 1 _ rfl; have c2 := hZ.cell 2 _ rfl; have c3 := hZ.cell 3 _ rfl; have c4 := hZ.cell 4 _ rfl; have z0 := hZ.free 0; have z1 := hZ.free 1; have z2 := hZ.free 2; have z3 := hZ.free 3; have z4 := hZ.free 4)
    have hZ6 := blk_set4 (blk_set3 (blk_set2 (blk_set1 (blk_set0 hZ (.int .u32 0)) (.bool false)) (.bool false)) (.int .i64 0)) (.string ⟨#[]⟩)
    have hb6 := five_below hB (.int .u32 0) (.bool false) (.bool false) (.int .i64 0) (.string ⟨#[]⟩)
    revert hZ6 hb6
    generalize (((((w1.setCell ⟨w.heap.size, 0, none⟩ (.int .u32 0)).setCell ⟨w.heap.size, 1, none⟩ (.bool false)).setCell ⟨w.heap.size, 2, none⟩ (.bool false)).setCell ⟨w.heap.size, 3, none⟩ (.int .i64 0)).setCell ⟨w.heap.size, 4, none⟩ (.string ⟨#[]⟩)) = W6
    intro hZ6 hb6
    have k0 := hZ6.cell 0 _ rfl
    have k1 := hZ6.cell 1 _ rfl
    have k2 := hZ6.cell 2 _ rfl
    have k3 := hZ6.cell 3 _ rfl
    have k4 := hZ6.cell 4 _ rfl
    refine bodyPost_ret (v := .tuple #[.agg frZ, .int .i64 12]) (by simp [results, Try.results77, go_sem, k0, k1, k2, k3, k4]) rfl ⟨rfl, hb6⟩

set_option maxRecDepth 100000 in
set_option maxHeartbeats 4000000 in
theorem read4_yes (s : ByteArray) (w : World) (hr : B.right s = true) (h : B.sizeL s.data.toList = (s.size, 0)) (hh : B.headB (B.decode s.data.toList) s = true) :
    Calls Try.prog 77 #[.string s] w fun x w' => x = .returned (.tuple #[.agg (frV (B.decode s.data.toList).id (B.decode s.data.toList).ext (B.decode s.data.toList).remote ((B.decode s.data.toList).dlc : Int) ⟨(B.decode s.data.toList).data.toArray⟩), .int .i64 0]) ∧ Below w.heap.size w w' := by
  have hall := B.right_all hr
  have h' : B.sizeL s.data.toList = (s.data.toList.length, 0) := by rw [B.size_len]; exact h
  have hfr := B.decode_fr hall h'
  have CS0 := fun w => size4_any s w hr
  rw [h] at CS0
  have CS : Hid (∀ w, Calls Try.prog 43 #[.string s] w fun x w' => x = .returned (.tuple #[.int .i64 s.size, .int .i64 0]) ∧ Below w.heap.size w w') := Lib.hid CS0
  have CF := Lib.hid (fun w => frameOf_any s w hr h)
  obtain ⟨F, hF⟩ : ∃ F, F = B.decode s.data.toList := ⟨_, rfl⟩
  rw [← hF] at CF hfr hh ⊢
  obtain ⟨id, ext, rem, n, data⟩ := F
  have CH := Lib.hid (fun w => head4_yes id n ext rem ⟨data.toArray⟩ w (by rw [list_of]; exact hfr))
  rw [list_of] at CH
  unfold B.headB at hh
  obtain ⟨u, hu⟩ : ∃ u : ByteArray, u = ⟨(B.headL ⟨id, ext, rem, n, data⟩).toArray⟩ := ⟨_, rfl⟩
  rw [← hu] at CH hh
  obtain ⟨D, hD⟩ : ∃ D : ByteArray, D = ⟨data.toArray⟩ := ⟨_, rfl⟩
  simp only at CF ⊢
  rw [← hD] at CF CH ⊢
  clear CS0 hF hfr h h' hall hr hu hD
  go_enter Try.func77, Try.ntmps77
  go_wp2_with (first
    | (go_at_call 43; (with_reducible refine (CS.out _).mono ?_); rintro e w1 ⟨rfl, hw1⟩; have hZ := (blk_new w frZ 30 w.heap.size rfl).keep hw1; have hB : Below w.heap.size w w1 := ((Below.refl _ _).alloc (Nat.le_refl _) _).trans (hw1.mono (by simp)); clear hw1)
    | (go_at_call 90; (with_reducible refine (CF.out _).mono ?_); rintro e w2 ⟨rfl, hw2⟩)
    | (go_at_call 65; (with_reducible refine (CH.out _).mono ?_); rintro e w3 ⟨rfl, hw3⟩; have hZ3 := ((hZ.keep hw2).alloc (.cells (frV id ext rem n D) 30)).keep hw3; have hF3 := (blk_new w2 (frV id ext rem n D) 30 w2.heap.size rfl).keep hw3; have hB2 := below_keep hB hw2 (Nat.le_of_lt hZ.lt); have hB3 := below_keep (hB2.alloc hB2.size (.cells (frV id ext rem n D) 30)) hw3 (by have := hB2.size; simp; omega); clear hw3 hw2 hB hB2 hZ; have f0 := hF3.cell 0 _ rfl; have f1 := hF3.cell 1 _ rfl; have f2 := hF3.cell 2 _ rfl; have f3 := hF3.cell 3 _ rfl; have f4 := hF3.cell 4 _ rfl; have c0 := hZ3.cell 0 _ rfl; have c1 := hZ3.cell 1 _ rfl; have c2 := hZ3.cell 2 _ rfl; have c3 := hZ3.cell 3 _ rfl; have c4 := hZ3.cell 4 _ rfl; have z0 := hZ3.free 0; have z1 := hZ3.free 1; have z2 := hZ3.free 2; have z3 := hZ3.free 3; have z4 := hZ3.free 4))
  have hZ6 := blk_set4 (blk_set3 (blk_set2 (blk_set1 (blk_set0 hZ3 (.int .u32 id)) (.bool ext)) (.bool rem)) (.int .i64 n)) (.string D)
  have hb6 := five_below hB3 (.int .u32 id) (.bool ext) (.bool rem) (.int .i64 n) (.string D)
  revert hZ6 hb6
  generalize (((((w3.setCell ⟨w.heap.size, 0, none⟩ (.int .u32 id)).setCell ⟨w.heap.size, 1, none⟩ (.bool ext)).setCell ⟨w.heap.size, 2, none⟩ (.bool rem)).setCell ⟨w.heap.size, 3, none⟩ (.int .i64 n)).setCell ⟨w.heap.size, 4, none⟩ (.string D)) = W6
  intro hZ6 hb6
  have k0 := hZ6.cell 0 _ rfl
  have k1 := hZ6.cell 1 _ rfl
  have k2 := hZ6.cell 2 _ rfl
  have k3 := hZ6.cell 3 _ rfl
  have k4 := hZ6.cell 4 _ rfl
  refine bodyPost_ret (v := .tuple #[.agg (frV id ext rem n D), .int .i64 0]) (by simp [results, Try.results77, go_sem, k0, k1, k2, k3, k4]) rfl ⟨rfl, hb6⟩

set_option maxRecDepth 100000 in
set_option maxHeartbeats 4000000 in
theorem read4_other (s : ByteArray) (w : World) (hr : B.right s = true) (h : B.sizeL s.data.toList = (s.size, 0)) (hh : B.headB (B.decode s.data.toList) s = false) :
    Calls Try.prog 77 #[.string s] w fun x w' => x = .returned (.tuple #[.agg frZ, .int .i64 12]) ∧ Below w.heap.size w w' := by
  have hall := B.right_all hr
  have h' : B.sizeL s.data.toList = (s.data.toList.length, 0) := by rw [B.size_len]; exact h
  have hfr := B.decode_fr hall h'
  have CS0 := fun w => size4_any s w hr
  rw [h] at CS0
  have CS : Hid (∀ w, Calls Try.prog 43 #[.string s] w fun x w' => x = .returned (.tuple #[.int .i64 s.size, .int .i64 0]) ∧ Below w.heap.size w w') := Lib.hid CS0
  have CF := Lib.hid (fun w => frameOf_any s w hr h)
  obtain ⟨F, hF⟩ : ∃ F, F = B.decode s.data.toList := ⟨_, rfl⟩
  rw [← hF] at CF hfr hh
  obtain ⟨id, ext, rem, n, data⟩ := F
  have CH := Lib.hid (fun w => head4_yes id n ext rem ⟨data.toArray⟩ w (by rw [list_of]; exact hfr))
  rw [list_of] at CH
  unfold B.headB at hh
  obtain ⟨u, hu⟩ : ∃ u : ByteArray, u = ⟨(B.headL ⟨id, ext, rem, n, data⟩).toArray⟩ := ⟨_, rfl⟩
  rw [← hu] at CH hh
  obtain ⟨D, hD⟩ : ∃ D : ByteArray, D = ⟨data.toArray⟩ := ⟨_, rfl⟩
  simp only at CF
  rw [← hD] at CF CH
  clear CS0 hF hfr h h' hall hr hu hD
  go_enter Try.func77, Try.ntmps77
  go_wp2_with (first
    | (go_at_call 43; (with_reducible refine (CS.out _).mono ?_); rintro e w1 ⟨rfl, hw1⟩; have hZ := (blk_new w frZ 30 w.heap.size rfl).keep hw1; have hB : Below w.heap.size w w1 := ((Below.refl _ _).alloc (Nat.le_refl _) _).trans (hw1.mono (by simp)); clear hw1)
    | (go_at_call 90; (with_reducible refine (CF.out _).mono ?_); rintro e w2 ⟨rfl, hw2⟩)
    | (go_at_call 65; (with_reducible refine (CH.out _).mono ?_); rintro e w3 ⟨rfl, hw3⟩; have hZ3 := ((hZ.keep hw2).alloc (.cells (frV id ext rem n D) 30)).keep hw3; have hF3 := (blk_new w2 (frV id ext rem n D) 30 w2.heap.size rfl).keep hw3; have hB2 := below_keep hB hw2 (Nat.le_of_lt hZ.lt); have hB3 := below_keep (hB2.alloc hB2.size (.cells (frV id ext rem n D) 30)) hw3 (by have := hB2.size; simp; omega); clear hw3 hw2 hB hB2 hZ; have f0 := hF3.cell 0 _ rfl; have f1 := hF3.cell 1 _ rfl; have f2 := hF3.cell 2 _ rfl; have f3 := hF3.cell 3 _ rfl; have f4 := hF3.cell 4 _ rfl; have c0 := hZ3.cell 0 _ rfl; have c1 := hZ3.cell 1 _ rfl; have c2 := hZ3.cell 2 _ rfl; have c3 := hZ3.cell 3 _ rfl; have c4 := hZ3.cell 4 _ rfl; have z0 := hZ3.free 0; have z1 := hZ3.free 1; have z2 := hZ3.free 2; have z3 := hZ3.free 3; have z4 := hZ3.free 4))
  have hZ6 := blk_set4 (blk_set3 (blk_set2 (blk_set1 (blk_set0 hZ3 (.int .u32 0)) (.bool false)) (.bool false)) (.int .i64 0)) (.string ⟨#[]⟩)
  have hb6 := five_below hB3 (.int .u32 0) (.bool false) (.bool false) (.int .i64 0) (.string ⟨#[]⟩)
  revert hZ6 hb6
  generalize (((((w3.setCell ⟨w.heap.size, 0, none⟩ (.int .u32 0)).setCell ⟨w.heap.size, 1, none⟩ (.bool false)).setCell ⟨w.heap.size, 2, none⟩ (.bool false)).setCell ⟨w.heap.size, 3, none⟩ (.int .i64 0)).setCell ⟨w.heap.size, 4, none⟩ (.string ⟨#[]⟩)) = W6
  intro hZ6 hb6
  have k0 := hZ6.cell 0 _ rfl
  have k1 := hZ6.cell 1 _ rfl
  have k2 := hZ6.cell 2 _ rfl
  have k3 := hZ6.cell 3 _ rfl
  have k4 := hZ6.cell 4 _ rfl
  refine bodyPost_ret (v := .tuple #[.agg frZ, .int .i64 12]) (by simp [results, Try.results77, go_sem, k0, k1, k2, k3, k4]) rfl ⟨rfl, hb6⟩

end Go.Proofs.Ytcaeobkaoebndaa
