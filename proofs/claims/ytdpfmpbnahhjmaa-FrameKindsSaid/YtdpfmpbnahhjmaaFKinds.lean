/- Layer 4's law FrameKinds. -/
import Derived.Test.YtdpfmpbnahhjmaaFLawA
import Derived.Deep.RegionHeld3
import Derived.Deep.DrawnRows
namespace Go.Proofs.Ytdpfmpbnahhjmaa
open Go.RowKit Go.Lib
attribute [local go_sem ↓] Go.wp_at_zero Go.wp_at_succ

/-- what stands behind a callee that keeps all that was there -/
def FS (B0 : Nat) (w : World) (id : Nat) (ext rem : Bool) (dlc : Int) (t : ByteArray) (w' : World) : Prop :=
  Below B0 w w' ∧ B0 ≤ w'.heap.size ∧ w'.cell? ⟨B0, 0, none⟩ = some (.int .u32 id) ∧ w'.cell? ⟨B0, 1, none⟩ = some (.bool ext) ∧ w'.cell? ⟨B0, 2, none⟩ = some (.bool rem) ∧ w'.cell? ⟨B0, 3, none⟩ = some (.int .i64 dlc) ∧ w'.cell? ⟨B0, 4, none⟩ = some (.string t)
theorem FS.keep {B0 id : Nat} {w wa wb : World} {ext rem : Bool} {dlc : Int} {t : ByteArray} (k : Below wa.heap.size wa wb) (h : FS B0 w id ext rem dlc t wa) : FS B0 w id ext rem dlc t wb := by
  obtain ⟨h1, h2, c0, c1, c2, c3, c4⟩ := h
  exact ⟨below_keep h1 k h2, by have := k.size; omega, cell_keep k c0, cell_keep k c1, cell_keep k c2, cell_keep k c3, cell_keep k c4⟩

theorem head_size_of {f : B.Fr} : (⟨(B.headL f).toArray⟩ : ByteArray).size = B.base f + 8 * f.data.length := by rw [size_of, B.headL_length]
theorem head_at {f : B.Fr} (i : Nat) (h : i < (⟨(B.headL f).toArray⟩ : ByteArray).size) : (⟨(B.headL f).toArray⟩ : ByteArray)[i] = B.bitAt (B.headL f) i := by
  rw [← bitAt_of _ i h, list_of]
theorem right_cat {a b : ByteArray} (ha : B.right a = true) (hb : B.right b = true) (hz : a.size + b.size ≤ 4000) : B.right (a ++ b) = true :=
  right_of_all (by rw [ByteArray.size_append]; exact hz) (by rw [B.cat_list, List.all_append, B.right_all ha, B.right_all hb]; rfl)

set_option maxRecDepth 100000 in
set_option maxHeartbeats 4000000 in
theorem kinds_false (id : Nat) (ext rem : Bool) (dlc : Int) (data t : ByteArray) (w : World)
    (CFew : Hid (∀ w, Calls Try.prog 9 #[.agg (frV id ext rem dlc data)] w fun e w' => e = .returned (.agg (frV id ext rem dlc t)) ∧ Below w.heap.size w w'))
    (CHd : Hid (∀ w, Calls Try.prog 10 #[.agg (frV id ext rem dlc t)] w fun e w' => e = .returned (.tuple #[.string ⟨#[]⟩, .int .i64 1]) ∧ Below w.heap.size w w'))
    (CRr : Hid (∀ w, Calls Try.prog 12 #[.agg (frV id ext rem dlc t)] w fun e w' => e = .returned (.bool false) ∧ Below w.heap.size w w'))
    (CAl : Hid (∀ w, Calls Try.prog 13 #[] w fun e w' => e = .returned (.bool true) ∧ Below w.heap.size w w')) :
    Calls Try.prog 8 #[.agg (frV id ext rem dlc data)] w fun e w' => e = .returned (.bool true) ∧ Below w.heap.size w w' := by
  go_enter Try.func8, Try.ntmps8
  go_wp2_with (first
    | (go_at_call 9; (with_reducible refine (CFew.out _).mono ?_); rintro e w1 ⟨rfl, hb⟩; have hB1 := (blk_new w (frV id ext rem dlc data) 24 w.heap.size rfl).keep hb; have hW := below_keep ((Below.refl w.heap.size w).alloc (Nat.le_refl _) (.cells (frV id ext rem dlc data) 24)) hb (by simp); have c0 := hB1.cell 0 _ rfl; have c1 := hB1.cell 1 _ rfl; have c2 := hB1.cell 2 _ rfl; have c3 := hB1.cell 3 _ rfl; have c4 := hB1.cell 4 _ rfl; have z0 := hB1.free 0; have z1 := hB1.free 1; have z2 := hB1.free 2; have z3 := hB1.free 3; have z4 := hB1.free 4)
    | (go_at_call 10; (with_reducible refine (CHd.out _).mono ?_); rintro e w' ⟨rfl, hb⟩; have hB2 := (blk_set4 (blk_set3 (blk_set2 (blk_set1 (blk_set0 hB1 (.int .u32 id)) (.bool ext)) (.bool rem)) (.int .i64 dlc)) (.string t)).keep hb; replace hW := below_keep (five_below hW _ _ _ _ _) hb (Nat.le_of_lt (blk_set4 (blk_set3 (blk_set2 (blk_set1 (blk_set0 hB1 (.int .u32 id)) (.bool ext)) (.bool rem)) (.int .i64 dlc)) (.string t)).lt); clear c0 c1 c2 c3 c4 z0 z1 z2 z3 z4)
    | (go_at_call 13; (with_reducible refine (CAl.out _).mono ?_); rintro e w' ⟨rfl, hb⟩; replace hW := below_keep hW hb (Nat.le_of_lt hB2.lt); have hB5 := hB2.keep hb; have g0 := hB5.cell 0 _ rfl; have g1 := hB5.cell 1 _ rfl; have g2 := hB5.cell 2 _ rfl; have g3 := hB5.cell 3 _ rfl; have g4 := hB5.cell 4 _ rfl)
    | (go_at_call 12; (with_reducible refine (CRr.out _).mono ?_); rintro e w' ⟨rfl, hb⟩; replace hW := below_keep hW hb (Nat.le_of_lt hB5.lt)))
  go_ret
  exact ⟨rfl, hW⟩

set_option maxRecDepth 100000 in
set_option maxHeartbeats 4000000 in
theorem kinds_f (id n : Nat) (rem : Bool) (data t : ByteArray) (w : World) (hf : B.FrR ⟨id, false, rem, n, t.data.toList⟩)
    (CFew : Hid (∀ w, Calls Try.prog 9 #[.agg (frV id false rem n data)] w fun e w' => e = .returned (.agg (frV id false rem n t)) ∧ Below w.heap.size w w')) :
    Calls Try.prog 8 #[.agg (frV id false rem n data)] w fun e w' => e = .returned (.bool true) ∧ Below w.heap.size w w' := by
  have CHd := Lib.hid (fun w => head4_yes id n false rem t w hf)
  have CAl := Lib.hid alive4_any
  have hn8 : n ≤ 8 := hf.1
  have hidb : (id : Int) < 536870912 := by
    have h3 := hf.2.2
    simp only at h3
    split at h3 <;> omega
  have ht8 : t.size ≤ 8 := by
    have h2 := hf.2.1
    rw [← B.size_len]
    split at h2
    · simp only at h2; rw [h2]; simp
    · simp only at h2; omega
  have HIDB := fun (_ : Unit) => hidb
  clear hidb
  have COf : Hid (∀ w, Calls Try.prog 25 #[.int .u64 n, .int .i64 4] w fun e w' => e = .returned (.string (B.ofn n 4)) ∧ w = w') := Lib.hid fun w => refof_any n 4 w (by omega) (by omega)
  have hhr := head_right hf
  have hsz : (⟨(B.headL ⟨id, false, rem, n, t.data.toList⟩).toArray⟩ : ByteArray).size = 19 + 8 * t.size := by rw [head_size_of, B.size_len]; rfl
  have b0 : B.bitAt (B.headL ⟨id, false, rem, n, t.data.toList⟩) 0 = 48 := rfl
  have b13 := B.head_13 ⟨id, false, rem, n, t.data.toList⟩ []
  have br := B.head_r ⟨id, false, rem, n, t.data.toList⟩ []
  have bd := B.head_dlc ⟨id, false, rem, n, t.data.toList⟩ []
  have bi := B.head_id hf
  rw [List.append_nil] at b13 br bd
  rw [b13] at bi
  obtain ⟨h, hh⟩ : ∃ h : ByteArray, h = ⟨(B.headL ⟨id, false, rem, n, t.data.toList⟩).toArray⟩ := ⟨_, rfl⟩
  have hl : B.headL ⟨id, false, rem, n, t.data.toList⟩ = h.data.toList := by rw [hh, list_of]
  rw [← hh] at CHd hhr hsz
  rw [hl] at b0 b13 br bd bi
  clear hh hl hf
  have p0 : 0 < h.size := by omega
  have p13 : 13 < h.size := by omega
  have pr : 12 < h.size := by omega
  rw [bitAt_of h 0 p0] at b0
  rw [bitAt_of h 13 p13] at b13
  change B.bitAt h.data.toList 12 = B.rb rem at br
  rw [bitAt_of h 12 pr] at br
  change B.cutL h.data.toList 15 19 = B.ofl n 4 at bd
  rw [cutL_of] at bd
  have x0 : ((h[0].toNat : Int) != 48) = false := by rw [b0] <;> rfl
  have x13 : ((h[13].toNat : Int) == 49) = false := by rw [b13] <;> rfl
  have xr : ((h[12].toNat : Int) == 49) = rem := by rw [br] <;> (cases rem <;> rfl)
  have xd : h.extract 15 19 = B.ofn n 4 := bytes_eq (by rw [bd] <;> rfl)
  have xs : ((h.size : Int) != 19 + 8 * (t.size : Int)) = false := by rw [hsz]; simp
  have hnum : B.num (h.extract 1 12).data.toList = id := by rw [← cutL_of]; simpa using bi
  have CN0 := fun w => refnum_any (h.extract 1 12) w (by rw [ByteArray.size_extract]; omega) (right_cut hhr 1 12)
  rw [hnum] at CN0
  have CN := Lib.hid CN0
  have hs3 : (32 : Int) ≤ h.size ∨ 19 = 19 := by omega
  have hsb : (19 : Int) ≤ h.size := by omega
  have hs12 : (12 : Int) ≤ h.size := by omega
  have ht8' : (t.size : Int) ≤ 8 := by omega
  clear b0 b13 br bd bi hhr hnum CN0 hsz
  go_enter Try.func8, Try.ntmps8
  go_wp2_with (first
    | (go_at_call 9; (with_reducible refine (CFew.out _).mono ?_); rintro e w1 ⟨rfl, hb⟩; have hB1 := (blk_new w (frV id false rem n data) 24 w.heap.size rfl).keep hb; have hW := below_keep ((Below.refl w.heap.size w).alloc (Nat.le_refl _) (.cells (frV id false rem n data) 24)) hb (by simp); have c0 := hB1.cell 0 _ rfl; have c1 := hB1.cell 1 _ rfl; have c2 := hB1.cell 2 _ rfl; have c3 := hB1.cell 3 _ rfl; have c4 := hB1.cell 4 _ rfl; have z0 := hB1.free 0; have z1 := hB1.free 1; have z2 := hB1.free 2; have z3 := hB1.free 3; have z4 := hB1.free 4)
    | (go_at_call 10; (with_reducible refine (CHd.out _).mono ?_); rintro e w' ⟨rfl, hb⟩; have hB2 := (blk_set4 (blk_set3 (blk_set2 (blk_set1 (blk_set0 hB1 (.int .u32 id)) (.bool false)) (.bool rem)) (.int .i64 n)) (.string t)).keep hb; replace hW := below_keep (five_below hW _ _ _ _ _) hb (Nat.le_of_lt (blk_set4 (blk_set3 (blk_set2 (blk_set1 (blk_set0 hB1 (.int .u32 id)) (.bool false)) (.bool rem)) (.int .i64 n)) (.string t)).lt); clear c0 c1 c2 c3 c4 z0 z1 z2 z3 z4; have d1 := hB2.cell 1 _ rfl))
  have hlt2 := hB2.lt
  have hS0 : FS w.heap.size w id false rem n t w' := ⟨hW, by omega, hB2.cell 0 _ rfl, hB2.cell 1 _ rfl, hB2.cell 2 _ rfl, hB2.cell 3 _ rfl, hB2.cell 4 _ rfl⟩
  clear hB1 hB2 hW d1 hlt2 hb CFew CHd
  obtain ⟨B0, hB0⟩ : ∃ k, k = w.heap.size := ⟨_, rfl⟩
  rw [← hB0] at hS0 ⊢
  have HB := Lib.hid hB0
  clear hB0
  have KS := Lib.hid (show ∀ wa wb, Below wa.heap.size wa wb → (Below B0 w wa ∧ B0 ≤ wa.heap.size ∧ wa.cell? ⟨B0, 0, none⟩ = some (.int .u32 id) ∧ wa.cell? ⟨B0, 1, none⟩ = some (.bool false) ∧ wa.cell? ⟨B0, 2, none⟩ = some (.bool rem) ∧ wa.cell? ⟨B0, 3, none⟩ = some (.int .i64 n) ∧ wa.cell? ⟨B0, 4, none⟩ = some (.string t)) → (Below B0 w wb ∧ B0 ≤ wb.heap.size ∧ wb.cell? ⟨B0, 0, none⟩ = some (.int .u32 id) ∧ wb.cell? ⟨B0, 1, none⟩ = some (.bool false) ∧ wb.cell? ⟨B0, 2, none⟩ = some (.bool rem) ∧ wb.cell? ⟨B0, 3, none⟩ = some (.int .i64 n) ∧ wb.cell? ⟨B0, 4, none⟩ = some (.string t)) from fun wa wb k h => FS.keep k h)
  obtain ⟨hS1, hS2, d0, d1, d2, d3, d4⟩ := (show FS B0 w _ _ _ _ _ _ from hS0)
  have hS1' := hS1.drew
  clear hS0
  have y1 : IntKind.i64.wrap (8 * (t.size : Int)) = 8 * (t.size : Int) := IntWalk.i64_in _ (by omega)
  have y2 : IntKind.i64.wrap (19 + 8 * (t.size : Int)) = 19 + 8 * (t.size : Int) := IntWalk.i64_in _ (by omega)
  have y3 : IntKind.i64.wrap (19 - 7) = 12 := rfl
  have y4 : IntKind.i64.wrap (19 - 4) = 15 := rfl
  have y5 : IntKind.i64.wrap 12 = 12 := rfl
  have y6 : IntKind.i64.wrap 15 = 15 := rfl
  have y7 : IntKind.u64.wrap (n : Int) = n := IntWalk.u64_in _ (by omega)
  have pr' : (12 : Int) < h.size := by omega
  go_region_held3 (fun w' => Below B0 w w' ∧ B0 ≤ w'.heap.size ∧ w'.cell? ⟨B0, 0, none⟩ = some (.int .u32 id) ∧ w'.cell? ⟨B0, 1, none⟩ = some (.bool false) ∧ w'.cell? ⟨B0, 2, none⟩ = some (.bool rem) ∧ w'.cell? ⟨B0, 3, none⟩ = some (.int .i64 n) ∧ w'.cell? ⟨B0, 4, none⟩ = some (.string t))
    (first | assumption | exact ⟨hS1', hS2, d0, d1, d2, d3, d4⟩ | exact ⟨hS1, hS2, d0, d1, d2, d3, d4⟩)
    (first
      | (go_at_call 25; (with_reducible refine (COf.out _).mono ?_); rintro e w' ⟨rfl, rfl⟩)
      | (go_at_call 13; (with_reducible refine (CAl.out _).mono ?_); rintro e w' ⟨rfl, hb⟩; have hS := KS.out _ _ hb (by assumption)))
  rename_i hdup
  clear hdup
  obtain ⟨hS3, _, d0', d1', d2', d3', d4'⟩ := hS
  clear hS1 hS2 hS1' d0 d1 d2 d3 d4 y1 y2 y3 y4 y5 y6 y7 xs xd x0 x13 xr KS COf CAl
  have hidb := HIDB ()
  go_wp2
  go_quiet ((go_at_call 26; exact quiet_mine (CN.out _)))
  go_wp2
  go_ret
  exact ⟨ret_bool (by simp), HB.out ▸ below_drewN hS3 _⟩

set_option maxRecDepth 100000 in
set_option maxHeartbeats 4000000 in
theorem kinds_t (id n : Nat) (rem : Bool) (data t : ByteArray) (w : World) (hf : B.FrR ⟨id, true, rem, n, t.data.toList⟩)
    (CFew : Hid (∀ w, Calls Try.prog 9 #[.agg (frV id true rem n data)] w fun e w' => e = .returned (.agg (frV id true rem n t)) ∧ Below w.heap.size w w')) :
    Calls Try.prog 8 #[.agg (frV id true rem n data)] w fun e w' => e = .returned (.bool true) ∧ Below w.heap.size w w' := by
  have CHd := Lib.hid (fun w => head4_yes id n true rem t w hf)
  have CAl := Lib.hid alive4_any
  have hn8 : n ≤ 8 := hf.1
  have hidb : (id : Int) < 536870912 := by
    have h3 := hf.2.2
    simp only at h3
    split at h3 <;> omega
  have ht8 : t.size ≤ 8 := by
    have h2 := hf.2.1
    rw [← B.size_len]
    split at h2
    · simp only at h2; rw [h2]; simp
    · simp only at h2; omega
  have HIDB := fun (_ : Unit) => hidb
  clear hidb
  have COf : Hid (∀ w, Calls Try.prog 25 #[.int .u64 n, .int .i64 4] w fun e w' => e = .returned (.string (B.ofn n 4)) ∧ w = w') := Lib.hid fun w => refof_any n 4 w (by omega) (by omega)
  have hhr := head_right hf
  have hsz : (⟨(B.headL ⟨id, true, rem, n, t.data.toList⟩).toArray⟩ : ByteArray).size = 39 + 8 * t.size := by rw [head_size_of, B.size_len]; rfl
  have b0 : B.bitAt (B.headL ⟨id, true, rem, n, t.data.toList⟩) 0 = 48 := rfl
  have b13 := B.head_13 ⟨id, true, rem, n, t.data.toList⟩ []
  have br := B.head_r ⟨id, true, rem, n, t.data.toList⟩ []
  have bd := B.head_dlc ⟨id, true, rem, n, t.data.toList⟩ []
  have bi := B.head_id hf
  rw [List.append_nil] at b13 br bd
  rw [b13] at bi
  obtain ⟨h, hh⟩ : ∃ h : ByteArray, h = ⟨(B.headL ⟨id, true, rem, n, t.data.toList⟩).toArray⟩ := ⟨_, rfl⟩
  have hl : B.headL ⟨id, true, rem, n, t.data.toList⟩ = h.data.toList := by rw [hh, list_of]
  rw [← hh] at CHd hhr hsz
  rw [hl] at b0 b13 br bd bi
  clear hh hl hf
  have p0 : 0 < h.size := by omega
  have p13 : 13 < h.size := by omega
  have pr : 32 < h.size := by omega
  rw [bitAt_of h 0 p0] at b0
  rw [bitAt_of h 13 p13] at b13
  change B.bitAt h.data.toList 32 = B.rb rem at br
  rw [bitAt_of h 32 pr] at br
  change B.cutL h.data.toList 35 39 = B.ofl n 4 at bd
  rw [cutL_of] at bd
  have x0 : ((h[0].toNat : Int) != 48) = false := by rw [b0] <;> rfl
  have x13 : ((h[13].toNat : Int) == 49) = true := by rw [b13] <;> rfl
  have xr : ((h[32].toNat : Int) == 49) = rem := by rw [br] <;> (cases rem <;> rfl)
  have xd : h.extract 35 39 = B.ofn n 4 := bytes_eq (by rw [bd] <;> rfl)
  have xs : ((h.size : Int) != 39 + 8 * (t.size : Int)) = false := by rw [hsz]; simp
  have hnum : B.num (h.extract 1 12 ++ h.extract 14 32).data.toList = id := by
    have h18 : (h.extract 14 32).data.toList.length = 18 := by rw [B.size_len, ByteArray.size_extract]; omega
    rw [B.cat_list, B.num_append, h18, ← cutL_of, ← cutL_of]
    simpa using bi
  have CN0 := fun w => refnum_any (h.extract 1 12 ++ h.extract 14 32) w (by rw [ByteArray.size_append, ByteArray.size_extract, ByteArray.size_extract]; omega) (right_cat (right_cut hhr 1 12) (right_cut hhr 14 32) (by rw [ByteArray.size_extract, ByteArray.size_extract]; omega))
  rw [hnum] at CN0
  have CN := Lib.hid CN0
  have hs3 : (32 : Int) ≤ h.size ∨ 39 = 19 := by omega
  have hsb : (39 : Int) ≤ h.size := by omega
  have hs12 : (12 : Int) ≤ h.size := by omega
  have ht8' : (t.size : Int) ≤ 8 := by omega
  clear b0 b13 br bd bi hhr hnum CN0 hsz
  go_enter Try.func8, Try.ntmps8
  go_wp2_with (first
    | (go_at_call 9; (with_reducible refine (CFew.out _).mono ?_); rintro e w1 ⟨rfl, hb⟩; have hB1 := (blk_new w (frV id true rem n data) 24 w.heap.size rfl).keep hb; have hW := below_keep ((Below.refl w.heap.size w).alloc (Nat.le_refl _) (.cells (frV id true rem n data) 24)) hb (by simp); have c0 := hB1.cell 0 _ rfl; have c1 := hB1.cell 1 _ rfl; have c2 := hB1.cell 2 _ rfl; have c3 := hB1.cell 3 _ rfl; have c4 := hB1.cell 4 _ rfl; have z0 := hB1.free 0; have z1 := hB1.free 1; have z2 := hB1.free 2; have z3 := hB1.free 3; have z4 := hB1.free 4)
    | (go_at_call 10; (with_reducible refine (CHd.out _).mono ?_); rintro e w' ⟨rfl, hb⟩; have hB2 := (blk_set4 (blk_set3 (blk_set2 (blk_set1 (blk_set0 hB1 (.int .u32 id)) (.bool true)) (.bool rem)) (.int .i64 n)) (.string t)).keep hb; replace hW := below_keep (five_below hW _ _ _ _ _) hb (Nat.le_of_lt (blk_set4 (blk_set3 (blk_set2 (blk_set1 (blk_set0 hB1 (.int .u32 id)) (.bool true)) (.bool rem)) (.int .i64 n)) (.string t)).lt); clear c0 c1 c2 c3 c4 z0 z1 z2 z3 z4; have d1 := hB2.cell 1 _ rfl))
  have hlt2 := hB2.lt
  have hS0 : FS w.heap.size w id true rem n t w' := ⟨hW, by omega, hB2.cell 0 _ rfl, hB2.cell 1 _ rfl, hB2.cell 2 _ rfl, hB2.cell 3 _ rfl, hB2.cell 4 _ rfl⟩
  clear hB1 hB2 hW d1 hlt2 hb CFew CHd
  obtain ⟨B0, hB0⟩ : ∃ k, k = w.heap.size := ⟨_, rfl⟩
  rw [← hB0] at hS0 ⊢
  have HB := Lib.hid hB0
  clear hB0
  have KS := Lib.hid (show ∀ wa wb, Below wa.heap.size wa wb → (Below B0 w wa ∧ B0 ≤ wa.heap.size ∧ wa.cell? ⟨B0, 0, none⟩ = some (.int .u32 id) ∧ wa.cell? ⟨B0, 1, none⟩ = some (.bool true) ∧ wa.cell? ⟨B0, 2, none⟩ = some (.bool rem) ∧ wa.cell? ⟨B0, 3, none⟩ = some (.int .i64 n) ∧ wa.cell? ⟨B0, 4, none⟩ = some (.string t)) → (Below B0 w wb ∧ B0 ≤ wb.heap.size ∧ wb.cell? ⟨B0, 0, none⟩ = some (.int .u32 id) ∧ wb.cell? ⟨B0, 1, none⟩ = some (.bool true) ∧ wb.cell? ⟨B0, 2, none⟩ = some (.bool rem) ∧ wb.cell? ⟨B0, 3, none⟩ = some (.int .i64 n) ∧ wb.cell? ⟨B0, 4, none⟩ = some (.string t)) from fun wa wb k h => FS.keep k h)
  obtain ⟨hS1, hS2, d0, d1, d2, d3, d4⟩ := (show FS B0 w _ _ _ _ _ _ from hS0)
  have hS1' := hS1.drew
  clear hS0
  have y1 : IntKind.i64.wrap (8 * (t.size : Int)) = 8 * (t.size : Int) := IntWalk.i64_in _ (by omega)
  have y2 : IntKind.i64.wrap (39 + 8 * (t.size : Int)) = 39 + 8 * (t.size : Int) := IntWalk.i64_in _ (by omega)
  have y3 : IntKind.i64.wrap (39 - 7) = 32 := rfl
  have y4 : IntKind.i64.wrap (39 - 4) = 35 := rfl
  have y5 : IntKind.i64.wrap 32 = 32 := rfl
  have y6 : IntKind.i64.wrap 35 = 35 := rfl
  have y7 : IntKind.u64.wrap (n : Int) = n := IntWalk.u64_in _ (by omega)
  have pr' : (32 : Int) < h.size := by omega
  go_region_held3 (fun w' => Below B0 w w' ∧ B0 ≤ w'.heap.size ∧ w'.cell? ⟨B0, 0, none⟩ = some (.int .u32 id) ∧ w'.cell? ⟨B0, 1, none⟩ = some (.bool true) ∧ w'.cell? ⟨B0, 2, none⟩ = some (.bool rem) ∧ w'.cell? ⟨B0, 3, none⟩ = some (.int .i64 n) ∧ w'.cell? ⟨B0, 4, none⟩ = some (.string t))
    (first | assumption | exact ⟨hS1', hS2, d0, d1, d2, d3, d4⟩ | exact ⟨hS1, hS2, d0, d1, d2, d3, d4⟩)
    (first
      | (go_at_call 25; (with_reducible refine (COf.out _).mono ?_); rintro e w' ⟨rfl, rfl⟩)
      | (go_at_call 13; (with_reducible refine (CAl.out _).mono ?_); rintro e w' ⟨rfl, hb⟩; have hS := KS.out _ _ hb (by assumption)))
  rename_i hdup
  clear hdup
  obtain ⟨hS3, _, d0', d1', d2', d3', d4'⟩ := hS
  clear hS1 hS2 hS1' d0 d1 d2 d3 d4 y1 y2 y3 y4 y5 y6 y7 xs xd x0 x13 xr KS COf CAl
  have hidb := HIDB ()
  go_wp2
  go_quiet ((go_at_call 26; exact quiet_mine (CN.out _)))
  go_wp2
  go_ret
  exact ⟨ret_bool (by simp), HB.out ▸ below_drewN hS3 _⟩

theorem framekindsLaw (id : Nat) (ext rem : Bool) (dlc : Int) (data : ByteArray) (w : World) :
    Calls Try.prog 8 #[.agg (frV id ext rem dlc data)] w fun e w' => e = .returned (.bool true) ∧ Below w.heap.size w w' := by
  obtain ⟨t, ht, hc⟩ := cut_at data 12
  have CFew := Lib.hid (fun w => few_any id ext rem dlc data t w hc)
  cases hI : B.frI id ext rem dlc t.size
  · exact kinds_false id ext rem dlc data t w CFew (Lib.hid fun w => head4_no id ext rem dlc t w hI)
      (Lib.hid fun w => (by have := refright4_any id ext rem dlc t w; rw [hI] at this; exact this.mono fun _ _ ⟨he, hw⟩ => ⟨he, hw ▸ (Below.refl _ _).alloc (Nat.le_refl _) _⟩))
      (Lib.hid alive4_any)
  · obtain ⟨n, rfl, hf⟩ := frI_back hI
    cases ext
    · exact kinds_f id n rem data t w hf CFew
    · exact kinds_t id n rem data t w hf CFew
end Go.Proofs.Ytdpfmpbnahhjmaa
