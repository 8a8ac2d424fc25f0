/- Package frame's Parse. -/
import Derived.Test.YtdpfmpbnahhjmaaRead4
import Derived.Test.YtdpfmpbnahhjmaaRTail
namespace Go.Proofs.Ytdpfmpbnahhjmaa
open Go.RowKit Go.Lib
attribute [local go_sem ↓] Go.wp_at_zero Go.wp_at_succ

theorem B.size_take {b : List UInt8} (h : (sizeL b).2 = 0) (hl : (sizeL b).1 ≤ b.length) : sizeL (b.take (sizeL b).1) = sizeL b := by
  obtain ⟨h1, h2, h3⟩ := size_ge h
  have hp : (b.take (sizeL b).1).length = (sizeL b).1 := by rw [List.length_take]; omega
  have hb : b.take (sizeL b).1 ++ b.drop (sizeL b).1 = b := List.take_append_drop _ _
  have hbo := baseL_or b
  have hbase : baseL b = baseL (b.take (sizeL b).1) := by
    have := baseL_append (p := b.take (sizeL b).1) (by omega) (b.drop (sizeL b).1)
    rwa [hb] at this
  have hne : (sizeL (b.take (sizeL b).1)).2 ≠ 3 := by
    intro e
    rcases size_lt e with h4 | h4
    · omega
    · rw [← hbase] at h4; omega
  have := size_append hne (b.drop (sizeL b).1)
  rw [hb] at this
  exact this.symm

/-- what a row is, where a head and its sum were found -/
theorem B.go_facts {s : ByteArray} (hr : right s = true) {bits : List UInt8} {m : Nat} (h : goL (0, 0) [] 0 s.data.toList = (bits, m, 0)) :
    m ≤ s.size ∧ bits.all okc = true ∧ bits.length ≤ 4000 ∧ 15 ≤ bits.length ∧ sizeL (bits.take (bits.length - 15)) = ((bits.take (bits.length - 15)).length, 0) := by
  have hall := right_all hr
  have h4 := right_size hr
  obtain ⟨_, hm, y, hy, hst⟩ := go_ok s.data.toList (p := []) ust_nil h
  simp only [List.nil_append, List.length_nil, Nat.zero_add] at hy hm
  rw [size_len] at hm
  obtain ⟨ha, hl⟩ := ust_all (all_take hall m) _ _ hy
  rw [List.length_take, size_len] at hl
  unfold stopB at hst
  rw [decide_eq_true_eq] at hst
  obtain ⟨h0, hbl, _⟩ := hst
  have e : bits.length - 15 = (sizeL bits).1 := by omega
  have ht := size_take h0 (by omega)
  refine ⟨hm, ha, by omega, by omega, ?_⟩
  rw [e, ht, List.length_take, Nat.min_eq_left (by omega)]
  exact Prod.ext rfl h0

set_option maxRecDepth 100000 in
set_option maxHeartbeats 1000000 in
theorem parse4_no (s : ByteArray) (w : World) (hs : s.size ≤ maxLen) (hr : B.right s = false) :
    Calls Try.prog 19 #[.string s] w fun x w' => x = .returned (.tuple #[.agg frZ, .int .i64 0, .int .i64 1]) ∧ Below w.heap.size w w' := by
  have hZ := blk_new w frZ 24 w.heap.size rfl
  have hB : Below w.heap.size w (w.alloc (.cells frZ 24)) := (Below.refl _ _).alloc (Nat.le_refl _) _
  go_enter Try.func19, Try.ntmps19
  go_wp2_with (go_at_call 34; (with_reducible refine (right_any _ _ hs).mono ?_); rintro e w' ⟨rfl, rfl⟩)
  refine bodyPost_ret (v := .tuple #[.agg frZ, .int .i64 0, .int .i64 1]) (by simp [results, Try.results19, go_sem]) rfl ⟨rfl, hB⟩

/-- a frame as an answer -/
def frA (f : B.Fr) : Array Value := frV f.id f.ext f.remote (f.dlc : Int) ⟨f.data.toArray⟩

set_option maxRecDepth 100000 in
set_option maxHeartbeats 4000000 in
theorem parse4_err (s : ByteArray) (w : World) (er : Int) (h0 : (er == 0) = false) (h1 : (er != 0) = true)
    (CR : Hid (∀ w, Calls Try.prog 34 #[.string s] w fun e w' => e = .returned (.bool true) ∧ w = w'))
    (CH : Hid (∀ w g, Blk w g (rdV s 0 0 0 ⟨#[]⟩) 67 → Calls Try.prog 39 #[.pointer (some ⟨g, 0, none⟩)] w fun x w' => x = .returned (.tuple #[.string ⟨#[]⟩, .int .i64 er]) ∧ Below g w w' ∧ True)) :
    Calls Try.prog 19 #[.string s] w fun x w' => x = .returned (.tuple #[.agg frZ, .int .i64 0, .int .i64 er]) ∧ Below w.heap.size w w' := by
  go_enter Try.func19, Try.ntmps19
  go_wp2_with (first
    | (go_at_call 34; (with_reducible refine (CR.out _).mono ?_); rintro e w' ⟨rfl, rfl⟩; have hZ0 : Blk ((w.alloc (.cells frZ 24)).alloc (.cells (rdV s 0 0 0 ⟨#[]⟩) 67)) w.heap.size frZ 24 := (blk_new w frZ 24 w.heap.size rfl).alloc _; have hR0 : Blk ((w.alloc (.cells frZ 24)).alloc (.cells (rdV s 0 0 0 ⟨#[]⟩) 67)) (w.heap.size + 1) (rdV s 0 0 0 ⟨#[]⟩) 67 := blk_new _ _ _ _ (by simp); have hB0 : Below w.heap.size w ((w.alloc (.cells frZ 24)).alloc (.cells (rdV s 0 0 0 ⟨#[]⟩) 67)) := ((Below.refl _ _).alloc (Nat.le_refl _) _).alloc (by simp) _)
    | (go_at_call 39; (with_reducible refine (CH.out _ _ hR0).mono ?_); rintro e w1 ⟨rfl, hb1, HX⟩; have hZ1 := hZ0.below hb1 (by omega); have hB1 := hB0.trans (hb1.mono (by omega)); clear hb1 hR0 hZ0 hB0; have c0 := hZ1.cell 0 _ rfl; have c1 := hZ1.cell 1 _ rfl; have c2 := hZ1.cell 2 _ rfl; have c3 := hZ1.cell 3 _ rfl; have c4 := hZ1.cell 4 _ rfl; have z0 := hZ1.free 0; have z1 := hZ1.free 1; have z2 := hZ1.free 2; have z3 := hZ1.free 3; have z4 := hZ1.free 4))
  have hZ6 := blk_set4 (blk_set3 (blk_set2 (blk_set1 (blk_set0 hZ1 (.int .u32 0)) (.bool false)) (.bool false)) (.int .i64 0)) (.string ⟨#[]⟩)
  have hb6 := five_below hB1 (.int .u32 0) (.bool false) (.bool false) (.int .i64 0) (.string ⟨#[]⟩)
  revert hZ6 hb6
  generalize (((((w1.setCell ⟨w.heap.size, 0, none⟩ (.int .u32 0)).setCell ⟨w.heap.size, 1, none⟩ (.bool false)).setCell ⟨w.heap.size, 2, none⟩ (.bool false)).setCell ⟨w.heap.size, 3, none⟩ (.int .i64 0)).setCell ⟨w.heap.size, 4, none⟩ (.string ⟨#[]⟩)) = W6
  intro hZ6 hb6
  have k0 := hZ6.cell 0 _ rfl
  have k1 := hZ6.cell 1 _ rfl
  have k2 := hZ6.cell 2 _ rfl
  have k3 := hZ6.cell 3 _ rfl
  have k4 := hZ6.cell 4 _ rfl
  refine bodyPost_ret (v := .tuple #[.agg frZ, .int .i64 0, .int .i64 er]) (by simp [results, Try.results19, go_sem, k0, k1, k2, k3, k4]) rfl ⟨rfl, hb6⟩

set_option maxRecDepth 100000 in
set_option maxHeartbeats 4000000 in
theorem parse4_tail (s : ByteArray) (w : World) (m : Nat) (hd : ByteArray) (er : Int) (h1 : (er != 0) = true)
    (CR : Hid (∀ w, Calls Try.prog 34 #[.string s] w fun e w' => e = .returned (.bool true) ∧ w = w'))
    (CH : Hid (∀ w g, Blk w g (rdV s 0 0 0 ⟨#[]⟩) 67 → Calls Try.prog 39 #[.pointer (some ⟨g, 0, none⟩)] w fun x w' => x = .returned (.tuple #[.string hd, .int .i64 0]) ∧ Below g w w' ∧ ∃ (b n : Int) (got : ByteArray), Blk w' g (rdV s m b n got) 67))
    (CT : Hid (∀ w g b n got, Blk w g (rdV s m b n got) 67 → Calls Try.prog 40 #[.pointer (some ⟨g, 0, none⟩)] w fun x w' => x = .returned (.int .i64 er) ∧ Below g w w' ∧ True)) :
    Calls Try.prog 19 #[.string s] w fun x w' => x = .returned (.tuple #[.agg frZ, .int .i64 0, .int .i64 er]) ∧ Below w.heap.size w w' := by
  go_enter Try.func19, Try.ntmps19
  go_wp2_with (first
    | (go_at_call 34; (with_reducible refine (CR.out _).mono ?_); rintro e w' ⟨rfl, rfl⟩; have hZ0 : Blk ((w.alloc (.cells frZ 24)).alloc (.cells (rdV s 0 0 0 ⟨#[]⟩) 67)) w.heap.size frZ 24 := (blk_new w frZ 24 w.heap.size rfl).alloc _; have hR0 : Blk ((w.alloc (.cells frZ 24)).alloc (.cells (rdV s 0 0 0 ⟨#[]⟩) 67)) (w.heap.size + 1) (rdV s 0 0 0 ⟨#[]⟩) 67 := blk_new _ _ _ _ (by simp); have hB0 : Below w.heap.size w ((w.alloc (.cells frZ 24)).alloc (.cells (rdV s 0 0 0 ⟨#[]⟩) 67)) := ((Below.refl _ _).alloc (Nat.le_refl _) _).alloc (by simp) _)
    | (go_at_call 39; (with_reducible refine (CH.out _ _ hR0).mono ?_); rintro e w1 ⟨rfl, hb1, HX⟩; have hZ1 := hZ0.below hb1 (by omega); have hB1 := hB0.trans (hb1.mono (by omega)); clear hb1 hR0 hZ0 hB0; have c0 := hZ1.cell 0 _ rfl; have c1 := hZ1.cell 1 _ rfl; have c2 := hZ1.cell 2 _ rfl; have c3 := hZ1.cell 3 _ rfl; have c4 := hZ1.cell 4 _ rfl; have z0 := hZ1.free 0; have z1 := hZ1.free 1; have z2 := hZ1.free 2; have z3 := hZ1.free 3; have z4 := hZ1.free 4)
    | (go_at_call 40; obtain ⟨rb, rn, rg, HX2⟩ := HX; (with_reducible refine (CT.out _ _ _ _ _ HX2).mono ?_); rintro e w2 ⟨rfl, hb2, HY⟩; have hZ2 := hZ1.below hb2 (by omega); have hB2 := hB1.trans (hb2.mono (by omega)); clear hb2 c0 c1 c2 c3 c4 z0 z1 z2 z3 z4; have c0 := hZ2.cell 0 _ rfl; have c1 := hZ2.cell 1 _ rfl; have c2 := hZ2.cell 2 _ rfl; have c3 := hZ2.cell 3 _ rfl; have c4 := hZ2.cell 4 _ rfl; have z0 := hZ2.free 0; have z1 := hZ2.free 1; have z2 := hZ2.free 2; have z3 := hZ2.free 3; have z4 := hZ2.free 4))
  have hZ6 := blk_set4 (blk_set3 (blk_set2 (blk_set1 (blk_set0 hZ2 (.int .u32 0)) (.bool false)) (.bool false)) (.int .i64 0)) (.string ⟨#[]⟩)
  have hb6 := five_below hB2 (.int .u32 0) (.bool false) (.bool false) (.int .i64 0) (.string ⟨#[]⟩)
  revert hZ6 hb6
  generalize (((((w2.setCell ⟨w.heap.size, 0, none⟩ (.int .u32 0)).setCell ⟨w.heap.size, 1, none⟩ (.bool false)).setCell ⟨w.heap.size, 2, none⟩ (.bool false)).setCell ⟨w.heap.size, 3, none⟩ (.int .i64 0)).setCell ⟨w.heap.size, 4, none⟩ (.string ⟨#[]⟩)) = W6
  intro hZ6 hb6
  have k0 := hZ6.cell 0 _ rfl
  have k1 := hZ6.cell 1 _ rfl
  have k2 := hZ6.cell 2 _ rfl
  have k3 := hZ6.cell 3 _ rfl
  have k4 := hZ6.cell 4 _ rfl
  refine bodyPost_ret (v := .tuple #[.agg frZ, .int .i64 0, .int .i64 er]) (by simp [results, Try.results19, go_sem, k0, k1, k2, k3, k4]) rfl ⟨rfl, hb6⟩

set_option maxRecDepth 100000 in
set_option maxHeartbeats 4000000 in
theorem parse4_other (s : ByteArray) (w : World) (m : Nat) (hd : ByteArray)
    (CR : Hid (∀ w, Calls Try.prog 34 #[.string s] w fun e w' => e = .returned (.bool true) ∧ w = w'))
    (CH : Hid (∀ w g, Blk w g (rdV s 0 0 0 ⟨#[]⟩) 67 → Calls Try.prog 39 #[.pointer (some ⟨g, 0, none⟩)] w fun x w' => x = .returned (.tuple #[.string hd, .int .i64 0]) ∧ Below g w w' ∧ ∃ (b n : Int) (got : ByteArray), Blk w' g (rdV s m b n got) 67))
    (CT : Hid (∀ w g b n got, Blk w g (rdV s m b n got) 67 → Calls Try.prog 40 #[.pointer (some ⟨g, 0, none⟩)] w fun x w' => x = .returned (.int .i64 0) ∧ Below g w w' ∧ Blk w' g (rdV s (m + 10 : Nat) b n got) 67))
    (CD : Hid (∀ w, Calls Try.prog 18 #[.string hd] w fun x w' => x = .returned (.tuple #[.agg frZ, .int .i64 12]) ∧ Below w.heap.size w w')) :
    Calls Try.prog 19 #[.string s] w fun x w' => x = .returned (.tuple #[.agg frZ, .int .i64 0, .int .i64 12]) ∧ Below w.heap.size w w' := by
  go_enter Try.func19, Try.ntmps19
  go_wp2_with (first
    | (go_at_call 34; (with_reducible refine (CR.out _).mono ?_); rintro e w' ⟨rfl, rfl⟩; have hZ0 : Blk ((w.alloc (.cells frZ 24)).alloc (.cells (rdV s 0 0 0 ⟨#[]⟩) 67)) w.heap.size frZ 24 := (blk_new w frZ 24 w.heap.size rfl).alloc _; have hR0 : Blk ((w.alloc (.cells frZ 24)).alloc (.cells (rdV s 0 0 0 ⟨#[]⟩) 67)) (w.heap.size + 1) (rdV s 0 0 0 ⟨#[]⟩) 67 := blk_new _ _ _ _ (by simp); have hB0 : Below w.heap.size w ((w.alloc (.cells frZ 24)).alloc (.cells (rdV s 0 0 0 ⟨#[]⟩) 67)) := ((Below.refl _ _).alloc (Nat.le_refl _) _).alloc (by simp) _)
    | (go_at_call 39; (with_reducible refine (CH.out _ _ hR0).mono ?_); rintro e w1 ⟨rfl, hb1, HX⟩; have hZ1 := hZ0.below hb1 (by omega); have hB1 := hB0.trans (hb1.mono (by omega)); clear hb1 hR0 hZ0 hB0; have c0 := hZ1.cell 0 _ rfl; have c1 := hZ1.cell 1 _ rfl; have c2 := hZ1.cell 2 _ rfl; have c3 := hZ1.cell 3 _ rfl; have c4 := hZ1.cell 4 _ rfl; have z0 := hZ1.free 0; have z1 := hZ1.free 1; have z2 := hZ1.free 2; have z3 := hZ1.free 3; have z4 := hZ1.free 4)
    | (go_at_call 40; obtain ⟨rb, rn, rg, HX2⟩ := HX; (with_reducible refine (CT.out _ _ _ _ _ HX2).mono ?_); rintro e w2 ⟨rfl, hb2, HY⟩; have hZ2 := hZ1.below hb2 (by omega); have hB2 := hB1.trans (hb2.mono (by omega)); clear hb2 c0 c1 c2 c3 c4 z0 z1 z2 z3 z4; have c0 := hZ2.cell 0 _ rfl; have c1 := hZ2.cell 1 _ rfl; have c2 := hZ2.cell 2 _ rfl; have c3 := hZ2.cell 3 _ rfl; have c4 := hZ2.cell 4 _ rfl; have z0 := hZ2.free 0; have z1 := hZ2.free 1; have z2 := hZ2.free 2; have z3 := hZ2.free 3; have z4 := hZ2.free 4)
    | (go_at_call 18; (with_reducible refine (CD.out _).mono ?_); rintro e w3 ⟨rfl, hb3⟩; have hZ3 := (hZ2.keep hb3).alloc (.cells frZ 24); have hB3 := (below_keep hB2 hb3 (by have := hZ2.lt; omega)).alloc (by have := hb3.size; have := hZ2.lt; omega) (.cells frZ 24); have hR3 := (HY.keep hb3).alloc (.cells frZ 24); clear c0 c1 c2 c3 c4 z0 z1 z2 z3 z4; have c0 := hZ3.cell 0 _ rfl; have c1 := hZ3.cell 1 _ rfl; have c2 := hZ3.cell 2 _ rfl; have c3 := hZ3.cell 3 _ rfl; have c4 := hZ3.cell 4 _ rfl; have z0 := hZ3.free 0; have z1 := hZ3.free 1; have z2 := hZ3.free 2; have z3 := hZ3.free 3; have z4 := hZ3.free 4))
  have hZ6 := blk_set4 (blk_set3 (blk_set2 (blk_set1 (blk_set0 hZ3 (.int .u32 0)) (.bool false)) (.bool false)) (.int .i64 0)) (.string ⟨#[]⟩)
  have hb6 := five_below hB3 (.int .u32 0) (.bool false) (.bool false) (.int .i64 0) (.string ⟨#[]⟩)
  revert hZ6 hb6
  generalize ((((((w3.alloc (.cells frZ 24)).setCell ⟨w.heap.size, 0, none⟩ (.int .u32 0)).setCell ⟨w.heap.size, 1, none⟩ (.bool false)).setCell ⟨w.heap.size, 2, none⟩ (.bool false)).setCell ⟨w.heap.size, 3, none⟩ (.int .i64 0)).setCell ⟨w.heap.size, 4, none⟩ (.string ⟨#[]⟩)) = W6
  intro hZ6 hb6
  have k0 := hZ6.cell 0 _ rfl
  have k1 := hZ6.cell 1 _ rfl
  have k2 := hZ6.cell 2 _ rfl
  have k3 := hZ6.cell 3 _ rfl
  have k4 := hZ6.cell 4 _ rfl
  refine bodyPost_ret (v := .tuple #[.agg frZ, .int .i64 0, .int .i64 12]) (by simp [results, Try.results19, go_sem, k0, k1, k2, k3, k4]) rfl ⟨rfl, hb6⟩

set_option maxRecDepth 100000 in
set_option maxHeartbeats 4000000 in
theorem parse4_yes (s : ByteArray) (w : World) (m : Nat) (hd : ByteArray) (id n : Nat) (ext rem : Bool) (D : ByteArray)
    (CR : Hid (∀ w, Calls Try.prog 34 #[.string s] w fun e w' => e = .returned (.bool true) ∧ w = w'))
    (CH : Hid (∀ w g, Blk w g (rdV s 0 0 0 ⟨#[]⟩) 67 → Calls Try.prog 39 #[.pointer (some ⟨g, 0, none⟩)] w fun x w' => x = .returned (.tuple #[.string hd, .int .i64 0]) ∧ Below g w w' ∧ ∃ (b n : Int) (got : ByteArray), Blk w' g (rdV s m b n got) 67))
    (CT : Hid (∀ w g b n got, Blk w g (rdV s m b n got) 67 → Calls Try.prog 40 #[.pointer (some ⟨g, 0, none⟩)] w fun x w' => x = .returned (.int .i64 0) ∧ Below g w w' ∧ Blk w' g (rdV s (m + 10 : Nat) b n got) 67))
    (CD : Hid (∀ w, Calls Try.prog 18 #[.string hd] w fun x w' => x = .returned (.tuple #[.agg (frV id ext rem n D), .int .i64 0]) ∧ Below w.heap.size w w')) :
    Calls Try.prog 19 #[.string s] w fun x w' => x = .returned (.tuple #[.agg (frV id ext rem n D), .int .i64 (m + 10 : Nat), .int .i64 0]) ∧ Below w.heap.size w w' := by
  go_enter Try.func19, Try.ntmps19
  go_wp2_with (first
    | (go_at_call 34; (with_reducible refine (CR.out _).mono ?_); rintro e w' ⟨rfl, rfl⟩; have hZ0 : Blk ((w.alloc (.cells frZ 24)).alloc (.cells (rdV s 0 0 0 ⟨#[]⟩) 67)) w.heap.size frZ 24 := (blk_new w frZ 24 w.heap.size rfl).alloc _; have hR0 : Blk ((w.alloc (.cells frZ 24)).alloc (.cells (rdV s 0 0 0 ⟨#[]⟩) 67)) (w.heap.size + 1) (rdV s 0 0 0 ⟨#[]⟩) 67 := blk_new _ _ _ _ (by simp); have hB0 : Below w.heap.size w ((w.alloc (.cells frZ 24)).alloc (.cells (rdV s 0 0 0 ⟨#[]⟩) 67)) := ((Below.refl _ _).alloc (Nat.le_refl _) _).alloc (by simp) _)
    | (go_at_call 39; (with_reducible refine (CH.out _ _ hR0).mono ?_); rintro e w1 ⟨rfl, hb1, HX⟩; have hZ1 := hZ0.below hb1 (by omega); have hB1 := hB0.trans (hb1.mono (by omega)); clear hb1 hR0 hZ0 hB0; have c0 := hZ1.cell 0 _ rfl; have c1 := hZ1.cell 1 _ rfl; have c2 := hZ1.cell 2 _ rfl; have c3 := hZ1.cell 3 _ rfl; have c4 := hZ1.cell 4 _ rfl; have z0 := hZ1.free 0; have z1 := hZ1.free 1; have z2 := hZ1.free 2; have z3 := hZ1.free 3; have z4 := hZ1.free 4)
    | (go_at_call 40; obtain ⟨rb, rn, rg, HX2⟩ := HX; (with_reducible refine (CT.out _ _ _ _ _ HX2).mono ?_); rintro e w2 ⟨rfl, hb2, HY⟩; have hZ2 := hZ1.below hb2 (by omega); have hB2 := hB1.trans (hb2.mono (by omega)); clear hb2 c0 c1 c2 c3 c4 z0 z1 z2 z3 z4; have c0 := hZ2.cell 0 _ rfl; have c1 := hZ2.cell 1 _ rfl; have c2 := hZ2.cell 2 _ rfl; have c3 := hZ2.cell 3 _ rfl; have c4 := hZ2.cell 4 _ rfl; have z0 := hZ2.free 0; have z1 := hZ2.free 1; have z2 := hZ2.free 2; have z3 := hZ2.free 3; have z4 := hZ2.free 4)
    | (go_at_call 18; (with_reducible refine (CD.out _).mono ?_); rintro e w3 ⟨rfl, hb3⟩; have hZ3 := (hZ2.keep hb3).alloc (.cells (frV id ext rem n D) 24); have hB3 := (below_keep hB2 hb3 (by have := hZ2.lt; omega)).alloc (by have := hb3.size; have := hZ2.lt; omega) (.cells (frV id ext rem n D) 24); have hR3 := (HY.keep hb3).alloc (.cells (frV id ext rem n D) 24); clear c0 c1 c2 c3 c4 z0 z1 z2 z3 z4; have c0 := hZ3.cell 0 _ rfl; have c1 := hZ3.cell 1 _ rfl; have c2 := hZ3.cell 2 _ rfl; have c3 := hZ3.cell 3 _ rfl; have c4 := hZ3.cell 4 _ rfl; have z0 := hZ3.free 0; have z1 := hZ3.free 1; have z2 := hZ3.free 2; have z3 := hZ3.free 3; have z4 := hZ3.free 4))
  have hY3 := blk_new w3 (frV id ext rem n D) 24 w3.heap.size rfl
  have hgy : w.heap.size + 1 < w3.heap.size := (HY.keep hb3).lt
  clear c0 c1 c2 c3 c4 z0 z1 z2 z3 z4 hb3 HY hZ2 hB2 HX2 hZ1 hB1
  revert hY3 hgy hZ3 hB3 hR3
  generalize w3.alloc (.cells (frV id ext rem n D) 24) = W
  generalize w3.heap.size = gy
  intro hZ3 hB3 hR3 hY3 hgy
  have u0 := hY3.cell 0 _ rfl
  have u1 := hY3.cell 1 _ rfl
  have u2 := hY3.cell 2 _ rfl
  have u3 := hY3.cell 3 _ rfl
  have u4 := hY3.cell 4 _ rfl
  have r1 := hR3.cell 1 _ rfl
  have c0 := hZ3.cell 0 _ rfl
  have c1 := hZ3.cell 1 _ rfl
  have c2 := hZ3.cell 2 _ rfl
  have c3 := hZ3.cell 3 _ rfl
  have c4 := hZ3.cell 4 _ rfl
  have z0 := hZ3.free 0
  have z1 := hZ3.free 1
  have z2 := hZ3.free 2
  have z3 := hZ3.free 3
  have z4 := hZ3.free 4
  go_region
  have hZ6 := blk_set4 (blk_set3 (blk_set2 (blk_set1 (blk_set0 hZ3 (.int .u32 id)) (.bool ext)) (.bool rem)) (.int .i64 n)) (.string D)
  have hb6 := five_below hB3 (.int .u32 id) (.bool ext) (.bool rem) (.int .i64 n) (.string D)
  revert hZ6 hb6
  generalize (((((W.setCell ⟨w.heap.size, 0, none⟩ (.int .u32 id)).setCell ⟨w.heap.size, 1, none⟩ (.bool ext)).setCell ⟨w.heap.size, 2, none⟩ (.bool rem)).setCell ⟨w.heap.size, 3, none⟩ (.int .i64 n)).setCell ⟨w.heap.size, 4, none⟩ (.string D)) = W6
  intro hZ6 hb6
  have k0 := hZ6.cell 0 _ rfl
  have k1 := hZ6.cell 1 _ rfl
  have k2 := hZ6.cell 2 _ rfl
  have k3 := hZ6.cell 3 _ rfl
  have k4 := hZ6.cell 4 _ rfl
  go_wp2
  refine bodyPost_ret (v := .tuple #[.agg (frV id ext rem n D), .int .i64 ((m : Int) + 10), .int .i64 0]) (by simp [results, Try.results19, go_sem, k0, k1, k2, k3, k4]) rfl ⟨by simp, hb6.drew⟩

theorem ret3 {a b c d : Int} {A B : Array Value} (h : A = B) (h1 : a = c) (h2 : b = d) : Ending.returned (.tuple #[.agg A, .int .i64 a, .int .i64 b]) = .returned (.tuple #[.agg B, .int .i64 c, .int .i64 d]) := by rw [h, h1, h2]

/-- Parse, of a row that may be -/
theorem parse4_any (s : ByteArray) (w : World) (hr : B.right s = true) :
    Calls Try.prog 19 #[.string s] w fun x w' => x = .returned (.tuple #[.agg (frA (B.parseL s.data.toList).1), .int .i64 (B.parseL s.data.toList).2.1, .int .i64 (B.parseL s.data.toList).2.2]) ∧ Below w.heap.size w w' := by
  have h4 := B.right_size hr
  have CR : Hid (∀ w, Calls Try.prog 34 #[.string s] w fun e w' => e = .returned (.bool true) ∧ w = w') := Lib.hid fun w => by have := right_any s w (by unfold maxLen; omega); rwa [hr] at this
  have HH := fun w g (h : Blk w g (rdV s 0 0 0 ⟨#[]⟩) 67) => rhead_any s g w hr h
  rcases hg : B.goL (0, 0) [] 0 s.data.toList with ⟨bits, m, er⟩
  rw [hg] at HH
  unfold B.parseL
  rw [hg]
  simp only
  by_cases he : er = 0
  · subst he
    rw [if_neg (by simp)]
    obtain ⟨hm, hba, hbl, h15, hsz⟩ := B.go_facts hr hg
    by_cases hc : B.crc 0 bits = 0
    · rw [if_neg (by simp [hc])]
      have CH : Hid (∀ w g, Blk w g (rdV s 0 0 0 ⟨#[]⟩) 67 → Calls Try.prog 39 #[.pointer (some ⟨g, 0, none⟩)] w fun x w' => x = .returned (.tuple #[.string ⟨(bits.take (bits.length - 15)).toArray⟩, .int .i64 0]) ∧ Below g w w' ∧ ∃ (b n : Int) (got : ByteArray), Blk w' g (rdV s m b n got) 67) :=
        Lib.hid fun w g h => (HH w g h).mono fun x w' ⟨hb, hor⟩ => by
          rcases hor with ⟨h0, _⟩ | ⟨_, h1, _⟩ | ⟨_, _, h2, h3⟩
          · exact absurd rfl h0
          · exact absurd hc h1
          · exact ⟨h2, hb, h3⟩
      have HT := fun w g b n got (h : Blk w g (rdV s m b n got) 67) => rtail_any s got m b n g w h4 hm h
      by_cases ht : B.tailL 0 (s.data.toList.drop m) = 0
      · rw [if_neg (by simp [ht])]
        rw [ht] at HT
        have CT : Hid (∀ w g b n got, Blk w g (rdV s m b n got) 67 → Calls Try.prog 40 #[.pointer (some ⟨g, 0, none⟩)] w fun x w' => x = .returned (.int .i64 0) ∧ Below g w w' ∧ Blk w' g (rdV s (m + 10 : Nat) b n got) 67) :=
          Lib.hid fun w g b n got h => (HT w g b n got h).mono fun x w' ⟨h1, h2, h3⟩ => ⟨h1, h2, h3 rfl⟩
        obtain ⟨hd, hhd⟩ : ∃ hd : ByteArray, hd = ⟨(bits.take (bits.length - 15)).toArray⟩ := ⟨_, rfl⟩
        have hl : hd.data.toList = bits.take (bits.length - 15) := by rw [hhd, list_of]
        rw [← hhd] at CH
        rw [← hl] at hsz ⊢
        have hdr : B.right hd = true := right_of_all (by rw [← B.size_len, hl, List.length_take]; omega) (by rw [hl]; exact B.all_take hba _)
        rw [B.size_len] at hsz
        have hfr := B.decode_fr (B.right_all hdr) (by rw [B.size_len]; exact hsz)
        by_cases hh : B.headL (B.decode hd.data.toList) = hd.data.toList
        · rw [if_pos ⟨(B.frB_iff _).2 hfr, hh⟩]
          have hb : B.headB (B.decode hd.data.toList) hd = true := by
            unfold B.headB; rw [beq_iff_eq, hh, of_list hd]
          exact parse4_yes s w m hd _ _ _ _ _ CR CH CT (Lib.hid fun w => read4_yes hd w hdr hsz hb)
        · rw [if_neg (fun e => hh e.2)]
          have hb : B.headB (B.decode hd.data.toList) hd = false := by
            unfold B.headB
            rw [beq_eq_false_iff_ne]
            intro e
            apply hh
            have : (⟨(B.headL (B.decode hd.data.toList)).toArray⟩ : ByteArray).data.toList = hd.data.toList := by
              have e1 := ByteArray.toList_eq (⟨(B.headL (B.decode hd.data.toList)).toArray⟩ : ByteArray)
              have e2 := ByteArray.toList_eq hd
              exact e1.symm.trans (e.trans e2)
            rwa [list_of] at this
          exact parse4_other s w m hd CR CH CT (Lib.hid fun w => read4_other hd w hdr hsz hb)
      · rw [if_pos ht]
        have CT : Hid (∀ w g b n got, Blk w g (rdV s m b n got) 67 → Calls Try.prog 40 #[.pointer (some ⟨g, 0, none⟩)] w fun x w' => x = .returned (.int .i64 (B.tailL 0 (s.data.toList.drop m))) ∧ Below g w w' ∧ True) :=
          Lib.hid fun w g b n got h => (HT w g b n got h).mono fun x w' ⟨h1, h2, _⟩ => ⟨h1, h2, trivial⟩
        exact parse4_tail s w m _ _ (by simp; omega) CR CH CT
    · rw [if_pos hc]
      have CH : Hid (∀ w g, Blk w g (rdV s 0 0 0 ⟨#[]⟩) 67 → Calls Try.prog 39 #[.pointer (some ⟨g, 0, none⟩)] w fun x w' => x = .returned (.tuple #[.string ⟨#[]⟩, .int .i64 11]) ∧ Below g w w' ∧ True) :=
        Lib.hid fun w g h => (HH w g h).mono fun x w' ⟨hb, hor⟩ => by
          rcases hor with ⟨h0, _⟩ | ⟨_, _, h2⟩ | ⟨_, h1, _⟩
          · exact absurd rfl h0
          · exact ⟨h2, hb, trivial⟩
          · exact absurd h1 hc
      exact parse4_err s w 11 rfl rfl CR CH
  · rw [if_pos he]
    have CH : Hid (∀ w g, Blk w g (rdV s 0 0 0 ⟨#[]⟩) 67 → Calls Try.prog 39 #[.pointer (some ⟨g, 0, none⟩)] w fun x w' => x = .returned (.tuple #[.string ⟨#[]⟩, .int .i64 er]) ∧ Below g w w' ∧ True) :=
      Lib.hid fun w g h => (HH w g h).mono fun x w' ⟨hb, hor⟩ => by
        rcases hor with ⟨_, h1⟩ | ⟨h0, _⟩ | ⟨h0, _⟩
        · exact ⟨h1, hb, trivial⟩
        · exact absurd h0 he
        · exact absurd h0 he
    exact parse4_err s w er (by simp; omega) (by simp; omega) CR CH
end Go.Proofs.Ytdpfmpbnahhjmaa
