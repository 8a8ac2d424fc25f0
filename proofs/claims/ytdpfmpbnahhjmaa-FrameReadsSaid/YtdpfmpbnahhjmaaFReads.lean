/- Layer 4's law FrameReads: its walk, and the law of whatever row. -/
import Derived.Test.YtdpfmpbnahhjmaaRefParse
import Derived.Test.YtdpfmpbnahhjmaaRefRight
namespace Go.Proofs.Ytdpfmpbnahhjmaa
open Go.RowKit Go.Lib

set_option maxRecDepth 100000 in
set_option maxHeartbeats 16000000 in
theorem freads_no (s t : ByteArray) (w : World) (ht : (400 < s.size ∧ s.extract 0 400 = t) ∨ (s.size ≤ 400 ∧ s = t))
    (CS : Hid (∀ w, Calls Try.prog 17 #[.string t] w fun x w' => x = .returned (.tuple #[.int .i64 0, .int .i64 1]) ∧ Below w.heap.size w w'))
    (CRd : Hid (∀ w, Calls Try.prog 18 #[.string t] w fun x w' => x = .returned (.tuple #[.agg frZ, .int .i64 12]) ∧ Below w.heap.size w w'))
    (CP : Hid (∀ w, Calls Try.prog 19 #[.string t] w fun x w' => x = .returned (.tuple #[.agg frZ, .int .i64 0, .int .i64 1]) ∧ Below w.heap.size w w'))
    (CRr : Hid (∀ w, Calls Try.prog 20 #[.string t] w fun x w' => x = .returned (.bool false) ∧ w = w'))
    (CAl : Hid (∀ w, Calls Try.prog 13 #[] w fun e w' => e = .returned (.bool true) ∧ Below w.heap.size w w')) :
    Calls Try.prog 4 #[.string s] w fun e w' => e = .returned (.bool true) ∧ Below w.heap.size w w' := by
  rcases ht with ⟨h1, ht⟩ | ⟨h1, rfl⟩
  all_goals
    go_enter Try.func4, Try.ntmps4
    go_wp2_with (first
    | (go_at_call 17; (with_reducible refine (CS.out _).mono ?_); rintro e w1 ⟨rfl, hW⟩)
    | (go_at_call 18; (with_reducible refine (CRd.out _).mono ?_); rintro e w2 ⟨rfl, hb⟩; have hF := blk_new w2 frZ 24 w2.heap.size rfl; replace hW := below_keep hW hb hW.size; replace hW := hW.alloc hW.size (.cells frZ 24); clear hb)
    | (go_at_call 19; (with_reducible refine (CP.out _).mono ?_); rintro e w3 ⟨rfl, hb⟩; have hH := blk_new w3 frZ 24 w3.heap.size rfl; replace hF := (hF.keep hb).alloc (.cells frZ 24); replace hW := below_keep hW hb hW.size; replace hW := hW.alloc hW.size (.cells frZ 24); clear hb)
    | (go_at_call 20; (with_reducible refine (CRr.out _).mono ?_); rintro e w' ⟨rfl, rfl⟩)
    | (go_at_call 13; (with_reducible refine (CAl.out _).mono ?_); rintro e w6 ⟨rfl, hb⟩; replace hF := hF.keep hb; replace hH := hH.keep hb; replace hW := below_keep hW hb hW.size; clear hb; have f0 := hF.cell 0 _ rfl; have f1 := hF.cell 1 _ rfl; have f2 := hF.cell 2 _ rfl; have f3 := hF.cell 3 _ rfl; have f4 := hF.cell 4 _ rfl; have h0 := hH.cell 0 _ rfl; have h1 := hH.cell 1 _ rfl; have h2 := hH.cell 2 _ rfl; have h3 := hH.cell 3 _ rfl; have h4 := hH.cell 4 _ rfl))
    go_ret
    exact ⟨rfl, hW⟩

set_option maxRecDepth 100000 in
set_option maxHeartbeats 16000000 in
theorem freads_none (s t : ByteArray) (sz er : Int) (pi : Nat) (px pr : Bool) (pd : Int) (pt : ByteArray) (pm pe : Int) (xi : Nat) (xx xr : Bool) (xd : Int) (xt : ByteArray) (w : World) (ht : (400 < s.size ∧ s.extract 0 400 = t) ∨ (s.size ≤ 400 ∧ s = t))
    (CS : Hid (∀ w, Calls Try.prog 17 #[.string t] w fun x w' => x = .returned (.tuple #[.int .i64 sz, .int .i64 er]) ∧ Below w.heap.size w w'))
    (CRd : Hid (∀ w, Calls Try.prog 18 #[.string t] w fun x w' => x = .returned (.tuple #[.agg frZ, .int .i64 12]) ∧ Below w.heap.size w w'))
    (CP : Hid (∀ w, Calls Try.prog 19 #[.string t] w fun x w' => x = .returned (.tuple #[.agg (frV pi px pr pd pt), .int .i64 pm, .int .i64 pe]) ∧ Below w.heap.size w w'))
    (CRr : Hid (∀ w, Calls Try.prog 20 #[.string t] w fun x w' => x = .returned (.bool true) ∧ w = w'))
    (CRS : Hid (∀ w, Calls Try.prog 21 #[.string t] w fun x w' => x = .returned (.tuple #[.int .i64 sz, .int .i64 er]) ∧ w = w'))
    (CRR : Hid (∀ w, Calls Try.prog 22 #[.string t] w fun x w' => x = .returned (.tuple #[.agg (frV xi xx xr xd xt), .bool false]) ∧ Below w.heap.size w w'))
    (CRP : Hid (∀ w, Calls Try.prog 23 #[.string t] w fun x w' => x = .returned (.tuple #[.agg (frV pi px pr pd pt), .int .i64 pm, .int .i64 pe]) ∧ Below w.heap.size w w'))
    (CAl : Hid (∀ w, Calls Try.prog 13 #[] w fun e w' => e = .returned (.bool true) ∧ Below w.heap.size w w')) :
    Calls Try.prog 4 #[.string s] w fun e w' => e = .returned (.bool true) ∧ Below w.heap.size w w' := by
  rcases ht with ⟨h1, ht⟩ | ⟨h1, rfl⟩
  all_goals
    go_enter Try.func4, Try.ntmps4
    go_wp2_with (first
    | (go_at_call 17; (with_reducible refine (CS.out _).mono ?_); rintro e w1 ⟨rfl, hW⟩)
    | (go_at_call 18; (with_reducible refine (CRd.out _).mono ?_); rintro e w2 ⟨rfl, hb⟩; have hF := blk_new w2 frZ 24 w2.heap.size rfl; replace hW := below_keep hW hb hW.size; replace hW := hW.alloc hW.size (.cells frZ 24); clear hb)
    | (go_at_call 19; (with_reducible refine (CP.out _).mono ?_); rintro e w3 ⟨rfl, hb⟩; have hH := blk_new w3 (frV pi px pr pd pt) 24 w3.heap.size rfl; replace hF := (hF.keep hb).alloc (.cells (frV pi px pr pd pt) 24); replace hW := below_keep hW hb hW.size; replace hW := hW.alloc hW.size (.cells (frV pi px pr pd pt) 24); clear hb)
    | (go_at_call 20; (with_reducible refine (CRr.out _).mono ?_); rintro e w' ⟨rfl, rfl⟩)
    | (go_at_call 21; (with_reducible refine (CRS.out _).mono ?_); rintro e w' ⟨rfl, rfl⟩)
    | (go_at_call 22; (with_reducible refine (CRR.out _).mono ?_); rintro e w4 ⟨rfl, hb⟩; have hX := blk_new w4 (frV xi xx xr xd xt) 24 w4.heap.size rfl; replace hF := (hF.keep hb).alloc (.cells (frV xi xx xr xd xt) 24); replace hH := (hH.keep hb).alloc (.cells (frV xi xx xr xd xt) 24); replace hW := below_keep hW hb hW.size; replace hW := hW.alloc hW.size (.cells (frV xi xx xr xd xt) 24); clear hb)
    | (go_at_call 23; (with_reducible refine (CRP.out _).mono ?_); rintro e w5 ⟨rfl, hb⟩; have hY := blk_new w5 (frV pi px pr pd pt) 24 w5.heap.size rfl; replace hF := (hF.keep hb).alloc (.cells (frV pi px pr pd pt) 24); replace hH := (hH.keep hb).alloc (.cells (frV pi px pr pd pt) 24); replace hX := (hX.keep hb).alloc (.cells (frV pi px pr pd pt) 24); replace hW := below_keep hW hb hW.size; replace hW := hW.alloc hW.size (.cells (frV pi px pr pd pt) 24); clear hb; have h0 := hH.cell 0 _ rfl; have h1 := hH.cell 1 _ rfl; have h2 := hH.cell 2 _ rfl; have h3 := hH.cell 3 _ rfl; have h4 := hH.cell 4 _ rfl; have y0 := hY.cell 0 _ rfl; have y1 := hY.cell 1 _ rfl; have y2 := hY.cell 2 _ rfl; have y3 := hY.cell 3 _ rfl; have y4 := hY.cell 4 _ rfl)
    | (go_at_call 13; (with_reducible refine (CAl.out _).mono ?_); rintro e w6 ⟨rfl, hb⟩; replace hF := hF.keep hb; replace hX := hX.keep hb; replace hW := below_keep hW hb hW.size; clear hb; have f0 := hF.cell 0 _ rfl; have f1 := hF.cell 1 _ rfl; have f2 := hF.cell 2 _ rfl; have f3 := hF.cell 3 _ rfl; have f4 := hF.cell 4 _ rfl; have x0 := hX.cell 0 _ rfl; have x1 := hX.cell 1 _ rfl; have x2 := hX.cell 2 _ rfl; have x3 := hX.cell 3 _ rfl; have x4 := hX.cell 4 _ rfl))
    go_ret
    exact ⟨rfl, hW⟩

set_option maxRecDepth 100000 in
set_option maxHeartbeats 16000000 in
theorem freads_is (s t : ByteArray) (sz er : Int) (pi : Nat) (px pr : Bool) (pd : Int) (pt : ByteArray) (pm pe : Int) (xi : Nat) (xx xr : Bool) (xd : Int) (xt : ByteArray) (w : World) (ht : (400 < s.size ∧ s.extract 0 400 = t) ∨ (s.size ≤ 400 ∧ s = t))
    (CS : Hid (∀ w, Calls Try.prog 17 #[.string t] w fun x w' => x = .returned (.tuple #[.int .i64 sz, .int .i64 er]) ∧ Below w.heap.size w w'))
    (CRd : Hid (∀ w, Calls Try.prog 18 #[.string t] w fun x w' => x = .returned (.tuple #[.agg (frV xi xx xr xd xt), .int .i64 0]) ∧ Below w.heap.size w w'))
    (CP : Hid (∀ w, Calls Try.prog 19 #[.string t] w fun x w' => x = .returned (.tuple #[.agg (frV pi px pr pd pt), .int .i64 pm, .int .i64 pe]) ∧ Below w.heap.size w w'))
    (CRr : Hid (∀ w, Calls Try.prog 20 #[.string t] w fun x w' => x = .returned (.bool true) ∧ w = w'))
    (CRS : Hid (∀ w, Calls Try.prog 21 #[.string t] w fun x w' => x = .returned (.tuple #[.int .i64 sz, .int .i64 er]) ∧ w = w'))
    (CRR : Hid (∀ w, Calls Try.prog 22 #[.string t] w fun x w' => x = .returned (.tuple #[.agg (frV xi xx xr xd xt), .bool true]) ∧ Below w.heap.size w w'))
    (CRP : Hid (∀ w, Calls Try.prog 23 #[.string t] w fun x w' => x = .returned (.tuple #[.agg (frV pi px pr pd pt), .int .i64 pm, .int .i64 pe]) ∧ Below w.heap.size w w'))
    (CAl : Hid (∀ w, Calls Try.prog 13 #[] w fun e w' => e = .returned (.bool true) ∧ Below w.heap.size w w')) :
    Calls Try.prog 4 #[.string s] w fun e w' => e = .returned (.bool true) ∧ Below w.heap.size w w' := by
  rcases ht with ⟨h1, ht⟩ | ⟨h1, rfl⟩
  all_goals
    go_enter Try.func4, Try.ntmps4
    go_wp2_with (first
    | (go_at_call 17; (with_reducible refine (CS.out _).mono ?_); rintro e w1 ⟨rfl, hW⟩)
    | (go_at_call 18; (with_reducible refine (CRd.out _).mono ?_); rintro e w2 ⟨rfl, hb⟩; have hF := blk_new w2 (frV xi xx xr xd xt) 24 w2.heap.size rfl; replace hW := below_keep hW hb hW.size; replace hW := hW.alloc hW.size (.cells (frV xi xx xr xd xt) 24); clear hb)
    | (go_at_call 19; (with_reducible refine (CP.out _).mono ?_); rintro e w3 ⟨rfl, hb⟩; have hH := blk_new w3 (frV pi px pr pd pt) 24 w3.heap.size rfl; replace hF := (hF.keep hb).alloc (.cells (frV pi px pr pd pt) 24); replace hW := below_keep hW hb hW.size; replace hW := hW.alloc hW.size (.cells (frV pi px pr pd pt) 24); clear hb)
    | (go_at_call 20; (with_reducible refine (CRr.out _).mono ?_); rintro e w' ⟨rfl, rfl⟩)
    | (go_at_call 21; (with_reducible refine (CRS.out _).mono ?_); rintro e w' ⟨rfl, rfl⟩)
    | (go_at_call 22; (with_reducible refine (CRR.out _).mono ?_); rintro e w4 ⟨rfl, hb⟩; have hX := blk_new w4 (frV xi xx xr xd xt) 24 w4.heap.size rfl; replace hF := (hF.keep hb).alloc (.cells (frV xi xx xr xd xt) 24); replace hH := (hH.keep hb).alloc (.cells (frV xi xx xr xd xt) 24); replace hW := below_keep hW hb hW.size; replace hW := hW.alloc hW.size (.cells (frV xi xx xr xd xt) 24); clear hb)
    | (go_at_call 23; (with_reducible refine (CRP.out _).mono ?_); rintro e w5 ⟨rfl, hb⟩; have hY := blk_new w5 (frV pi px pr pd pt) 24 w5.heap.size rfl; replace hF := (hF.keep hb).alloc (.cells (frV pi px pr pd pt) 24); replace hH := (hH.keep hb).alloc (.cells (frV pi px pr pd pt) 24); replace hX := (hX.keep hb).alloc (.cells (frV pi px pr pd pt) 24); replace hW := below_keep hW hb hW.size; replace hW := hW.alloc hW.size (.cells (frV pi px pr pd pt) 24); clear hb; have h0 := hH.cell 0 _ rfl; have h1 := hH.cell 1 _ rfl; have h2 := hH.cell 2 _ rfl; have h3 := hH.cell 3 _ rfl; have h4 := hH.cell 4 _ rfl; have y0 := hY.cell 0 _ rfl; have y1 := hY.cell 1 _ rfl; have y2 := hY.cell 2 _ rfl; have y3 := hY.cell 3 _ rfl; have y4 := hY.cell 4 _ rfl)
    | (go_at_call 13; (with_reducible refine (CAl.out _).mono ?_); rintro e w6 ⟨rfl, hb⟩; replace hF := hF.keep hb; replace hX := hX.keep hb; replace hW := below_keep hW hb hW.size; clear hb; have f0 := hF.cell 0 _ rfl; have f1 := hF.cell 1 _ rfl; have f2 := hF.cell 2 _ rfl; have f3 := hF.cell 3 _ rfl; have f4 := hF.cell 4 _ rfl; have x0 := hX.cell 0 _ rfl; have x1 := hX.cell 1 _ rfl; have x2 := hX.cell 2 _ rfl; have x3 := hX.cell 3 _ rfl; have x4 := hX.cell 4 _ rfl))
    go_ret
    exact ⟨rfl, hW⟩

theorem framereadsLaw (s : ByteArray) (w : World) :
    Calls Try.prog 4 #[.string s] w fun e w' => e = .returned (.bool true) ∧ Below w.heap.size w w' := by
  obtain ⟨t, htz, ht⟩ := cut_at s 400
  have htm : t.size ≤ maxLen := by unfold maxLen; omega
  cases hr : B.right t
  · have CRr : Hid (∀ w, Calls Try.prog 20 #[.string t] w fun e w' => e = .returned (.bool false) ∧ w = w') := Lib.hid fun w => by have := refright_any t w htm; rwa [hr] at this
    have CS0 : ∀ w, Calls Try.prog 17 #[.string t] w fun x w' => x = .returned (.tuple #[.int .i64 0, .int .i64 1]) ∧ Below w.heap.size w w' := fun w => (size4_no t w htm hr).mono fun _ _ h => ⟨h.1, by rw [← h.2]; exact Below.refl _ _⟩
    exact freads_no s t w ht (Lib.hid CS0) (Lib.hid fun w => read4_no t 0 1 w CS0 (.inl (by decide))) (Lib.hid fun w => parse4_no t w htm hr) CRr (Lib.hid alive4_any)
  · have CRr : Hid (∀ w, Calls Try.prog 20 #[.string t] w fun e w' => e = .returned (.bool true) ∧ w = w') := Lib.hid fun w => by have := refright_any t w htm; rwa [hr] at this
    have CS0 := fun w => size4_any t w hr
    have CP0 := fun w => parse4_any t w hr
    have CRP0 := fun w => refparse_any t w hr
    by_cases hz : B.sizeL t.data.toList = (t.size, 0)
    · cases hh : B.headB (B.decode t.data.toList) t
      · have CRR := fun w => refread_yes t w hr hz
        rw [hh] at CRR
        exact freads_none s t _ _ _ _ _ _ _ _ _ _ _ _ _ _ w ht (Lib.hid CS0) (Lib.hid fun w => read4_other t w hr hz hh) (Lib.hid CP0) CRr (Lib.hid fun w => refsize_any t w hr) (Lib.hid CRR) (Lib.hid CRP0) (Lib.hid alive4_any)
      · have CRR := fun w => refread_yes t w hr hz
        rw [hh] at CRR
        exact freads_is s t _ _ _ _ _ _ _ _ _ _ _ _ _ _ w ht (Lib.hid CS0) (Lib.hid fun w => read4_yes t w hr hz hh) (Lib.hid CP0) CRr (Lib.hid fun w => refsize_any t w hr) (Lib.hid CRR) (Lib.hid CRP0) (Lib.hid alive4_any)
    · have hne : ((B.sizeL t.data.toList).2 : Int) ≠ 0 ∨ ((B.sizeL t.data.toList).1 : Int) ≠ t.size := by
        by_cases h2 : (B.sizeL t.data.toList).2 = 0
        · right; intro e; exact hz (Prod.ext (by simp only; omega) h2)
        · left; omega
      exact freads_none s t _ _ _ _ _ _ _ _ _ _ _ _ _ _ w ht (Lib.hid CS0) (Lib.hid fun w => read4_no t _ _ w CS0 hne) (Lib.hid CP0) CRr (Lib.hid fun w => refsize_any t w hr) (Lib.hid fun w => refread_no t w hr hz) (Lib.hid CRP0) (Lib.hid alive4_any)
end Go.Proofs.Ytdpfmpbnahhjmaa
