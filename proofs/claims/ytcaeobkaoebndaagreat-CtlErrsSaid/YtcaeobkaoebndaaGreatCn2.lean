/- Package count: Step of a count that may be. -/
import Derived.Test.YtcaeobkaoebndaaGreatCn1
namespace Go.Proofs.YtcaeobkaoebndaaGreat
open Go.RowKit Go.Lib Go.Maps

set_option maxRecDepth 100000 in
theorem lit1_lo (t r : Nat) (w : World) (h : r + 1 ≤ 255) : Calls Tryz.prog 120 #[.agg #[.int .i64 (t : Int), .int .i64 (r : Int), .bool false, .int .i64 0]] w fun e w' => e = .returned (.agg #[.int .i64 (t : Int), .int .i64 ((r : Int) + 1), .bool false, .int .i64 0]) ∧ Below w.heap.size w w' := by
  have CF : Hid (∀ w, Calls Tryz.prog 121 #[.agg #[.int .i64 (t : Int), .int .i64 (r : Int), .bool false, .int .i64 0], .int .i64 1] w fun e w' => e = .returned (.agg #[.int .i64 (t : Int), .int .i64 ((r : Int) + 1), .bool false, .int .i64 0]) ∧ Below w.heap.size w w') := Lib.hid (fun w => cerr_lo t r 1 _ h)
  go_enter Tryz.func120, Tryz.ntmps120
  go_wp2_with (go_at_call 121; (with_reducible refine (CF.out _).mono ?_); rintro e w2 ⟨rfl, hb2⟩; obtain ⟨hc2, hf2⟩ := bcell hb2; have hz2 : w.heap.size + 1 < w2.heap.size := (by have := hb2.size; simp at this; omega); have HB2 : Hid _ := Lib.hid hb2; clear hb2)
  refine bodyPost_ret (v := .agg #[.int .i64 (t : Int), .int .i64 ((r : Int) + 1), .bool false, .int .i64 0]) (by simp [results, Tryz.results120, go_sem, hc2]) rfl ⟨rfl, ?_⟩
  have hb3 := (((Below.refl w.heap.size w).alloc (Nat.le_refl _) _).alloc (by simp) _).trans (HB2.out.mono (by simp; omega))
  repeat (first | exact hb3 | refine Below.setCell ?_ (by first | (simp; done) | (simp; omega)) _)
set_option maxRecDepth 100000 in
theorem lit1_hi (t r : Nat) (w : World) (h : 255 < r + 1) (hr : r ≤ 255) : Calls Tryz.prog 120 #[.agg #[.int .i64 (t : Int), .int .i64 (r : Int), .bool false, .int .i64 0]] w fun e w' => e = .returned (.agg #[.int .i64 (t : Int), .int .i64 255, .bool false, .int .i64 0]) ∧ Below w.heap.size w w' := by
  have CF : Hid (∀ w, Calls Tryz.prog 121 #[.agg #[.int .i64 (t : Int), .int .i64 (r : Int), .bool false, .int .i64 0], .int .i64 1] w fun e w' => e = .returned (.agg #[.int .i64 (t : Int), .int .i64 255, .bool false, .int .i64 0]) ∧ Below w.heap.size w w') := Lib.hid (fun w => cerr_hi t r 1 _ h hr (by omega))
  go_enter Tryz.func120, Tryz.ntmps120
  go_wp2_with (go_at_call 121; (with_reducible refine (CF.out _).mono ?_); rintro e w2 ⟨rfl, hb2⟩; obtain ⟨hc2, hf2⟩ := bcell hb2; have hz2 : w.heap.size + 1 < w2.heap.size := (by have := hb2.size; simp at this; omega); have HB2 : Hid _ := Lib.hid hb2; clear hb2)
  refine bodyPost_ret (v := .agg #[.int .i64 (t : Int), .int .i64 255, .bool false, .int .i64 0]) (by simp [results, Tryz.results120, go_sem, hc2]) rfl ⟨rfl, ?_⟩
  have hb3 := (((Below.refl w.heap.size w).alloc (Nat.le_refl _) _).alloc (by simp) _).trans (HB2.out.mono (by simp; omega))
  repeat (first | exact hb3 | refine Below.setCell ?_ (by first | (simp; done) | (simp; omega)) _)
set_option maxRecDepth 100000 in
theorem lit8_lo (t r : Nat) (w : World) (h : r + 8 ≤ 255) : Calls Tryz.prog 122 #[.agg #[.int .i64 (t : Int), .int .i64 (r : Int), .bool false, .int .i64 0]] w fun e w' => e = .returned (.agg #[.int .i64 (t : Int), .int .i64 ((r : Int) + 8), .bool false, .int .i64 0]) ∧ Below w.heap.size w w' := by
  have CF : Hid (∀ w, Calls Tryz.prog 121 #[.agg #[.int .i64 (t : Int), .int .i64 (r : Int), .bool false, .int .i64 0], .int .i64 8] w fun e w' => e = .returned (.agg #[.int .i64 (t : Int), .int .i64 ((r : Int) + 8), .bool false, .int .i64 0]) ∧ Below w.heap.size w w') := Lib.hid (fun w => cerr_lo t r 8 _ h)
  go_enter Tryz.func122, Tryz.ntmps122
  go_wp2_with (go_at_call 121; (with_reducible refine (CF.out _).mono ?_); rintro e w2 ⟨rfl, hb2⟩; obtain ⟨hc2, hf2⟩ := bcell hb2; have hz2 : w.heap.size + 1 < w2.heap.size := (by have := hb2.size; simp at this; omega); have HB2 : Hid _ := Lib.hid hb2; clear hb2)
  refine bodyPost_ret (v := .agg #[.int .i64 (t : Int), .int .i64 ((r : Int) + 8), .bool false, .int .i64 0]) (by simp [results, Tryz.results122, go_sem, hc2]) rfl ⟨rfl, ?_⟩
  have hb3 := (((Below.refl w.heap.size w).alloc (Nat.le_refl _) _).alloc (by simp) _).trans (HB2.out.mono (by simp; omega))
  repeat (first | exact hb3 | refine Below.setCell ?_ (by first | (simp; done) | (simp; omega)) _)
set_option maxRecDepth 100000 in
theorem lit8_hi (t r : Nat) (w : World) (h : 255 < r + 8) (hr : r ≤ 255) : Calls Tryz.prog 122 #[.agg #[.int .i64 (t : Int), .int .i64 (r : Int), .bool false, .int .i64 0]] w fun e w' => e = .returned (.agg #[.int .i64 (t : Int), .int .i64 255, .bool false, .int .i64 0]) ∧ Below w.heap.size w w' := by
  have CF : Hid (∀ w, Calls Tryz.prog 121 #[.agg #[.int .i64 (t : Int), .int .i64 (r : Int), .bool false, .int .i64 0], .int .i64 8] w fun e w' => e = .returned (.agg #[.int .i64 (t : Int), .int .i64 255, .bool false, .int .i64 0]) ∧ Below w.heap.size w w') := Lib.hid (fun w => cerr_hi t r 8 _ h hr (by omega))
  go_enter Tryz.func122, Tryz.ntmps122
  go_wp2_with (go_at_call 121; (with_reducible refine (CF.out _).mono ?_); rintro e w2 ⟨rfl, hb2⟩; obtain ⟨hc2, hf2⟩ := bcell hb2; have hz2 : w.heap.size + 1 < w2.heap.size := (by have := hb2.size; simp at this; omega); have HB2 : Hid _ := Lib.hid hb2; clear hb2)
  refine bodyPost_ret (v := .agg #[.int .i64 (t : Int), .int .i64 255, .bool false, .int .i64 0]) (by simp [results, Tryz.results122, go_sem, hc2]) rfl ⟨rfl, ?_⟩
  have hb3 := (((Below.refl w.heap.size w).alloc (Nat.le_refl _) _).alloc (by simp) _).trans (HB2.out.mono (by simp; omega))
  repeat (first | exact hb3 | refine Below.setCell ?_ (by first | (simp; done) | (simp; omega)) _)
set_option maxRecDepth 100000 in
theorem step_sent0 (r : Nat) (w : World) (hr : r ≤ 255) : Calls Tryz.prog 97 #[.agg #[.int .i64 0, .int .i64 (r : Int), .bool false, .int .i64 0], .int .i64 1] w fun e w' => e = .returned (.tuple #[.agg #[.int .i64 0, .int .i64 (r : Int), .bool false, .int .i64 0], .int .i64 0]) ∧ Below w.heap.size w w' := by
  have CS : Hid (∀ w, Calls Tryz.prog 108 #[] w fun e w' => ∃ b, e = .returned (.map (some b)) ∧ Looks w' b ∧ Below w.heap.size w w') := Lib.hid csteps_any
  have CR : Hid (∀ w, Calls Tryz.prog 36 #[.agg #[.int .i64 0, .int .i64 (r : Int), .bool false, .int .i64 0]] w fun e w' => e = .returned (.bool true) ∧ w' = w.alloc (.cells #[.int .i64 0, .int .i64 (r : Int), .bool false, .int .i64 0] 29)) := Lib.hid (fun w => cright_on 0 r _ (by omega) hr)
  have CF : Hid (∀ w, Calls Tryz.prog 117 #[.agg #[.int .i64 0, .int .i64 (r : Int), .bool false, .int .i64 0]] w fun e w' => e = .returned (.agg #[.int .i64 0, .int .i64 (r : Int), .bool false, .int .i64 0]) ∧ Below w.heap.size w w') := Lib.hid (fun w => sent_0 r _)
  go_enter Tryz.func97, Tryz.ntmps97
  go_wp2_with (first
    | (go_at_call 108; (with_reducible refine (CS.out _).mono ?_); rintro e w1 ⟨b, rfl, hL, hb⟩; obtain ⟨hc, hf⟩ := bcell hb; have hlk := hL.at_ 1 117 (by decide) rfl rfl; have hz : w.heap.size + 1 < w1.heap.size := (by have := hb.size; simp at this; omega); have hz0 : w.heap.size < w1.heap.size := (by omega); have HB : Hid _ := Lib.hid hb; clear hL hb)
    | (go_at_call 36; (with_reducible refine (CR.out _).mono ?_); rintro e w' ⟨rfl, rfl⟩)
    | (go_at_call 117; (with_reducible refine (CF.out _).mono ?_); rintro e w2 ⟨rfl, hb2⟩; obtain ⟨hc2, hf2⟩ := bcell hb2; have hz2 : w.heap.size + 1 < w2.heap.size := (by have := hb2.size; simp at this; omega); have hz20 : w.heap.size < w2.heap.size := (by omega); have HB2 : Hid _ := Lib.hid hb2; clear hb2))
  refine bodyPost_ret (v := .tuple #[.agg #[.int .i64 0, .int .i64 (r : Int), .bool false, .int .i64 0], .int .i64 0]) (by simp [results, Tryz.results97, go_sem, hc, hz, hz0, hc2]) rfl ⟨rfl, ?_⟩
  have hb1 := (((Below.refl w.heap.size w).alloc (Nat.le_refl _) _).alloc (by simp) _).trans (HB.out.mono (by simp; omega))
  have hb2 := (hb1.alloc (by omega) (.cells #[.int .i64 0, .int .i64 (r : Int), .bool false, .int .i64 0] 29)).trans (HB2.out.mono (by simp; omega))
  repeat (first | exact hb2 | refine Below.setCell ?_ (by first | (simp; done) | (simp; omega)) _)
set_option maxRecDepth 100000 in
theorem step_sent1 (t r : Nat) (w : World) (ht : t + 1 ≤ 255) (hr : r ≤ 255) : Calls Tryz.prog 97 #[.agg #[.int .i64 ((t : Int) + 1), .int .i64 (r : Int), .bool false, .int .i64 0], .int .i64 1] w fun e w' => e = .returned (.tuple #[.agg #[.int .i64 (t : Int), .int .i64 (r : Int), .bool false, .int .i64 0], .int .i64 0]) ∧ Below w.heap.size w w' := by
  have CS : Hid (∀ w, Calls Tryz.prog 108 #[] w fun e w' => ∃ b, e = .returned (.map (some b)) ∧ Looks w' b ∧ Below w.heap.size w w') := Lib.hid csteps_any
  have CR : Hid (∀ w, Calls Tryz.prog 36 #[.agg #[.int .i64 ((t : Int) + 1), .int .i64 (r : Int), .bool false, .int .i64 0]] w fun e w' => e = .returned (.bool true) ∧ w' = w.alloc (.cells #[.int .i64 ((t : Int) + 1), .int .i64 (r : Int), .bool false, .int .i64 0] 29)) := Lib.hid (fun w => cright_on (t + 1) r _ ht hr)
  have CF : Hid (∀ w, Calls Tryz.prog 117 #[.agg #[.int .i64 ((t : Int) + 1), .int .i64 (r : Int), .bool false, .int .i64 0]] w fun e w' => e = .returned (.agg #[.int .i64 (t : Int), .int .i64 (r : Int), .bool false, .int .i64 0]) ∧ Below w.heap.size w w') := Lib.hid (fun w => sent_1 t r _ (by omega))
  go_enter Tryz.func97, Tryz.ntmps97
  go_wp2_with (first
    | (go_at_call 108; (with_reducible refine (CS.out _).mono ?_); rintro e w1 ⟨b, rfl, hL, hb⟩; obtain ⟨hc, hf⟩ := bcell hb; have hlk := hL.at_ 1 117 (by decide) rfl rfl; have hz : w.heap.size + 1 < w1.heap.size := (by have := hb.size; simp at this; omega); have hz0 : w.heap.size < w1.heap.size := (by omega); have HB : Hid _ := Lib.hid hb; clear hL hb)
    | (go_at_call 36; (with_reducible refine (CR.out _).mono ?_); rintro e w' ⟨rfl, rfl⟩)
    | (go_at_call 117; (with_reducible refine (CF.out _).mono ?_); rintro e w2 ⟨rfl, hb2⟩; obtain ⟨hc2, hf2⟩ := bcell hb2; have hz2 : w.heap.size + 1 < w2.heap.size := (by have := hb2.size; simp at this; omega); have hz20 : w.heap.size < w2.heap.size := (by omega); have HB2 : Hid _ := Lib.hid hb2; clear hb2))
  refine bodyPost_ret (v := .tuple #[.agg #[.int .i64 (t : Int), .int .i64 (r : Int), .bool false, .int .i64 0], .int .i64 0]) (by simp [results, Tryz.results97, go_sem, hc, hz, hz0, hc2]) rfl ⟨rfl, ?_⟩
  have hb1 := (((Below.refl w.heap.size w).alloc (Nat.le_refl _) _).alloc (by simp) _).trans (HB.out.mono (by simp; omega))
  have hb2 := (hb1.alloc (by omega) (.cells #[.int .i64 ((t : Int) + 1), .int .i64 (r : Int), .bool false, .int .i64 0] 29)).trans (HB2.out.mono (by simp; omega))
  repeat (first | exact hb2 | refine Below.setCell ?_ (by first | (simp; done) | (simp; omega)) _)
set_option maxRecDepth 100000 in
theorem step_camehi (t r : Nat) (w : World) (ht : t ≤ 255) (hr : r ≤ 255) (h : 127 < r) : Calls Tryz.prog 97 #[.agg #[.int .i64 (t : Int), .int .i64 (r : Int), .bool false, .int .i64 0], .int .i64 2] w fun e w' => e = .returned (.tuple #[.agg #[.int .i64 (t : Int), .int .i64 119, .bool false, .int .i64 0], .int .i64 0]) ∧ Below w.heap.size w w' := by
  have CS : Hid (∀ w, Calls Tryz.prog 108 #[] w fun e w' => ∃ b, e = .returned (.map (some b)) ∧ Looks w' b ∧ Below w.heap.size w w') := Lib.hid csteps_any
  have CR : Hid (∀ w, Calls Tryz.prog 36 #[.agg #[.int .i64 (t : Int), .int .i64 (r : Int), .bool false, .int .i64 0]] w fun e w' => e = .returned (.bool true) ∧ w' = w.alloc (.cells #[.int .i64 (t : Int), .int .i64 (r : Int), .bool false, .int .i64 0] 29)) := Lib.hid (fun w => cright_on t r _ (by omega) (by omega))
  have CF : Hid (∀ w, Calls Tryz.prog 118 #[.agg #[.int .i64 (t : Int), .int .i64 (r : Int), .bool false, .int .i64 0]] w fun e w' => e = .returned (.agg #[.int .i64 (t : Int), .int .i64 119, .bool false, .int .i64 0]) ∧ Below w.heap.size w w') := Lib.hid (fun w => came_hi t r _ h)
  go_enter Tryz.func97, Tryz.ntmps97
  go_wp2_with (first
    | (go_at_call 108; (with_reducible refine (CS.out _).mono ?_); rintro e w1 ⟨b, rfl, hL, hb⟩; obtain ⟨hc, hf⟩ := bcell hb; have hlk := hL.at_ 2 118 (by decide) rfl rfl; have hz : w.heap.size + 1 < w1.heap.size := (by have := hb.size; simp at this; omega); have hz0 : w.heap.size < w1.heap.size := (by omega); have HB : Hid _ := Lib.hid hb; clear hL hb)
    | (go_at_call 36; (with_reducible refine (CR.out _).mono ?_); rintro e w' ⟨rfl, rfl⟩)
    | (go_at_call 118; (with_reducible refine (CF.out _).mono ?_); rintro e w2 ⟨rfl, hb2⟩; obtain ⟨hc2, hf2⟩ := bcell hb2; have hz2 : w.heap.size + 1 < w2.heap.size := (by have := hb2.size; simp at this; omega); have hz20 : w.heap.size < w2.heap.size := (by omega); have HB2 : Hid _ := Lib.hid hb2; clear hb2))
  refine bodyPost_ret (v := .tuple #[.agg #[.int .i64 (t : Int), .int .i64 119, .bool false, .int .i64 0], .int .i64 0]) (by simp [results, Tryz.results97, go_sem, hc, hz, hz0, hc2]) rfl ⟨rfl, ?_⟩
  have hb1 := (((Below.refl w.heap.size w).alloc (Nat.le_refl _) _).alloc (by simp) _).trans (HB.out.mono (by simp; omega))
  have hb2 := (hb1.alloc (by omega) (.cells #[.int .i64 (t : Int), .int .i64 (r : Int), .bool false, .int .i64 0] 29)).trans (HB2.out.mono (by simp; omega))
  repeat (first | exact hb2 | refine Below.setCell ?_ (by first | (simp; done) | (simp; omega)) _)
set_option maxRecDepth 100000 in
theorem step_came0 (t : Nat) (w : World) (ht : t ≤ 255) : Calls Tryz.prog 97 #[.agg #[.int .i64 (t : Int), .int .i64 0, .bool false, .int .i64 0], .int .i64 2] w fun e w' => e = .returned (.tuple #[.agg #[.int .i64 (t : Int), .int .i64 0, .bool false, .int .i64 0], .int .i64 0]) ∧ Below w.heap.size w w' := by
  have CS : Hid (∀ w, Calls Tryz.prog 108 #[] w fun e w' => ∃ b, e = .returned (.map (some b)) ∧ Looks w' b ∧ Below w.heap.size w w') := Lib.hid csteps_any
  have CR : Hid (∀ w, Calls Tryz.prog 36 #[.agg #[.int .i64 (t : Int), .int .i64 0, .bool false, .int .i64 0]] w fun e w' => e = .returned (.bool true) ∧ w' = w.alloc (.cells #[.int .i64 (t : Int), .int .i64 0, .bool false, .int .i64 0] 29)) := Lib.hid (fun w => cright_on t 0 _ ht (by omega))
  have CF : Hid (∀ w, Calls Tryz.prog 118 #[.agg #[.int .i64 (t : Int), .int .i64 0, .bool false, .int .i64 0]] w fun e w' => e = .returned (.agg #[.int .i64 (t : Int), .int .i64 0, .bool false, .int .i64 0]) ∧ Below w.heap.size w w') := Lib.hid (fun w => came_0 t _)
  go_enter Tryz.func97, Tryz.ntmps97
  go_wp2_with (first
    | (go_at_call 108; (with_reducible refine (CS.out _).mono ?_); rintro e w1 ⟨b, rfl, hL, hb⟩; obtain ⟨hc, hf⟩ := bcell hb; have hlk := hL.at_ 2 118 (by decide) rfl rfl; have hz : w.heap.size + 1 < w1.heap.size := (by have := hb.size; simp at this; omega); have hz0 : w.heap.size < w1.heap.size := (by omega); have HB : Hid _ := Lib.hid hb; clear hL hb)
    | (go_at_call 36; (with_reducible refine (CR.out _).mono ?_); rintro e w' ⟨rfl, rfl⟩)
    | (go_at_call 118; (with_reducible refine (CF.out _).mono ?_); rintro e w2 ⟨rfl, hb2⟩; obtain ⟨hc2, hf2⟩ := bcell hb2; have hz2 : w.heap.size + 1 < w2.heap.size := (by have := hb2.size; simp at this; omega); have hz20 : w.heap.size < w2.heap.size := (by omega); have HB2 : Hid _ := Lib.hid hb2; clear hb2))
  refine bodyPost_ret (v := .tuple #[.agg #[.int .i64 (t : Int), .int .i64 0, .bool false, .int .i64 0], .int .i64 0]) (by simp [results, Tryz.results97, go_sem, hc, hz, hz0, hc2]) rfl ⟨rfl, ?_⟩
  have hb1 := (((Below.refl w.heap.size w).alloc (Nat.le_refl _) _).alloc (by simp) _).trans (HB.out.mono (by simp; omega))
  have hb2 := (hb1.alloc (by omega) (.cells #[.int .i64 (t : Int), .int .i64 0, .bool false, .int .i64 0] 29)).trans (HB2.out.mono (by simp; omega))
  repeat (first | exact hb2 | refine Below.setCell ?_ (by first | (simp; done) | (simp; omega)) _)
set_option maxRecDepth 100000 in
theorem step_came1 (t r : Nat) (w : World) (ht : t ≤ 255) (h : r + 1 ≤ 127) : Calls Tryz.prog 97 #[.agg #[.int .i64 (t : Int), .int .i64 ((r : Int) + 1), .bool false, .int .i64 0], .int .i64 2] w fun e w' => e = .returned (.tuple #[.agg #[.int .i64 (t : Int), .int .i64 (r : Int), .bool false, .int .i64 0], .int .i64 0]) ∧ Below w.heap.size w w' := by
  have CS : Hid (∀ w, Calls Tryz.prog 108 #[] w fun e w' => ∃ b, e = .returned (.map (some b)) ∧ Looks w' b ∧ Below w.heap.size w w') := Lib.hid csteps_any
  have CR : Hid (∀ w, Calls Tryz.prog 36 #[.agg #[.int .i64 (t : Int), .int .i64 ((r : Int) + 1), .bool false, .int .i64 0]] w fun e w' => e = .returned (.bool true) ∧ w' = w.alloc (.cells #[.int .i64 (t : Int), .int .i64 ((r : Int) + 1), .bool false, .int .i64 0] 29)) := Lib.hid (fun w => cright_on t (r + 1) _ ht (by omega))
  have CF : Hid (∀ w, Calls Tryz.prog 118 #[.agg #[.int .i64 (t : Int), .int .i64 ((r : Int) + 1), .bool false, .int .i64 0]] w fun e w' => e = .returned (.agg #[.int .i64 (t : Int), .int .i64 (r : Int), .bool false, .int .i64 0]) ∧ Below w.heap.size w w') := Lib.hid (fun w => came_1 t r _ h)
  go_enter Tryz.func97, Tryz.ntmps97
  go_wp2_with (first
    | (go_at_call 108; (with_reducible refine (CS.out _).mono ?_); rintro e w1 ⟨b, rfl, hL, hb⟩; obtain ⟨hc, hf⟩ := bcell hb; have hlk := hL.at_ 2 118 (by decide) rfl rfl; have hz : w.heap.size + 1 < w1.heap.size := (by have := hb.size; simp at this; omega); have hz0 : w.heap.size < w1.heap.size := (by omega); have HB : Hid _ := Lib.hid hb; clear hL hb)
    | (go_at_call 36; (with_reducible refine (CR.out _).mono ?_); rintro e w' ⟨rfl, rfl⟩)
    | (go_at_call 118; (with_reducible refine (CF.out _).mono ?_); rintro e w2 ⟨rfl, hb2⟩; obtain ⟨hc2, hf2⟩ := bcell hb2; have hz2 : w.heap.size + 1 < w2.heap.size := (by have := hb2.size; simp at this; omega); have hz20 : w.heap.size < w2.heap.size := (by omega); have HB2 : Hid _ := Lib.hid hb2; clear hb2))
  refine bodyPost_ret (v := .tuple #[.agg #[.int .i64 (t : Int), .int .i64 (r : Int), .bool false, .int .i64 0], .int .i64 0]) (by simp [results, Tryz.results97, go_sem, hc, hz, hz0, hc2]) rfl ⟨rfl, ?_⟩
  have hb1 := (((Below.refl w.heap.size w).alloc (Nat.le_refl _) _).alloc (by simp) _).trans (HB.out.mono (by simp; omega))
  have hb2 := (hb1.alloc (by omega) (.cells #[.int .i64 (t : Int), .int .i64 ((r : Int) + 1), .bool false, .int .i64 0] 29)).trans (HB2.out.mono (by simp; omega))
  repeat (first | exact hb2 | refine Below.setCell ?_ (by first | (simp; done) | (simp; omega)) _)
set_option maxRecDepth 100000 in
theorem step_err3lo (t r : Nat) (w : World) (h : t + 8 ≤ 255) (hr : r ≤ 255) : Calls Tryz.prog 97 #[.agg #[.int .i64 (t : Int), .int .i64 (r : Int), .bool false, .int .i64 0], .int .i64 3] w fun e w' => e = .returned (.tuple #[.agg #[.int .i64 ((t : Int) + 8), .int .i64 (r : Int), .bool false, .int .i64 0], .int .i64 0]) ∧ Below w.heap.size w w' := by
  have CS : Hid (∀ w, Calls Tryz.prog 108 #[] w fun e w' => ∃ b, e = .returned (.map (some b)) ∧ Looks w' b ∧ Below w.heap.size w w') := Lib.hid csteps_any
  have CR : Hid (∀ w, Calls Tryz.prog 36 #[.agg #[.int .i64 (t : Int), .int .i64 (r : Int), .bool false, .int .i64 0]] w fun e w' => e = .returned (.bool true) ∧ w' = w.alloc (.cells #[.int .i64 (t : Int), .int .i64 (r : Int), .bool false, .int .i64 0] 29)) := Lib.hid (fun w => cright_on t r _ (by omega) (by omega))
  have CF : Hid (∀ w, Calls Tryz.prog 119 #[.agg #[.int .i64 (t : Int), .int .i64 (r : Int), .bool false, .int .i64 0]] w fun e w' => e = .returned (.agg #[.int .i64 ((t : Int) + 8), .int .i64 (r : Int), .bool false, .int .i64 0]) ∧ Below w.heap.size w w') := Lib.hid (fun w => serr_lo t r _ h)
  go_enter Tryz.func97, Tryz.ntmps97
  go_wp2_with (first
    | (go_at_call 108; (with_reducible refine (CS.out _).mono ?_); rintro e w1 ⟨b, rfl, hL, hb⟩; obtain ⟨hc, hf⟩ := bcell hb; have hlk := hL.at_ 3 119 (by decide) rfl rfl; have hz : w.heap.size + 1 < w1.heap.size := (by have := hb.size; simp at this; omega); have hz0 : w.heap.size < w1.heap.size := (by omega); have HB : Hid _ := Lib.hid hb; clear hL hb)
    | (go_at_call 36; (with_reducible refine (CR.out _).mono ?_); rintro e w' ⟨rfl, rfl⟩)
    | (go_at_call 119; (with_reducible refine (CF.out _).mono ?_); rintro e w2 ⟨rfl, hb2⟩; obtain ⟨hc2, hf2⟩ := bcell hb2; have hz2 : w.heap.size + 1 < w2.heap.size := (by have := hb2.size; simp at this; omega); have hz20 : w.heap.size < w2.heap.size := (by omega); have HB2 : Hid _ := Lib.hid hb2; clear hb2))
  refine bodyPost_ret (v := .tuple #[.agg #[.int .i64 ((t : Int) + 8), .int .i64 (r : Int), .bool false, .int .i64 0], .int .i64 0]) (by simp [results, Tryz.results97, go_sem, hc, hz, hz0, hc2]) rfl ⟨rfl, ?_⟩
  have hb1 := (((Below.refl w.heap.size w).alloc (Nat.le_refl _) _).alloc (by simp) _).trans (HB.out.mono (by simp; omega))
  have hb2 := (hb1.alloc (by omega) (.cells #[.int .i64 (t : Int), .int .i64 (r : Int), .bool false, .int .i64 0] 29)).trans (HB2.out.mono (by simp; omega))
  repeat (first | exact hb2 | refine Below.setCell ?_ (by first | (simp; done) | (simp; omega)) _)
set_option maxRecDepth 100000 in
theorem step_err3hi (t r : Nat) (w : World) (ht : t ≤ 255) (h : 255 < t + 8) (hr : r ≤ 255) : Calls Tryz.prog 97 #[.agg #[.int .i64 (t : Int), .int .i64 (r : Int), .bool false, .int .i64 0], .int .i64 3] w fun e w' => e = .returned (.tuple #[.agg #[.int .i64 0, .int .i64 0, .bool true, .int .i64 128], .int .i64 0]) ∧ Below w.heap.size w w' := by
  have CS : Hid (∀ w, Calls Tryz.prog 108 #[] w fun e w' => ∃ b, e = .returned (.map (some b)) ∧ Looks w' b ∧ Below w.heap.size w w') := Lib.hid csteps_any
  have CR : Hid (∀ w, Calls Tryz.prog 36 #[.agg #[.int .i64 (t : Int), .int .i64 (r : Int), .bool false, .int .i64 0]] w fun e w' => e = .returned (.bool true) ∧ w' = w.alloc (.cells #[.int .i64 (t : Int), .int .i64 (r : Int), .bool false, .int .i64 0] 29)) := Lib.hid (fun w => cright_on t r _ (by omega) (by omega))
  have CF : Hid (∀ w, Calls Tryz.prog 119 #[.agg #[.int .i64 (t : Int), .int .i64 (r : Int), .bool false, .int .i64 0]] w fun e w' => e = .returned (.agg #[.int .i64 0, .int .i64 0, .bool true, .int .i64 128]) ∧ Below w.heap.size w w') := Lib.hid (fun w => serr_hi t r _ h ht)
  go_enter Tryz.func97, Tryz.ntmps97
  go_wp2_with (first
    | (go_at_call 108; (with_reducible refine (CS.out _).mono ?_); rintro e w1 ⟨b, rfl, hL, hb⟩; obtain ⟨hc, hf⟩ := bcell hb; have hlk := hL.at_ 3 119 (by decide) rfl rfl; have hz : w.heap.size + 1 < w1.heap.size := (by have := hb.size; simp at this; omega); have hz0 : w.heap.size < w1.heap.size := (by omega); have HB : Hid _ := Lib.hid hb; clear hL hb)
    | (go_at_call 36; (with_reducible refine (CR.out _).mono ?_); rintro e w' ⟨rfl, rfl⟩)
    | (go_at_call 119; (with_reducible refine (CF.out _).mono ?_); rintro e w2 ⟨rfl, hb2⟩; obtain ⟨hc2, hf2⟩ := bcell hb2; have hz2 : w.heap.size + 1 < w2.heap.size := (by have := hb2.size; simp at this; omega); have hz20 : w.heap.size < w2.heap.size := (by omega); have HB2 : Hid _ := Lib.hid hb2; clear hb2))
  refine bodyPost_ret (v := .tuple #[.agg #[.int .i64 0, .int .i64 0, .bool true, .int .i64 128], .int .i64 0]) (by simp [results, Tryz.results97, go_sem, hc, hz, hz0, hc2]) rfl ⟨rfl, ?_⟩
  have hb1 := (((Below.refl w.heap.size w).alloc (Nat.le_refl _) _).alloc (by simp) _).trans (HB.out.mono (by simp; omega))
  have hb2 := (hb1.alloc (by omega) (.cells #[.int .i64 (t : Int), .int .i64 (r : Int), .bool false, .int .i64 0] 29)).trans (HB2.out.mono (by simp; omega))
  repeat (first | exact hb2 | refine Below.setCell ?_ (by first | (simp; done) | (simp; omega)) _)
set_option maxRecDepth 100000 in
theorem step_err5lo (t r : Nat) (w : World) (h : t + 8 ≤ 255) (hr : r ≤ 255) : Calls Tryz.prog 97 #[.agg #[.int .i64 (t : Int), .int .i64 (r : Int), .bool false, .int .i64 0], .int .i64 5] w fun e w' => e = .returned (.tuple #[.agg #[.int .i64 ((t : Int) + 8), .int .i64 (r : Int), .bool false, .int .i64 0], .int .i64 0]) ∧ Below w.heap.size w w' := by
  have CS : Hid (∀ w, Calls Tryz.prog 108 #[] w fun e w' => ∃ b, e = .returned (.map (some b)) ∧ Looks w' b ∧ Below w.heap.size w w') := Lib.hid csteps_any
  have CR : Hid (∀ w, Calls Tryz.prog 36 #[.agg #[.int .i64 (t : Int), .int .i64 (r : Int), .bool false, .int .i64 0]] w fun e w' => e = .returned (.bool true) ∧ w' = w.alloc (.cells #[.int .i64 (t : Int), .int .i64 (r : Int), .bool false, .int .i64 0] 29)) := Lib.hid (fun w => cright_on t r _ (by omega) (by omega))
  have CF : Hid (∀ w, Calls Tryz.prog 119 #[.agg #[.int .i64 (t : Int), .int .i64 (r : Int), .bool false, .int .i64 0]] w fun e w' => e = .returned (.agg #[.int .i64 ((t : Int) + 8), .int .i64 (r : Int), .bool false, .int .i64 0]) ∧ Below w.heap.size w w') := Lib.hid (fun w => serr_lo t r _ h)
  go_enter Tryz.func97, Tryz.ntmps97
  go_wp2_with (first
    | (go_at_call 108; (with_reducible refine (CS.out _).mono ?_); rintro e w1 ⟨b, rfl, hL, hb⟩; obtain ⟨hc, hf⟩ := bcell hb; have hlk := hL.at_ 5 119 (by decide) rfl rfl; have hz : w.heap.size + 1 < w1.heap.size := (by have := hb.size; simp at this; omega); have hz0 : w.heap.size < w1.heap.size := (by omega); have HB : Hid _ := Lib.hid hb; clear hL hb)
    | (go_at_call 36; (with_reducible refine (CR.out _).mono ?_); rintro e w' ⟨rfl, rfl⟩)
    | (go_at_call 119; (with_reducible refine (CF.out _).mono ?_); rintro e w2 ⟨rfl, hb2⟩; obtain ⟨hc2, hf2⟩ := bcell hb2; have hz2 : w.heap.size + 1 < w2.heap.size := (by have := hb2.size; simp at this; omega); have hz20 : w.heap.size < w2.heap.size := (by omega); have HB2 : Hid _ := Lib.hid hb2; clear hb2))
  refine bodyPost_ret (v := .tuple #[.agg #[.int .i64 ((t : Int) + 8), .int .i64 (r : Int), .bool false, .int .i64 0], .int .i64 0]) (by simp [results, Tryz.results97, go_sem, hc, hz, hz0, hc2]) rfl ⟨rfl, ?_⟩
  have hb1 := (((Below.refl w.heap.size w).alloc (Nat.le_refl _) _).alloc (by simp) _).trans (HB.out.mono (by simp; omega))
  have hb2 := (hb1.alloc (by omega) (.cells #[.int .i64 (t : Int), .int .i64 (r : Int), .bool false, .int .i64 0] 29)).trans (HB2.out.mono (by simp; omega))
  repeat (first | exact hb2 | refine Below.setCell ?_ (by first | (simp; done) | (simp; omega)) _)
set_option maxRecDepth 100000 in
theorem step_err5hi (t r : Nat) (w : World) (ht : t ≤ 255) (h : 255 < t + 8) (hr : r ≤ 255) : Calls Tryz.prog 97 #[.agg #[.int .i64 (t : Int), .int .i64 (r : Int), .bool false, .int .i64 0], .int .i64 5] w fun e w' => e = .returned (.tuple #[.agg #[.int .i64 0, .int .i64 0, .bool true, .int .i64 128], .int .i64 0]) ∧ Below w.heap.size w w' := by
  have CS : Hid (∀ w, Calls Tryz.prog 108 #[] w fun e w' => ∃ b, e = .returned (.map (some b)) ∧ Looks w' b ∧ Below w.heap.size w w') := Lib.hid csteps_any
  have CR : Hid (∀ w, Calls Tryz.prog 36 #[.agg #[.int .i64 (t : Int), .int .i64 (r : Int), .bool false, .int .i64 0]] w fun e w' => e = .returned (.bool true) ∧ w' = w.alloc (.cells #[.int .i64 (t : Int), .int .i64 (r : Int), .bool false, .int .i64 0] 29)) := Lib.hid (fun w => cright_on t r _ (by omega) (by omega))
  have CF : Hid (∀ w, Calls Tryz.prog 119 #[.agg #[.int .i64 (t : Int), .int .i64 (r : Int), .bool false, .int .i64 0]] w fun e w' => e = .returned (.agg #[.int .i64 0, .int .i64 0, .bool true, .int .i64 128]) ∧ Below w.heap.size w w') := Lib.hid (fun w => serr_hi t r _ h ht)
  go_enter Tryz.func97, Tryz.ntmps97
  go_wp2_with (first
    | (go_at_call 108; (with_reducible refine (CS.out _).mono ?_); rintro e w1 ⟨b, rfl, hL, hb⟩; obtain ⟨hc, hf⟩ := bcell hb; have hlk := hL.at_ 5 119 (by decide) rfl rfl; have hz : w.heap.size + 1 < w1.heap.size := (by have := hb.size; simp at this; omega); have hz0 : w.heap.size < w1.heap.size := (by omega); have HB : Hid _ := Lib.hid hb; clear hL hb)
    | (go_at_call 36; (with_reducible refine (CR.out _).mono ?_); rintro e w' ⟨rfl, rfl⟩)
    | (go_at_call 119; (with_reducible refine (CF.out _).mono ?_); rintro e w2 ⟨rfl, hb2⟩; obtain ⟨hc2, hf2⟩ := bcell hb2; have hz2 : w.heap.size + 1 < w2.heap.size := (by have := hb2.size; simp at this; omega); have hz20 : w.heap.size < w2.heap.size := (by omega); have HB2 : Hid _ := Lib.hid hb2; clear hb2))
  refine bodyPost_ret (v := .tuple #[.agg #[.int .i64 0, .int .i64 0, .bool true, .int .i64 128], .int .i64 0]) (by simp [results, Tryz.results97, go_sem, hc, hz, hz0, hc2]) rfl ⟨rfl, ?_⟩
  have hb1 := (((Below.refl w.heap.size w).alloc (Nat.le_refl _) _).alloc (by simp) _).trans (HB.out.mono (by simp; omega))
  have hb2 := (hb1.alloc (by omega) (.cells #[.int .i64 (t : Int), .int .i64 (r : Int), .bool false, .int .i64 0] 29)).trans (HB2.out.mono (by simp; omega))
  repeat (first | exact hb2 | refine Below.setCell ?_ (by first | (simp; done) | (simp; omega)) _)
set_option maxRecDepth 100000 in
theorem step_come4lo (t r : Nat) (w : World) (ht : t ≤ 255) (h : r + 1 ≤ 255) : Calls Tryz.prog 97 #[.agg #[.int .i64 (t : Int), .int .i64 (r : Int), .bool false, .int .i64 0], .int .i64 4] w fun e w' => e = .returned (.tuple #[.agg #[.int .i64 (t : Int), .int .i64 ((r : Int) + 1), .bool false, .int .i64 0], .int .i64 0]) ∧ Below w.heap.size w w' := by
  have CS : Hid (∀ w, Calls Tryz.prog 108 #[] w fun e w' => ∃ b, e = .returned (.map (some b)) ∧ Looks w' b ∧ Below w.heap.size w w') := Lib.hid csteps_any
  have CR : Hid (∀ w, Calls Tryz.prog 36 #[.agg #[.int .i64 (t : Int), .int .i64 (r : Int), .bool false, .int .i64 0]] w fun e w' => e = .returned (.bool true) ∧ w' = w.alloc (.cells #[.int .i64 (t : Int), .int .i64 (r : Int), .bool false, .int .i64 0] 29)) := Lib.hid (fun w => cright_on t r _ (by omega) (by omega))
  have CF : Hid (∀ w, Calls Tryz.prog 120 #[.agg #[.int .i64 (t : Int), .int .i64 (r : Int), .bool false, .int .i64 0]] w fun e w' => e = .returned (.agg #[.int .i64 (t : Int), .int .i64 ((r : Int) + 1), .bool false, .int .i64 0]) ∧ Below w.heap.size w w') := Lib.hid (fun w => lit1_lo t r _ h)
  go_enter Tryz.func97, Tryz.ntmps97
  go_wp2_with (first
    | (go_at_call 108; (with_reducible refine (CS.out _).mono ?_); rintro e w1 ⟨b, rfl, hL, hb⟩; obtain ⟨hc, hf⟩ := bcell hb; have hlk := hL.at_ 4 120 (by decide) rfl rfl; have hz : w.heap.size + 1 < w1.heap.size := (by have := hb.size; simp at this; omega); have hz0 : w.heap.size < w1.heap.size := (by omega); have HB : Hid _ := Lib.hid hb; clear hL hb)
    | (go_at_call 36; (with_reducible refine (CR.out _).mono ?_); rintro e w' ⟨rfl, rfl⟩)
    | (go_at_call 120; (with_reducible refine (CF.out _).mono ?_); rintro e w2 ⟨rfl, hb2⟩; obtain ⟨hc2, hf2⟩ := bcell hb2; have hz2 : w.heap.size + 1 < w2.heap.size := (by have := hb2.size; simp at this; omega); have hz20 : w.heap.size < w2.heap.size := (by omega); have HB2 : Hid _ := Lib.hid hb2; clear hb2))
  refine bodyPost_ret (v := .tuple #[.agg #[.int .i64 (t : Int), .int .i64 ((r : Int) + 1), .bool false, .int .i64 0], .int .i64 0]) (by simp [results, Tryz.results97, go_sem, hc, hz, hz0, hc2]) rfl ⟨rfl, ?_⟩
  have hb1 := (((Below.refl w.heap.size w).alloc (Nat.le_refl _) _).alloc (by simp) _).trans (HB.out.mono (by simp; omega))
  have hb2 := (hb1.alloc (by omega) (.cells #[.int .i64 (t : Int), .int .i64 (r : Int), .bool false, .int .i64 0] 29)).trans (HB2.out.mono (by simp; omega))
  repeat (first | exact hb2 | refine Below.setCell ?_ (by first | (simp; done) | (simp; omega)) _)
set_option maxRecDepth 100000 in
theorem step_come4hi (t r : Nat) (w : World) (ht : t ≤ 255) (hr : r ≤ 255) (h : 255 < r + 1) : Calls Tryz.prog 97 #[.agg #[.int .i64 (t : Int), .int .i64 (r : Int), .bool false, .int .i64 0], .int .i64 4] w fun e w' => e = .returned (.tuple #[.agg #[.int .i64 (t : Int), .int .i64 255, .bool false, .int .i64 0], .int .i64 0]) ∧ Below w.heap.size w w' := by
  have CS : Hid (∀ w, Calls Tryz.prog 108 #[] w fun e w' => ∃ b, e = .returned (.map (some b)) ∧ Looks w' b ∧ Below w.heap.size w w') := Lib.hid csteps_any
  have CR : Hid (∀ w, Calls Tryz.prog 36 #[.agg #[.int .i64 (t : Int), .int .i64 (r : Int), .bool false, .int .i64 0]] w fun e w' => e = .returned (.bool true) ∧ w' = w.alloc (.cells #[.int .i64 (t : Int), .int .i64 (r : Int), .bool false, .int .i64 0] 29)) := Lib.hid (fun w => cright_on t r _ (by omega) (by omega))
  have CF : Hid (∀ w, Calls Tryz.prog 120 #[.agg #[.int .i64 (t : Int), .int .i64 (r : Int), .bool false, .int .i64 0]] w fun e w' => e = .returned (.agg #[.int .i64 (t : Int), .int .i64 255, .bool false, .int .i64 0]) ∧ Below w.heap.size w w') := Lib.hid (fun w => lit1_hi t r _ h hr)
  go_enter Tryz.func97, Tryz.ntmps97
  go_wp2_with (first
    | (go_at_call 108; (with_reducible refine (CS.out _).mono ?_); rintro e w1 ⟨b, rfl, hL, hb⟩; obtain ⟨hc, hf⟩ := bcell hb; have hlk := hL.at_ 4 120 (by decide) rfl rfl; have hz : w.heap.size + 1 < w1.heap.size := (by have := hb.size; simp at this; omega); have hz0 : w.heap.size < w1.heap.size := (by omega); have HB : Hid _ := Lib.hid hb; clear hL hb)
    | (go_at_call 36; (with_reducible refine (CR.out _).mono ?_); rintro e w' ⟨rfl, rfl⟩)
    | (go_at_call 120; (with_reducible refine (CF.out _).mono ?_); rintro e w2 ⟨rfl, hb2⟩; obtain ⟨hc2, hf2⟩ := bcell hb2; have hz2 : w.heap.size + 1 < w2.heap.size := (by have := hb2.size; simp at this; omega); have hz20 : w.heap.size < w2.heap.size := (by omega); have HB2 : Hid _ := Lib.hid hb2; clear hb2))
  refine bodyPost_ret (v := .tuple #[.agg #[.int .i64 (t : Int), .int .i64 255, .bool false, .int .i64 0], .int .i64 0]) (by simp [results, Tryz.results97, go_sem, hc, hz, hz0, hc2]) rfl ⟨rfl, ?_⟩
  have hb1 := (((Below.refl w.heap.size w).alloc (Nat.le_refl _) _).alloc (by simp) _).trans (HB.out.mono (by simp; omega))
  have hb2 := (hb1.alloc (by omega) (.cells #[.int .i64 (t : Int), .int .i64 (r : Int), .bool false, .int .i64 0] 29)).trans (HB2.out.mono (by simp; omega))
  repeat (first | exact hb2 | refine Below.setCell ?_ (by first | (simp; done) | (simp; omega)) _)
set_option maxRecDepth 100000 in
theorem step_come6lo (t r : Nat) (w : World) (ht : t ≤ 255) (h : r + 8 ≤ 255) : Calls Tryz.prog 97 #[.agg #[.int .i64 (t : Int), .int .i64 (r : Int), .bool false, .int .i64 0], .int .i64 6] w fun e w' => e = .returned (.tuple #[.agg #[.int .i64 (t : Int), .int .i64 ((r : Int) + 8), .bool false, .int .i64 0], .int .i64 0]) ∧ Below w.heap.size w w' := by
  have CS : Hid (∀ w, Calls Tryz.prog 108 #[] w fun e w' => ∃ b, e = .returned (.map (some b)) ∧ Looks w' b ∧ Below w.heap.size w w') := Lib.hid csteps_any
  have CR : Hid (∀ w, Calls Tryz.prog 36 #[.agg #[.int .i64 (t : Int), .int .i64 (r : Int), .bool false, .int .i64 0]] w fun e w' => e = .returned (.bool true) ∧ w' = w.alloc (.cells #[.int .i64 (t : Int), .int .i64 (r : Int), .bool false, .int .i64 0] 29)) := Lib.hid (fun w => cright_on t r _ (by omega) (by omega))
  have CF : Hid (∀ w, Calls Tryz.prog 122 #[.agg #[.int .i64 (t : Int), .int .i64 (r : Int), .bool false, .int .i64 0]] w fun e w' => e = .returned (.agg #[.int .i64 (t : Int), .int .i64 ((r : Int) + 8), .bool false, .int .i64 0]) ∧ Below w.heap.size w w') := Lib.hid (fun w => lit8_lo t r _ h)
  go_enter Tryz.func97, Tryz.ntmps97
  go_wp2_with (first
    | (go_at_call 108; (with_reducible refine (CS.out _).mono ?_); rintro e w1 ⟨b, rfl, hL, hb⟩; obtain ⟨hc, hf⟩ := bcell hb; have hlk := hL.at_ 6 122 (by decide) rfl rfl; have hz : w.heap.size + 1 < w1.heap.size := (by have := hb.size; simp at this; omega); have hz0 : w.heap.size < w1.heap.size := (by omega); have HB : Hid _ := Lib.hid hb; clear hL hb)
    | (go_at_call 36; (with_reducible refine (CR.out _).mono ?_); rintro e w' ⟨rfl, rfl⟩)
    | (go_at_call 122; (with_reducible refine (CF.out _).mono ?_); rintro e w2 ⟨rfl, hb2⟩; obtain ⟨hc2, hf2⟩ := bcell hb2; have hz2 : w.heap.size + 1 < w2.heap.size := (by have := hb2.size; simp at this; omega); have hz20 : w.heap.size < w2.heap.size := (by omega); have HB2 : Hid _ := Lib.hid hb2; clear hb2))
  refine bodyPost_ret (v := .tuple #[.agg #[.int .i64 (t : Int), .int .i64 ((r : Int) + 8), .bool false, .int .i64 0], .int .i64 0]) (by simp [results, Tryz.results97, go_sem, hc, hz, hz0, hc2]) rfl ⟨rfl, ?_⟩
  have hb1 := (((Below.refl w.heap.size w).alloc (Nat.le_refl _) _).alloc (by simp) _).trans (HB.out.mono (by simp; omega))
  have hb2 := (hb1.alloc (by omega) (.cells #[.int .i64 (t : Int), .int .i64 (r : Int), .bool false, .int .i64 0] 29)).trans (HB2.out.mono (by simp; omega))
  repeat (first | exact hb2 | refine Below.setCell ?_ (by first | (simp; done) | (simp; omega)) _)
set_option maxRecDepth 100000 in
theorem step_come6hi (t r : Nat) (w : World) (ht : t ≤ 255) (hr : r ≤ 255) (h : 255 < r + 8) : Calls Tryz.prog 97 #[.agg #[.int .i64 (t : Int), .int .i64 (r : Int), .bool false, .int .i64 0], .int .i64 6] w fun e w' => e = .returned (.tuple #[.agg #[.int .i64 (t : Int), .int .i64 255, .bool false, .int .i64 0], .int .i64 0]) ∧ Below w.heap.size w w' := by
  have CS : Hid (∀ w, Calls Tryz.prog 108 #[] w fun e w' => ∃ b, e = .returned (.map (some b)) ∧ Looks w' b ∧ Below w.heap.size w w') := Lib.hid csteps_any
  have CR : Hid (∀ w, Calls Tryz.prog 36 #[.agg #[.int .i64 (t : Int), .int .i64 (r : Int), .bool false, .int .i64 0]] w fun e w' => e = .returned (.bool true) ∧ w' = w.alloc (.cells #[.int .i64 (t : Int), .int .i64 (r : Int), .bool false, .int .i64 0] 29)) := Lib.hid (fun w => cright_on t r _ (by omega) (by omega))
  have CF : Hid (∀ w, Calls Tryz.prog 122 #[.agg #[.int .i64 (t : Int), .int .i64 (r : Int), .bool false, .int .i64 0]] w fun e w' => e = .returned (.agg #[.int .i64 (t : Int), .int .i64 255, .bool false, .int .i64 0]) ∧ Below w.heap.size w w') := Lib.hid (fun w => lit8_hi t r _ h hr)
  go_enter Tryz.func97, Tryz.ntmps97
  go_wp2_with (first
    | (go_at_call 108; (with_reducible refine (CS.out _).mono ?_); rintro e w1 ⟨b, rfl, hL, hb⟩; obtain ⟨hc, hf⟩ := bcell hb; have hlk := hL.at_ 6 122 (by decide) rfl rfl; have hz : w.heap.size + 1 < w1.heap.size := (by have := hb.size; simp at this; omega); have hz0 : w.heap.size < w1.heap.size := (by omega); have HB : Hid _ := Lib.hid hb; clear hL hb)
    | (go_at_call 36; (with_reducible refine (CR.out _).mono ?_); rintro e w' ⟨rfl, rfl⟩)
    | (go_at_call 122; (with_reducible refine (CF.out _).mono ?_); rintro e w2 ⟨rfl, hb2⟩; obtain ⟨hc2, hf2⟩ := bcell hb2; have hz2 : w.heap.size + 1 < w2.heap.size := (by have := hb2.size; simp at this; omega); have hz20 : w.heap.size < w2.heap.size := (by omega); have HB2 : Hid _ := Lib.hid hb2; clear hb2))
  refine bodyPost_ret (v := .tuple #[.agg #[.int .i64 (t : Int), .int .i64 255, .bool false, .int .i64 0], .int .i64 0]) (by simp [results, Tryz.results97, go_sem, hc, hz, hz0, hc2]) rfl ⟨rfl, ?_⟩
  have hb1 := (((Below.refl w.heap.size w).alloc (Nat.le_refl _) _).alloc (by simp) _).trans (HB.out.mono (by simp; omega))
  have hb2 := (hb1.alloc (by omega) (.cells #[.int .i64 (t : Int), .int .i64 (r : Int), .bool false, .int .i64 0] 29)).trans (HB2.out.mono (by simp; omega))
  repeat (first | exact hb2 | refine Below.setCell ?_ (by first | (simp; done) | (simp; omega)) _)
set_option maxRecDepth 100000 in
theorem step_reston (t r : Nat) (w : World) (ht : t ≤ 255) (hr : r ≤ 255) : Calls Tryz.prog 97 #[.agg #[.int .i64 (t : Int), .int .i64 (r : Int), .bool false, .int .i64 0], .int .i64 7] w fun e w' => e = .returned (.tuple #[.agg #[.int .i64 (t : Int), .int .i64 (r : Int), .bool false, .int .i64 0], .int .i64 0]) ∧ Below w.heap.size w w' := by
  have CS : Hid (∀ w, Calls Tryz.prog 108 #[] w fun e w' => ∃ b, e = .returned (.map (some b)) ∧ Looks w' b ∧ Below w.heap.size w w') := Lib.hid csteps_any
  have CR : Hid (∀ w, Calls Tryz.prog 36 #[.agg #[.int .i64 (t : Int), .int .i64 (r : Int), .bool false, .int .i64 0]] w fun e w' => e = .returned (.bool true) ∧ w' = w.alloc (.cells #[.int .i64 (t : Int), .int .i64 (r : Int), .bool false, .int .i64 0] 29)) := Lib.hid (fun w => cright_on t r _ (by omega) (by omega))
  have CF : Hid (∀ w, Calls Tryz.prog 123 #[.agg #[.int .i64 (t : Int), .int .i64 (r : Int), .bool false, .int .i64 0]] w fun e w' => e = .returned (.agg #[.int .i64 (t : Int), .int .i64 (r : Int), .bool false, .int .i64 0]) ∧ Below w.heap.size w w') := Lib.hid (fun w => rest_on t r _)
  go_enter Tryz.func97, Tryz.ntmps97
  go_wp2_with (first
    | (go_at_call 108; (with_reducible refine (CS.out _).mono ?_); rintro e w1 ⟨b, rfl, hL, hb⟩; obtain ⟨hc, hf⟩ := bcell hb; have hlk := hL.at_ 7 123 (by decide) rfl rfl; have hz : w.heap.size + 1 < w1.heap.size := (by have := hb.size; simp at this; omega); have hz0 : w.heap.size < w1.heap.size := (by omega); have HB : Hid _ := Lib.hid hb; clear hL hb)
    | (go_at_call 36; (with_reducible refine (CR.out _).mono ?_); rintro e w' ⟨rfl, rfl⟩)
    | (go_at_call 123; (with_reducible refine (CF.out _).mono ?_); rintro e w2 ⟨rfl, hb2⟩; obtain ⟨hc2, hf2⟩ := bcell hb2; have hz2 : w.heap.size + 1 < w2.heap.size := (by have := hb2.size; simp at this; omega); have hz20 : w.heap.size < w2.heap.size := (by omega); have HB2 : Hid _ := Lib.hid hb2; clear hb2))
  refine bodyPost_ret (v := .tuple #[.agg #[.int .i64 (t : Int), .int .i64 (r : Int), .bool false, .int .i64 0], .int .i64 0]) (by simp [results, Tryz.results97, go_sem, hc, hz, hz0, hc2]) rfl ⟨rfl, ?_⟩
  have hb1 := (((Below.refl w.heap.size w).alloc (Nat.le_refl _) _).alloc (by simp) _).trans (HB.out.mono (by simp; omega))
  have hb2 := (hb1.alloc (by omega) (.cells #[.int .i64 (t : Int), .int .i64 (r : Int), .bool false, .int .i64 0] 29)).trans (HB2.out.mono (by simp; omega))
  repeat (first | exact hb2 | refine Below.setCell ?_ (by first | (simp; done) | (simp; omega)) _)
set_option maxRecDepth 100000 in
theorem step_rest1  (w : World) : Calls Tryz.prog 97 #[.agg #[.int .i64 0, .int .i64 0, .bool true, .int .i64 1], .int .i64 7] w fun e w' => e = .returned (.tuple #[.agg #[.int .i64 0, .int .i64 0, .bool false, .int .i64 0], .int .i64 0]) ∧ Below w.heap.size w w' := by
  have CS : Hid (∀ w, Calls Tryz.prog 108 #[] w fun e w' => ∃ b, e = .returned (.map (some b)) ∧ Looks w' b ∧ Below w.heap.size w w') := Lib.hid csteps_any
  have CR : Hid (∀ w, Calls Tryz.prog 36 #[.agg #[.int .i64 0, .int .i64 0, .bool true, .int .i64 1]] w fun e w' => e = .returned (.bool true) ∧ w' = w.alloc (.cells #[.int .i64 0, .int .i64 0, .bool true, .int .i64 1] 29)) := Lib.hid (fun w => cright_off 1 _ (by omega) (by omega))
  have CF : Hid (∀ w, Calls Tryz.prog 123 #[.agg #[.int .i64 0, .int .i64 0, .bool true, .int .i64 1]] w fun e w' => e = .returned (.agg #[.int .i64 0, .int .i64 0, .bool false, .int .i64 0]) ∧ Below w.heap.size w w') := Lib.hid (fun w => rest_1 _)
  go_enter Tryz.func97, Tryz.ntmps97
  go_wp2_with (first
    | (go_at_call 108; (with_reducible refine (CS.out _).mono ?_); rintro e w1 ⟨b, rfl, hL, hb⟩; obtain ⟨hc, hf⟩ := bcell hb; have hlk := hL.at_ 7 123 (by decide) rfl rfl; have hz : w.heap.size + 1 < w1.heap.size := (by have := hb.size; simp at this; omega); have hz0 : w.heap.size < w1.heap.size := (by omega); have HB : Hid _ := Lib.hid hb; clear hL hb)
    | (go_at_call 36; (with_reducible refine (CR.out _).mono ?_); rintro e w' ⟨rfl, rfl⟩)
    | (go_at_call 123; (with_reducible refine (CF.out _).mono ?_); rintro e w2 ⟨rfl, hb2⟩; obtain ⟨hc2, hf2⟩ := bcell hb2; have hz2 : w.heap.size + 1 < w2.heap.size := (by have := hb2.size; simp at this; omega); have hz20 : w.heap.size < w2.heap.size := (by omega); have HB2 : Hid _ := Lib.hid hb2; clear hb2))
  refine bodyPost_ret (v := .tuple #[.agg #[.int .i64 0, .int .i64 0, .bool false, .int .i64 0], .int .i64 0]) (by simp [results, Tryz.results97, go_sem, hc, hz, hz0, hc2]) rfl ⟨rfl, ?_⟩
  have hb1 := (((Below.refl w.heap.size w).alloc (Nat.le_refl _) _).alloc (by simp) _).trans (HB.out.mono (by simp; omega))
  have hb2 := (hb1.alloc (by omega) (.cells #[.int .i64 0, .int .i64 0, .bool true, .int .i64 1] 29)).trans (HB2.out.mono (by simp; omega))
  repeat (first | exact hb2 | refine Below.setCell ?_ (by first | (simp; done) | (simp; omega)) _)
set_option maxRecDepth 100000 in
theorem step_rest2 (n : Nat) (w : World) (h1 : 1 ≤ n) (hn : n ≤ 127) : Calls Tryz.prog 97 #[.agg #[.int .i64 0, .int .i64 0, .bool true, .int .i64 ((n : Int) + 1)], .int .i64 7] w fun e w' => e = .returned (.tuple #[.agg #[.int .i64 0, .int .i64 0, .bool true, .int .i64 (n : Int)], .int .i64 0]) ∧ Below w.heap.size w w' := by
  have CS : Hid (∀ w, Calls Tryz.prog 108 #[] w fun e w' => ∃ b, e = .returned (.map (some b)) ∧ Looks w' b ∧ Below w.heap.size w w') := Lib.hid csteps_any
  have CR : Hid (∀ w, Calls Tryz.prog 36 #[.agg #[.int .i64 0, .int .i64 0, .bool true, .int .i64 ((n : Int) + 1)]] w fun e w' => e = .returned (.bool true) ∧ w' = w.alloc (.cells #[.int .i64 0, .int .i64 0, .bool true, .int .i64 ((n : Int) + 1)] 29)) := Lib.hid (fun w => cright_off (n + 1) _ (by omega) (by omega))
  have CF : Hid (∀ w, Calls Tryz.prog 123 #[.agg #[.int .i64 0, .int .i64 0, .bool true, .int .i64 ((n : Int) + 1)]] w fun e w' => e = .returned (.agg #[.int .i64 0, .int .i64 0, .bool true, .int .i64 (n : Int)]) ∧ Below w.heap.size w w') := Lib.hid (fun w => rest_2 n _ h1 hn)
  go_enter Tryz.func97, Tryz.ntmps97
  go_wp2_with (first
    | (go_at_call 108; (with_reducible refine (CS.out _).mono ?_); rintro e w1 ⟨b, rfl, hL, hb⟩; obtain ⟨hc, hf⟩ := bcell hb; have hlk := hL.at_ 7 123 (by decide) rfl rfl; have hz : w.heap.size + 1 < w1.heap.size := (by have := hb.size; simp at this; omega); have hz0 : w.heap.size < w1.heap.size := (by omega); have HB : Hid _ := Lib.hid hb; clear hL hb)
    | (go_at_call 36; (with_reducible refine (CR.out _).mono ?_); rintro e w' ⟨rfl, rfl⟩)
    | (go_at_call 123; (with_reducible refine (CF.out _).mono ?_); rintro e w2 ⟨rfl, hb2⟩; obtain ⟨hc2, hf2⟩ := bcell hb2; have hz2 : w.heap.size + 1 < w2.heap.size := (by have := hb2.size; simp at this; omega); have hz20 : w.heap.size < w2.heap.size := (by omega); have HB2 : Hid _ := Lib.hid hb2; clear hb2))
  refine bodyPost_ret (v := .tuple #[.agg #[.int .i64 0, .int .i64 0, .bool true, .int .i64 (n : Int)], .int .i64 0]) (by simp [results, Tryz.results97, go_sem, hc, hz, hz0, hc2]) rfl ⟨rfl, ?_⟩
  have hb1 := (((Below.refl w.heap.size w).alloc (Nat.le_refl _) _).alloc (by simp) _).trans (HB.out.mono (by simp; omega))
  have hb2 := (hb1.alloc (by omega) (.cells #[.int .i64 0, .int .i64 0, .bool true, .int .i64 ((n : Int) + 1)] 29)).trans (HB2.out.mono (by simp; omega))
  repeat (first | exact hb2 | refine Below.setCell ?_ (by first | (simp; done) | (simp; omega)) _)
set_option maxRecDepth 100000 in
theorem step_off1 (n : Nat) (w : World) (h1 : 1 ≤ n) (hn : n ≤ 128) : Calls Tryz.prog 97 #[.agg #[.int .i64 0, .int .i64 0, .bool true, .int .i64 (n : Int)], .int .i64 1] w fun e w' => e = .returned (.tuple #[.agg #[.int .i64 0, .int .i64 0, .bool true, .int .i64 (n : Int)], .int .i64 0]) ∧ Below w.heap.size w w' := by
  have CS : Hid (∀ w, Calls Tryz.prog 108 #[] w fun e w' => ∃ b, e = .returned (.map (some b)) ∧ Looks w' b ∧ Below w.heap.size w w') := Lib.hid csteps_any
  have CR : Hid (∀ w, Calls Tryz.prog 36 #[.agg #[.int .i64 0, .int .i64 0, .bool true, .int .i64 (n : Int)]] w fun e w' => e = .returned (.bool true) ∧ w' = w.alloc (.cells #[.int .i64 0, .int .i64 0, .bool true, .int .i64 (n : Int)] 29)) := Lib.hid (fun w => cright_off n _ h1 hn)
  go_enter Tryz.func97, Tryz.ntmps97
  go_wp2_with (first
    | (go_at_call 108; (with_reducible refine (CS.out _).mono ?_); rintro e w1 ⟨b, rfl, hL, hb⟩; obtain ⟨hc, hf⟩ := bcell hb; have hlk := hL.at_ 1 117 (by decide) rfl rfl; have hz : w.heap.size + 1 < w1.heap.size := (by have := hb.size; simp at this; omega); have hz0 : w.heap.size < w1.heap.size := (by omega); have HB : Hid _ := Lib.hid hb; clear hL hb)
    | (go_at_call 36; (with_reducible refine (CR.out _).mono ?_); rintro e w' ⟨rfl, rfl⟩))
  refine bodyPost_ret (v := .tuple #[.agg #[.int .i64 0, .int .i64 0, .bool true, .int .i64 (n : Int)], .int .i64 0]) (by simp [results, Tryz.results97, go_sem, hc, hz]) rfl ⟨rfl, ?_⟩
  have hb1 := (((Below.refl w.heap.size w).alloc (Nat.le_refl _) _).alloc (by simp) _).trans (HB.out.mono (by simp; omega))
  repeat (first | exact hb1 | refine Below.setCell ?_ (by first | (simp; done) | (simp; omega)) _ | refine Below.alloc ?_ (by first | (simp; done) | (simp; omega)) _)
set_option maxRecDepth 100000 in
theorem step_off2 (n : Nat) (w : World) (h1 : 1 ≤ n) (hn : n ≤ 128) : Calls Tryz.prog 97 #[.agg #[.int .i64 0, .int .i64 0, .bool true, .int .i64 (n : Int)], .int .i64 2] w fun e w' => e = .returned (.tuple #[.agg #[.int .i64 0, .int .i64 0, .bool true, .int .i64 (n : Int)], .int .i64 0]) ∧ Below w.heap.size w w' := by
  have CS : Hid (∀ w, Calls Tryz.prog 108 #[] w fun e w' => ∃ b, e = .returned (.map (some b)) ∧ Looks w' b ∧ Below w.heap.size w w') := Lib.hid csteps_any
  have CR : Hid (∀ w, Calls Tryz.prog 36 #[.agg #[.int .i64 0, .int .i64 0, .bool true, .int .i64 (n : Int)]] w fun e w' => e = .returned (.bool true) ∧ w' = w.alloc (.cells #[.int .i64 0, .int .i64 0, .bool true, .int .i64 (n : Int)] 29)) := Lib.hid (fun w => cright_off n _ h1 hn)
  go_enter Tryz.func97, Tryz.ntmps97
  go_wp2_with (first
    | (go_at_call 108; (with_reducible refine (CS.out _).mono ?_); rintro e w1 ⟨b, rfl, hL, hb⟩; obtain ⟨hc, hf⟩ := bcell hb; have hlk := hL.at_ 2 118 (by decide) rfl rfl; have hz : w.heap.size + 1 < w1.heap.size := (by have := hb.size; simp at this; omega); have hz0 : w.heap.size < w1.heap.size := (by omega); have HB : Hid _ := Lib.hid hb; clear hL hb)
    | (go_at_call 36; (with_reducible refine (CR.out _).mono ?_); rintro e w' ⟨rfl, rfl⟩))
  refine bodyPost_ret (v := .tuple #[.agg #[.int .i64 0, .int .i64 0, .bool true, .int .i64 (n : Int)], .int .i64 0]) (by simp [results, Tryz.results97, go_sem, hc, hz]) rfl ⟨rfl, ?_⟩
  have hb1 := (((Below.refl w.heap.size w).alloc (Nat.le_refl _) _).alloc (by simp) _).trans (HB.out.mono (by simp; omega))
  repeat (first | exact hb1 | refine Below.setCell ?_ (by first | (simp; done) | (simp; omega)) _ | refine Below.alloc ?_ (by first | (simp; done) | (simp; omega)) _)
set_option maxRecDepth 100000 in
theorem step_off3 (n : Nat) (w : World) (h1 : 1 ≤ n) (hn : n ≤ 128) : Calls Tryz.prog 97 #[.agg #[.int .i64 0, .int .i64 0, .bool true, .int .i64 (n : Int)], .int .i64 3] w fun e w' => e = .returned (.tuple #[.agg #[.int .i64 0, .int .i64 0, .bool true, .int .i64 (n : Int)], .int .i64 0]) ∧ Below w.heap.size w w' := by
  have CS : Hid (∀ w, Calls Tryz.prog 108 #[] w fun e w' => ∃ b, e = .returned (.map (some b)) ∧ Looks w' b ∧ Below w.heap.size w w') := Lib.hid csteps_any
  have CR : Hid (∀ w, Calls Tryz.prog 36 #[.agg #[.int .i64 0, .int .i64 0, .bool true, .int .i64 (n : Int)]] w fun e w' => e = .returned (.bool true) ∧ w' = w.alloc (.cells #[.int .i64 0, .int .i64 0, .bool true, .int .i64 (n : Int)] 29)) := Lib.hid (fun w => cright_off n _ h1 hn)
  go_enter Tryz.func97, Tryz.ntmps97
  go_wp2_with (first
    | (go_at_call 108; (with_reducible refine (CS.out _).mono ?_); rintro e w1 ⟨b, rfl, hL, hb⟩; obtain ⟨hc, hf⟩ := bcell hb; have hlk := hL.at_ 3 119 (by decide) rfl rfl; have hz : w.heap.size + 1 < w1.heap.size := (by have := hb.size; simp at this; omega); have hz0 : w.heap.size < w1.heap.size := (by omega); have HB : Hid _ := Lib.hid hb; clear hL hb)
    | (go_at_call 36; (with_reducible refine (CR.out _).mono ?_); rintro e w' ⟨rfl, rfl⟩))
  refine bodyPost_ret (v := .tuple #[.agg #[.int .i64 0, .int .i64 0, .bool true, .int .i64 (n : Int)], .int .i64 0]) (by simp [results, Tryz.results97, go_sem, hc, hz]) rfl ⟨rfl, ?_⟩
  have hb1 := (((Below.refl w.heap.size w).alloc (Nat.le_refl _) _).alloc (by simp) _).trans (HB.out.mono (by simp; omega))
  repeat (first | exact hb1 | refine Below.setCell ?_ (by first | (simp; done) | (simp; omega)) _ | refine Below.alloc ?_ (by first | (simp; done) | (simp; omega)) _)
set_option maxRecDepth 100000 in
theorem step_off4 (n : Nat) (w : World) (h1 : 1 ≤ n) (hn : n ≤ 128) : Calls Tryz.prog 97 #[.agg #[.int .i64 0, .int .i64 0, .bool true, .int .i64 (n : Int)], .int .i64 4] w fun e w' => e = .returned (.tuple #[.agg #[.int .i64 0, .int .i64 0, .bool true, .int .i64 (n : Int)], .int .i64 0]) ∧ Below w.heap.size w w' := by
  have CS : Hid (∀ w, Calls Tryz.prog 108 #[] w fun e w' => ∃ b, e = .returned (.map (some b)) ∧ Looks w' b ∧ Below w.heap.size w w') := Lib.hid csteps_any
  have CR : Hid (∀ w, Calls Tryz.prog 36 #[.agg #[.int .i64 0, .int .i64 0, .bool true, .int .i64 (n : Int)]] w fun e w' => e = .returned (.bool true) ∧ w' = w.alloc (.cells #[.int .i64 0, .int .i64 0, .bool true, .int .i64 (n : Int)] 29)) := Lib.hid (fun w => cright_off n _ h1 hn)
  go_enter Tryz.func97, Tryz.ntmps97
  go_wp2_with (first
    | (go_at_call 108; (with_reducible refine (CS.out _).mono ?_); rintro e w1 ⟨b, rfl, hL, hb⟩; obtain ⟨hc, hf⟩ := bcell hb; have hlk := hL.at_ 4 120 (by decide) rfl rfl; have hz : w.heap.size + 1 < w1.heap.size := (by have := hb.size; simp at this; omega); have hz0 : w.heap.size < w1.heap.size := (by omega); have HB : Hid _ := Lib.hid hb; clear hL hb)
    | (go_at_call 36; (with_reducible refine (CR.out _).mono ?_); rintro e w' ⟨rfl, rfl⟩))
  refine bodyPost_ret (v := .tuple #[.agg #[.int .i64 0, .int .i64 0, .bool true, .int .i64 (n : Int)], .int .i64 0]) (by simp [results, Tryz.results97, go_sem, hc, hz]) rfl ⟨rfl, ?_⟩
  have hb1 := (((Below.refl w.heap.size w).alloc (Nat.le_refl _) _).alloc (by simp) _).trans (HB.out.mono (by simp; omega))
  repeat (first | exact hb1 | refine Below.setCell ?_ (by first | (simp; done) | (simp; omega)) _ | refine Below.alloc ?_ (by first | (simp; done) | (simp; omega)) _)
set_option maxRecDepth 100000 in
theorem step_off5 (n : Nat) (w : World) (h1 : 1 ≤ n) (hn : n ≤ 128) : Calls Tryz.prog 97 #[.agg #[.int .i64 0, .int .i64 0, .bool true, .int .i64 (n : Int)], .int .i64 5] w fun e w' => e = .returned (.tuple #[.agg #[.int .i64 0, .int .i64 0, .bool true, .int .i64 (n : Int)], .int .i64 0]) ∧ Below w.heap.size w w' := by
  have CS : Hid (∀ w, Calls Tryz.prog 108 #[] w fun e w' => ∃ b, e = .returned (.map (some b)) ∧ Looks w' b ∧ Below w.heap.size w w') := Lib.hid csteps_any
  have CR : Hid (∀ w, Calls Tryz.prog 36 #[.agg #[.int .i64 0, .int .i64 0, .bool true, .int .i64 (n : Int)]] w fun e w' => e = .returned (.bool true) ∧ w' = w.alloc (.cells #[.int .i64 0, .int .i64 0, .bool true, .int .i64 (n : Int)] 29)) := Lib.hid (fun w => cright_off n _ h1 hn)
  go_enter Tryz.func97, Tryz.ntmps97
  go_wp2_with (first
    | (go_at_call 108; (with_reducible refine (CS.out _).mono ?_); rintro e w1 ⟨b, rfl, hL, hb⟩; obtain ⟨hc, hf⟩ := bcell hb; have hlk := hL.at_ 5 119 (by decide) rfl rfl; have hz : w.heap.size + 1 < w1.heap.size := (by have := hb.size; simp at this; omega); have hz0 : w.heap.size < w1.heap.size := (by omega); have HB : Hid _ := Lib.hid hb; clear hL hb)
    | (go_at_call 36; (with_reducible refine (CR.out _).mono ?_); rintro e w' ⟨rfl, rfl⟩))
  refine bodyPost_ret (v := .tuple #[.agg #[.int .i64 0, .int .i64 0, .bool true, .int .i64 (n : Int)], .int .i64 0]) (by simp [results, Tryz.results97, go_sem, hc, hz]) rfl ⟨rfl, ?_⟩
  have hb1 := (((Below.refl w.heap.size w).alloc (Nat.le_refl _) _).alloc (by simp) _).trans (HB.out.mono (by simp; omega))
  repeat (first | exact hb1 | refine Below.setCell ?_ (by first | (simp; done) | (simp; omega)) _ | refine Below.alloc ?_ (by first | (simp; done) | (simp; omega)) _)
set_option maxRecDepth 100000 in
theorem step_off6 (n : Nat) (w : World) (h1 : 1 ≤ n) (hn : n ≤ 128) : Calls Tryz.prog 97 #[.agg #[.int .i64 0, .int .i64 0, .bool true, .int .i64 (n : Int)], .int .i64 6] w fun e w' => e = .returned (.tuple #[.agg #[.int .i64 0, .int .i64 0, .bool true, .int .i64 (n : Int)], .int .i64 0]) ∧ Below w.heap.size w w' := by
  have CS : Hid (∀ w, Calls Tryz.prog 108 #[] w fun e w' => ∃ b, e = .returned (.map (some b)) ∧ Looks w' b ∧ Below w.heap.size w w') := Lib.hid csteps_any
  have CR : Hid (∀ w, Calls Tryz.prog 36 #[.agg #[.int .i64 0, .int .i64 0, .bool true, .int .i64 (n : Int)]] w fun e w' => e = .returned (.bool true) ∧ w' = w.alloc (.cells #[.int .i64 0, .int .i64 0, .bool true, .int .i64 (n : Int)] 29)) := Lib.hid (fun w => cright_off n _ h1 hn)
  go_enter Tryz.func97, Tryz.ntmps97
  go_wp2_with (first
    | (go_at_call 108; (with_reducible refine (CS.out _).mono ?_); rintro e w1 ⟨b, rfl, hL, hb⟩; obtain ⟨hc, hf⟩ := bcell hb; have hlk := hL.at_ 6 122 (by decide) rfl rfl; have hz : w.heap.size + 1 < w1.heap.size := (by have := hb.size; simp at this; omega); have hz0 : w.heap.size < w1.heap.size := (by omega); have HB : Hid _ := Lib.hid hb; clear hL hb)
    | (go_at_call 36; (with_reducible refine (CR.out _).mono ?_); rintro e w' ⟨rfl, rfl⟩))
  refine bodyPost_ret (v := .tuple #[.agg #[.int .i64 0, .int .i64 0, .bool true, .int .i64 (n : Int)], .int .i64 0]) (by simp [results, Tryz.results97, go_sem, hc, hz]) rfl ⟨rfl, ?_⟩
  have hb1 := (((Below.refl w.heap.size w).alloc (Nat.le_refl _) _).alloc (by simp) _).trans (HB.out.mono (by simp; omega))
  repeat (first | exact hb1 | refine Below.setCell ?_ (by first | (simp; done) | (simp; omega)) _ | refine Below.alloc ?_ (by first | (simp; done) | (simp; omega)) _)
end Go.Proofs.YtcaeobkaoebndaaGreat
