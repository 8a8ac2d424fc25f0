/- The walks of package stuff's Step and of the reference's. -/
import Derived.Test.YtcaeobkaoebndaaGreatJ6
namespace Go.Proofs.YtcaeobkaoebndaaGreat
open Go.RowKit Go.Lib

set_option maxHeartbeats 400000 in
theorem stp_no (b c : Nat) (n : Int) (w : World) (h : (B.mayB b n && B.bitB c) = false) :
    Calls Tryz.prog 91 #[.agg #[.int .u8 b, .int .i64 n], .int .u8 c] w fun e w' => e = .returned (.tuple #[.agg #[.int .u8 0, .int .i64 0], .int .i64 0, .int .i64 1]) ∧ Below w.heap.size w w' := by
  have CR : Hid (∀ w, Calls Tryz.prog 63 #[.agg #[.int .u8 b, .int .i64 n]] w fun e w' => e = .returned (.bool (B.mayB b n)) ∧ w' = w.alloc (.cells #[.int .u8 b, .int .i64 n] 31)) := Lib.hid (fun w => right3_exact b n w)
  have CB : Hid (∀ w, Calls Tryz.prog 81 #[.int .u8 c] w fun e w' => e = .returned (.bool (B.bitB c)) ∧ w = w') := Lib.hid (fun w => isBit_any c w)
  obtain ⟨p, hp⟩ : ∃ p, p = B.mayB b n := ⟨_, rfl⟩
  obtain ⟨q, hq⟩ : ∃ p, p = B.bitB c := ⟨_, rfl⟩
  rw [← hp] at h CR
  rw [← hq] at h CB
  clear hp hq
  cases p
  · clear h
    go_enter Tryz.func91, Tryz.ntmps91
    go_wp2_with (first
      | (go_at_call 63; (with_reducible refine (CR.out _).mono ?_); rintro e w' ⟨rfl, rfl⟩)
      | (go_at_call 81; (with_reducible refine (CB.out _).mono ?_); rintro e w' ⟨rfl, rfl⟩))
    (refine bodyPost_ret (v := .tuple #[.agg #[.int .u8 0, .int .i64 0], .int .i64 0, .int .i64 1]) (by simp [results, Tryz.results91, go_sem]) rfl ⟨rfl, ?_⟩)
    repeat (first | exact Below.refl _ _ | refine Below.setCell ?_ (by first | (simp; done) | (simp; omega)) _ | refine Below.alloc ?_ (by first | (simp; done) | (simp; omega)) _)
  · cases q
    · clear h
      go_enter Tryz.func91, Tryz.ntmps91
      go_wp2_with (first
        | (go_at_call 63; (with_reducible refine (CR.out _).mono ?_); rintro e w' ⟨rfl, rfl⟩)
        | (go_at_call 81; (with_reducible refine (CB.out _).mono ?_); rintro e w' ⟨rfl, rfl⟩))
      (refine bodyPost_ret (v := .tuple #[.agg #[.int .u8 0, .int .i64 0], .int .i64 0, .int .i64 1]) (by simp [results, Tryz.results91, go_sem]) rfl ⟨rfl, ?_⟩)
      repeat (first | exact Below.refl _ _ | refine Below.setCell ?_ (by first | (simp; done) | (simp; omega)) _ | refine Below.alloc ?_ (by first | (simp; done) | (simp; omega)) _)
    · cases h

set_option maxHeartbeats 400000 in
theorem stp_err (b c n : Nat) (w : World) (hp : B.mayB b n = true) (hq : B.bitB c = true) (h : c = b) (h5 : n = 5) :
    Calls Tryz.prog 91 #[.agg #[.int .u8 b, .int .i64 n], .int .u8 c] w fun e w' => e = .returned (.tuple #[.agg #[.int .u8 b, .int .i64 n], .int .i64 3, .int .i64 0]) ∧ Below w.heap.size w w' := by
  have CR : Hid (∀ w, Calls Tryz.prog 63 #[.agg #[.int .u8 b, .int .i64 n]] w fun e w' => e = .returned (.bool true) ∧ w' = w.alloc (.cells #[.int .u8 b, .int .i64 n] 31)) := Lib.hid (fun w => hp ▸ right3_exact b n w)
  have CB : Hid (∀ w, Calls Tryz.prog 81 #[.int .u8 c] w fun e w' => e = .returned (.bool true) ∧ w = w') := Lib.hid (fun w => hq ▸ isBit_any c w)
  have CT : Hid (∀ w g, Two w g (.int .u8 b) (.int .i64 n) 127 → Calls Tryz.prog 105 #[.pointer (some ⟨g, 0, none⟩), .int .u8 c] w fun e w' => e = .returned (.int .i64 3) ∧ w' = w) := Lib.hid (fun w g hB => take_err b n c g w hB h h5)
  clear hp hq h h5
  go_enter Tryz.func91, Tryz.ntmps91
  go_wp2_with (first
    | (go_at_call 63; (with_reducible refine (CR.out _).mono ?_); rintro e w' ⟨rfl, rfl⟩)
    | (go_at_call 81; (with_reducible refine (CB.out _).mono ?_); rintro e w' ⟨rfl, rfl⟩)
    | (go_at_call 105; (with_reducible refine (CT.out _ _ (two_new' _ _ _ _ _ (by simp))).mono ?_); rintro e w' ⟨rfl, rfl⟩))
  (refine bodyPost_ret (v := .tuple #[.agg #[.int .u8 b, .int .i64 n], .int .i64 3, .int .i64 0]) (by simp [results, Tryz.results91, go_sem]) rfl ⟨rfl, ?_⟩)
  repeat (first | exact Below.refl _ _ | refine Below.setCell ?_ (by first | (simp; done) | (simp; omega)) _ | refine Below.alloc ?_ (by first | (simp; done) | (simp; omega)) _)

set_option maxHeartbeats 400000 in
theorem stp_more (b c n : Nat) (w : World) (hp : B.mayB b n = true) (hq : B.bitB c = true) (h : c = b) (h5 : n < 5) :
    Calls Tryz.prog 91 #[.agg #[.int .u8 b, .int .i64 n], .int .u8 c] w fun e w' => e = .returned (.tuple #[.agg #[.int .u8 b, .int .i64 ((n : Int) + 1)], .int .i64 1, .int .i64 0]) ∧ Below w.heap.size w w' := by
  have CR : Hid (∀ w, Calls Tryz.prog 63 #[.agg #[.int .u8 b, .int .i64 n]] w fun e w' => e = .returned (.bool true) ∧ w' = w.alloc (.cells #[.int .u8 b, .int .i64 n] 31)) := Lib.hid (fun w => hp ▸ right3_exact b n w)
  have CB : Hid (∀ w, Calls Tryz.prog 81 #[.int .u8 c] w fun e w' => e = .returned (.bool true) ∧ w = w') := Lib.hid (fun w => hq ▸ isBit_any c w)
  have CT : Hid (∀ w g, Two w g (.int .u8 b) (.int .i64 n) 127 → Calls Tryz.prog 105 #[.pointer (some ⟨g, 0, none⟩), .int .u8 c] w fun e w' => e = .returned (.int .i64 1) ∧ w' = w.setCell ⟨g, 1, none⟩ (.int .i64 ((n : Int) + 1))) := Lib.hid (fun w g hB => take_more b n c g w hB h h5)
  clear hp hq h h5
  go_enter Tryz.func91, Tryz.ntmps91
  go_wp2_with (first
    | (go_at_call 63; (with_reducible refine (CR.out _).mono ?_); rintro e w' ⟨rfl, rfl⟩)
    | (go_at_call 81; (with_reducible refine (CB.out _).mono ?_); rintro e w' ⟨rfl, rfl⟩)
    | (go_at_call 105; (with_reducible refine (CT.out _ _ (two_new' _ _ _ _ _ (by simp))).mono ?_); rintro e w' ⟨rfl, rfl⟩))
  (refine bodyPost_ret (v := .tuple #[.agg #[.int .u8 b, .int .i64 ((n : Int) + 1)], .int .i64 1, .int .i64 0]) (by simp [results, Tryz.results91, go_sem]) rfl ⟨rfl, ?_⟩)
  repeat (first | exact Below.refl _ _ | refine Below.setCell ?_ (by first | (simp; done) | (simp; omega)) _ | refine Below.alloc ?_ (by first | (simp; done) | (simp; omega)) _)

set_option maxHeartbeats 400000 in
theorem stp_put (b c n : Nat) (w : World) (hp : B.mayB b n = true) (hq : B.bitB c = true) (h : c ≠ b) (h5 : n = 5) :
    Calls Tryz.prog 91 #[.agg #[.int .u8 b, .int .i64 n], .int .u8 c] w fun e w' => e = .returned (.tuple #[.agg #[.int .u8 c, .int .i64 1], .int .i64 2, .int .i64 0]) ∧ Below w.heap.size w w' := by
  have CR : Hid (∀ w, Calls Tryz.prog 63 #[.agg #[.int .u8 b, .int .i64 n]] w fun e w' => e = .returned (.bool true) ∧ w' = w.alloc (.cells #[.int .u8 b, .int .i64 n] 31)) := Lib.hid (fun w => hp ▸ right3_exact b n w)
  have CB : Hid (∀ w, Calls Tryz.prog 81 #[.int .u8 c] w fun e w' => e = .returned (.bool true) ∧ w = w') := Lib.hid (fun w => hq ▸ isBit_any c w)
  have CT : Hid (∀ w g, Two w g (.int .u8 b) (.int .i64 n) 127 → Calls Tryz.prog 105 #[.pointer (some ⟨g, 0, none⟩), .int .u8 c] w fun e w' => e = .returned (.int .i64 2) ∧ w' = (w.setCell ⟨g, 0, none⟩ (.int .u8 c)).setCell ⟨g, 1, none⟩ (.int .i64 1)) := Lib.hid (fun w g hB => by have := take_one b n c g w hB h; rwa [if_pos h5] at this)
  clear hp hq h h5
  go_enter Tryz.func91, Tryz.ntmps91
  go_wp2_with (first
    | (go_at_call 63; (with_reducible refine (CR.out _).mono ?_); rintro e w' ⟨rfl, rfl⟩)
    | (go_at_call 81; (with_reducible refine (CB.out _).mono ?_); rintro e w' ⟨rfl, rfl⟩)
    | (go_at_call 105; (with_reducible refine (CT.out _ _ (two_new' _ _ _ _ _ (by simp))).mono ?_); rintro e w' ⟨rfl, rfl⟩))
  (refine bodyPost_ret (v := .tuple #[.agg #[.int .u8 c, .int .i64 1], .int .i64 2, .int .i64 0]) (by simp [results, Tryz.results91, go_sem]) rfl ⟨rfl, ?_⟩)
  repeat (first | exact Below.refl _ _ | refine Below.setCell ?_ (by first | (simp; done) | (simp; omega)) _ | refine Below.alloc ?_ (by first | (simp; done) | (simp; omega)) _)

set_option maxHeartbeats 400000 in
theorem stp_data (b c n : Nat) (w : World) (hp : B.mayB b n = true) (hq : B.bitB c = true) (h : c ≠ b) (h5 : n ≠ 5) :
    Calls Tryz.prog 91 #[.agg #[.int .u8 b, .int .i64 n], .int .u8 c] w fun e w' => e = .returned (.tuple #[.agg #[.int .u8 c, .int .i64 1], .int .i64 1, .int .i64 0]) ∧ Below w.heap.size w w' := by
  have CR : Hid (∀ w, Calls Tryz.prog 63 #[.agg #[.int .u8 b, .int .i64 n]] w fun e w' => e = .returned (.bool true) ∧ w' = w.alloc (.cells #[.int .u8 b, .int .i64 n] 31)) := Lib.hid (fun w => hp ▸ right3_exact b n w)
  have CB : Hid (∀ w, Calls Tryz.prog 81 #[.int .u8 c] w fun e w' => e = .returned (.bool true) ∧ w = w') := Lib.hid (fun w => hq ▸ isBit_any c w)
  have CT : Hid (∀ w g, Two w g (.int .u8 b) (.int .i64 n) 127 → Calls Tryz.prog 105 #[.pointer (some ⟨g, 0, none⟩), .int .u8 c] w fun e w' => e = .returned (.int .i64 1) ∧ w' = (w.setCell ⟨g, 0, none⟩ (.int .u8 c)).setCell ⟨g, 1, none⟩ (.int .i64 1)) := Lib.hid (fun w g hB => by have := take_one b n c g w hB h; rwa [if_neg h5] at this)
  clear hp hq h h5
  go_enter Tryz.func91, Tryz.ntmps91
  go_wp2_with (first
    | (go_at_call 63; (with_reducible refine (CR.out _).mono ?_); rintro e w' ⟨rfl, rfl⟩)
    | (go_at_call 81; (with_reducible refine (CB.out _).mono ?_); rintro e w' ⟨rfl, rfl⟩)
    | (go_at_call 105; (with_reducible refine (CT.out _ _ (two_new' _ _ _ _ _ (by simp))).mono ?_); rintro e w' ⟨rfl, rfl⟩))
  (refine bodyPost_ret (v := .tuple #[.agg #[.int .u8 c, .int .i64 1], .int .i64 1, .int .i64 0]) (by simp [results, Tryz.results91, go_sem]) rfl ⟨rfl, ?_⟩)
  repeat (first | exact Below.refl _ _ | refine Below.setCell ?_ (by first | (simp; done) | (simp; omega)) _ | refine Below.alloc ?_ (by first | (simp; done) | (simp; omega)) _)

/-- what Step answers, in one -/
theorem stp_any (b c n : Nat) (w : World) (hp : B.mayB b n = true) (hq : B.bitB c = true) :
    Calls Tryz.prog 91 #[.agg #[.int .u8 b, .int .i64 n], .int .u8 c] w fun e w' => e = .returned (.tuple #[.agg #[.int .u8 (B.kn (b, n) c).1, .int .i64 (B.kn (b, n) c).2], .int .i64 (B.kind (b, n) c), .int .i64 0]) ∧ Below w.heap.size w w' := by
  have hn : n ≤ 5 := by simp [B.mayB] at hp; omega
  by_cases h : c = b
  · by_cases h5 : n = 5
    · rw [B.kind_err h h5, B.kn_err h h5]; exact stp_err b c n w hp hq h h5
    · rw [B.kind_more h h5, B.kn_more h h5]; subst h; exact stp_more c c n w hp hq rfl (by omega)
  · by_cases h5 : n = 5
    · rw [B.kind_put h h5, B.kn_one h]; exact stp_put b c n w hp hq h h5
    · rw [B.kind_data h h5, B.kn_one h]; exact stp_data b c n w hp hq h h5

end Go.Proofs.YtcaeobkaoebndaaGreat
