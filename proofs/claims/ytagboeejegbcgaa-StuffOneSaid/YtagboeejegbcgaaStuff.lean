/- The walks of package stuff's Stuff and Unstuff. -/
import Derived.Test.YtagboeejegbcgaaData
namespace Go.Proofs.Ytagboeejegbcgaa
open Go.RowKit Go.Lib

def B.stfS (s : ByteArray) : ByteArray := ⟨(B.stf s.data.toList).2.toArray⟩
theorem B.stfS_list (s : ByteArray) : (B.stfS s).data.toList = (B.stf s.data.toList).2 := rfl
theorem B.stfS_size (s : ByteArray) : (B.stfS s).size = (B.stf s.data.toList).2.length := by simp [B.stfS, ByteArray.size]

theorem makeFunc_run : ∀ (fn : Fn) (first cap : Array Value) (w : World), (Instr.makeFunc fn first cap).run Try.prog w = .ok (.func fn first cap) w := fun _ _ _ _ => rfl

set_option maxHeartbeats 400000 in
theorem stuff_no (s : ByteArray) (w : World) (hs : s.size ≤ maxLen) (hr : B.right s = false) :
    Calls Try.prog 14 #[.string s] w fun e w' => e = .returned (.tuple #[.string ⟨#[]⟩, .int .i64 1]) ∧ w = w' := by
  go_enter Try.func14, Try.ntmps14
  go_wp2_with (go_at_call 22; (with_reducible refine (right_any _ _ hs).mono ?_); rintro e w' ⟨rfl, rfl⟩)
  go_ret2
  exact ⟨rfl, rfl⟩

set_option maxHeartbeats 400000 in
theorem stuff_long (s : ByteArray) (w : World) (hr : B.right s = true) (hl : 4000 < (B.stfS s).size) :
    Calls Try.prog 14 #[.string s] w fun e w' => e = .returned (.tuple #[.string ⟨#[]⟩, .int .i64 2]) ∧ Below w.heap.size w w' := by
  have hmf := makeFunc_run
  have h4 := B.right_size hr
  have hT := Lib.hid (filled_any s w.heap.size (w.alloc (.cells #[.int .u8 0, .int .i64 0] 40)) h4 (B.right_all hr) (two_new _ _ _ _))
  have hA := Lib.hid (show Below w.heap.size w (w.alloc (.cells #[.int .u8 0, .int .i64 0] 40)) from (Below.refl _ _).alloc (Nat.le_refl _) _)
  rw [show (⟨(B.stf s.data.toList).2.toArray⟩ : ByteArray) = B.stfS s from rfl] at hT
  go_enter Try.func14, Try.ntmps14
  go_wp2_with (first | (go_at_call 22; (with_reducible refine (right_any _ _ (by unfold maxLen; omega)).mono ?_); rintro e w' ⟨rfl, rfl⟩) | (go_at_call 23; (with_reducible refine hT.out.mono ?_); rintro e w' ⟨rfl, hb⟩))
  go_ret2
  exact ⟨rfl, hA.out.trans hb⟩

set_option maxHeartbeats 400000 in
theorem stuff_yes (s : ByteArray) (w : World) (hr : B.right s = true) (hl : (B.stfS s).size ≤ 4000) :
    Calls Try.prog 14 #[.string s] w fun e w' => e = .returned (.tuple #[.string (B.stfS s), .int .i64 0]) ∧ Below w.heap.size w w' := by
  have hmf := makeFunc_run
  have h4 := B.right_size hr
  have hT := Lib.hid (filled_any s w.heap.size (w.alloc (.cells #[.int .u8 0, .int .i64 0] 40)) h4 (B.right_all hr) (two_new _ _ _ _))
  have hA := Lib.hid (show Below w.heap.size w (w.alloc (.cells #[.int .u8 0, .int .i64 0] 40)) from (Below.refl _ _).alloc (Nat.le_refl _) _)
  rw [show (⟨(B.stf s.data.toList).2.toArray⟩ : ByteArray) = B.stfS s from rfl] at hT
  go_enter Try.func14, Try.ntmps14
  go_wp2_with (first | (go_at_call 22; (with_reducible refine (right_any _ _ (by unfold maxLen; omega)).mono ?_); rintro e w' ⟨rfl, rfl⟩) | (go_at_call 23; (with_reducible refine hT.out.mono ?_); rintro e w' ⟨rfl, hb⟩))
  go_ret2
  exact ⟨rfl, hA.out.trans hb⟩

set_option maxHeartbeats 400000 in
theorem unstuff_no (s : ByteArray) (w : World) (hs : s.size ≤ maxLen) (hr : B.right s = false) :
    Calls Try.prog 15 #[.string s] w fun e w' => e = .returned (.tuple #[.string ⟨#[]⟩, .int .i64 1]) ∧ w = w' := by
  go_enter Try.func15, Try.ntmps15
  go_wp2_with (go_at_call 22; (with_reducible refine (right_any _ _ hs).mono ?_); rintro e w' ⟨rfl, rfl⟩)
  go_ret2
  exact ⟨rfl, rfl⟩

set_option maxHeartbeats 400000 in
theorem unstuff_err (s : ByteArray) (w : World) (hr : B.right s = true) (hu : B.ust s.data.toList = none) :
    Calls Try.prog 15 #[.string s] w fun e w' => e = .returned (.tuple #[.string ⟨#[]⟩, .int .i64 10]) ∧ Below w.heap.size w w' := by
  have hmf := makeFunc_run
  have h4 := B.right_size hr
  have hT := data_any s w.heap.size (w.alloc (.cells #[.int .u8 0, .int .i64 0] 40)) h4 (B.right_all hr) (two_new _ _ _ _)
  rw [show B.ustS s = ⟨#[]⟩ from by unfold B.ustS; rw [hu], show B.ustK s = false from by unfold B.ustK; rw [hu]; rfl] at hT
  replace hT := Lib.hid hT
  have hA := Lib.hid (show Below w.heap.size w (w.alloc (.cells #[.int .u8 0, .int .i64 0] 40)) from (Below.refl _ _).alloc (Nat.le_refl _) _)
  go_enter Try.func15, Try.ntmps15
  go_wp2_with (first | (go_at_call 22; (with_reducible refine (right_any _ _ (by unfold maxLen; omega)).mono ?_); rintro e w' ⟨rfl, rfl⟩) | (go_at_call 25; (with_reducible refine hT.out.mono ?_); rintro e w' ⟨rfl, hb, hx⟩; clear hx))
  go_ret2
  exact ⟨rfl, hA.out.trans hb⟩

set_option maxHeartbeats 400000 in
theorem unstuff_short (s : ByteArray) (w : World) (hr : B.right s = true) (x n : Nat) (d : List UInt8) (hu : B.ust s.data.toList = some ((x, n), d)) (hn : n = 5) :
    Calls Try.prog 15 #[.string s] w fun e w' => e = .returned (.tuple #[.string ⟨#[]⟩, .int .i64 3]) ∧ Below w.heap.size w w' := by
  have hmf := makeFunc_run
  have h4 := B.right_size hr
  have hT := data_any s w.heap.size (w.alloc (.cells #[.int .u8 0, .int .i64 0] 40)) h4 (B.right_all hr) (two_new _ _ _ _)
  rw [show B.ustS s = ⟨d.toArray⟩ from by unfold B.ustS; rw [hu], show B.ustK s = true from by unfold B.ustK; rw [hu]; rfl] at hT
  replace hT := Lib.hid hT
  have hA := Lib.hid (show Below w.heap.size w (w.alloc (.cells #[.int .u8 0, .int .i64 0] 40)) from (Below.refl _ _).alloc (Nat.le_refl _) _)
  have hU := Lib.hid hu
  clear hu
  have h5' : decide (n = 5) = true := by simpa using hn
  clear hn
  go_enter Try.func15, Try.ntmps15
  go_wp2_with (first
    | (go_at_call 22; (with_reducible refine (right_any _ _ (by unfold maxLen; omega)).mono ?_); rintro e w' ⟨rfl, rfl⟩)
    | (go_at_call 25; (with_reducible refine hT.out.mono ?_); rintro e w' ⟨rfl, hb, hx⟩; have hX := Lib.hid (full_any _ _ _ _ (hx _ _ hU.out)); clear hx)
    | (go_at_call 24; (with_reducible refine hX.out.mono ?_); rintro e w' ⟨rfl, rfl⟩))
  go_ret2
  exact ⟨rfl, hA.out.trans hb⟩

set_option maxHeartbeats 400000 in
theorem unstuff_yes (s : ByteArray) (w : World) (hr : B.right s = true) (x n : Nat) (d : List UInt8) (hu : B.ust s.data.toList = some ((x, n), d)) (hn : n ≠ 5) :
    Calls Try.prog 15 #[.string s] w fun e w' => e = .returned (.tuple #[.string ⟨d.toArray⟩, .int .i64 0]) ∧ Below w.heap.size w w' := by
  have hmf := makeFunc_run
  have h4 := B.right_size hr
  have hT := data_any s w.heap.size (w.alloc (.cells #[.int .u8 0, .int .i64 0] 40)) h4 (B.right_all hr) (two_new _ _ _ _)
  rw [show B.ustS s = ⟨d.toArray⟩ from by unfold B.ustS; rw [hu], show B.ustK s = true from by unfold B.ustK; rw [hu]; rfl] at hT
  replace hT := Lib.hid hT
  have hA := Lib.hid (show Below w.heap.size w (w.alloc (.cells #[.int .u8 0, .int .i64 0] 40)) from (Below.refl _ _).alloc (Nat.le_refl _) _)
  have hU := Lib.hid hu
  clear hu
  have h5' : decide (n = 5) = false := by simpa using hn
  clear hn
  go_enter Try.func15, Try.ntmps15
  go_wp2_with (first
    | (go_at_call 22; (with_reducible refine (right_any _ _ (by unfold maxLen; omega)).mono ?_); rintro e w' ⟨rfl, rfl⟩)
    | (go_at_call 25; (with_reducible refine hT.out.mono ?_); rintro e w' ⟨rfl, hb, hx⟩; have hX := Lib.hid (full_any _ _ _ _ (hx _ _ hU.out)); clear hx)
    | (go_at_call 24; (with_reducible refine hX.out.mono ?_); rintro e w' ⟨rfl, rfl⟩))
  go_ret2
  exact ⟨rfl, hA.out.trans hb⟩

end Go.Proofs.Ytagboeejegbcgaa
