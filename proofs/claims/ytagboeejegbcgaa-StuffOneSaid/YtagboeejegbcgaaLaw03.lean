/- What layer 3's laws call beside the program: alive; and what rows Stuff and Unstuff answer, in the laws' own cases. -/
import Derived.Test.YtagboeejegbcgaaStuff
import Derived.Test.YtagboeejegbcgaaRefRight
namespace Go.Proofs.Ytagboeejegbcgaa
open Go.RowKit Go.Lib

theorem right_alive : B.right ⟨#[49, 49, 49, 49, 49, 48, 48, 48, 48, 48]⟩ = true := by decide
theorem stfS_alive : B.stfS ⟨#[49, 49, 49, 49, 49, 48, 48, 48, 48, 48]⟩ = ⟨#[49, 49, 49, 49, 49, 48, 48, 48, 48, 48, 49, 48]⟩ := by decide
theorem stuff_alive (w : World) : Calls Try.prog 14 #[.string ⟨#[49, 49, 49, 49, 49, 48, 48, 48, 48, 48]⟩] w fun e w' => e = .returned (.tuple #[.string ⟨#[49, 49, 49, 49, 49, 48, 48, 48, 48, 48, 49, 48]⟩, .int .i64 0]) ∧ Below w.heap.size w w' := by
  have := stuff_yes ⟨#[49, 49, 49, 49, 49, 48, 48, 48, 48, 48]⟩ w right_alive (by rw [stfS_alive]; decide)
  rwa [stfS_alive] at this

set_option maxHeartbeats 400000 in
theorem alive_any (w : World) : Calls Try.prog 12 #[] w fun e w' => e = .returned (.bool true) ∧ Below w.heap.size w w' := by
  go_enter Try.func12, Try.ntmps12
  go_wp2_with (go_at_call 14; (with_reducible refine (stuff_alive _).mono ?_); rintro e w' ⟨rfl, hb⟩)
  go_ret
  exact ⟨rfl, hb⟩

theorem of_list (s : ByteArray) : (⟨s.data.toList.toArray⟩ : ByteArray) = s := by
  apply ByteArray.ext; simp
theorem list_of (l : List UInt8) : (⟨l.toArray⟩ : ByteArray).data.toList = l := by simp
theorem right_of_all {s : ByteArray} (h : s.size ≤ 4000) (ha : s.data.toList.all B.okc = true) : B.right s = true := by
  unfold B.right; rw [ha]; simp [h]

theorem stfS_le (t : ByteArray) (hr : B.right t = true) : t.size ≤ (B.stfS t).size ∧ 4 * ((B.stfS t).size - t.size) ≤ t.size + 1 := by
  have := B.stf_length (B.right_all hr)
  rw [B.size_len] at this
  rw [B.stfS_size]; omega
theorem stfS_right (t : ByteArray) (hr : B.right t = true) (h : (B.stfS t).size ≤ 4000) : B.right (B.stfS t) = true :=
  right_of_all h (B.stf_all (B.right_all hr))
/-- a row that is stuffed is unstuffed as it was -/
theorem back_any (t : ByteArray) (w : World) (hr : B.right t = true) (h : (B.stfS t).size ≤ 4000) :
    Calls Try.prog 15 #[.string (B.stfS t)] w fun e w' => e = .returned (.tuple #[.string t, .int .i64 0]) ∧ Below w.heap.size w w' := by
  have hu := B.ust_stf (B.right_all hr)
  have h4 := B.stf_le (B.right_all hr)
  rw [← B.stfS_list] at hu
  have := unstuff_yes (B.stfS t) w (stfS_right t hr h) (B.stf t.data.toList).1.1 (B.stf t.data.toList).1.2 t.data.toList hu (by omega)
  rwa [of_list] at this
/-- what is unstuffed of a row, stuffed, is the row -/
theorem again_any (t : ByteArray) (x n : Nat) (d : List UInt8) (w : World) (hr : B.right t = true) (hu : B.ust t.data.toList = some ((x, n), d)) (hn : n ≠ 5) :
    Calls Try.prog 14 #[.string ⟨d.toArray⟩] w fun e w' => e = .returned (.tuple #[.string t, .int .i64 0]) ∧ Below w.heap.size w w' := by
  have h4 := B.right_size hr
  obtain ⟨ha, hl⟩ := B.ust_all (B.right_all hr) _ _ hu
  rw [B.size_len] at hl
  have hs := (B.stf_ust (B.right_all hr) _ _ hu).1 hn
  have e : B.stfS ⟨d.toArray⟩ = t := by
    unfold B.stfS; rw [list_of, hs, of_list]
  have hr' : B.right ⟨d.toArray⟩ = true := right_of_all (by simp [ByteArray.size]; omega) (by rw [list_of]; exact ha)
  have := stuff_yes ⟨d.toArray⟩ w hr' (by rw [e]; exact h4)
  rwa [e] at this
end Go.Proofs.Ytagboeejegbcgaa
