/- The walk of layer 3's law StuffBack. -/
import Derived.Test.YtagboeejegbcgaaLaw03
namespace Go.Proofs.Ytagboeejegbcgaa
open Go.RowKit Go.Lib

set_option maxHeartbeats 1000000 in
theorem back_no (s t : ByteArray) (w : World) (htz : t.size ≤ 3000) (ht : (3000 < s.size ∧ s.extract 0 3000 = t) ∨ (s.size ≤ 3000 ∧ s = t)) (hr : B.right t = false) :
    Calls Try.prog 5 #[.string s] w fun e w' => e = .returned (.bool true) ∧ Below w.heap.size w w' := by
  have CA := Lib.hid (fun w => stuff_no t w (by unfold maxLen; omega) hr)
  have CR := Lib.hid (fun w => refright_any t w (by unfold maxLen; omega))
  have hB : Below w.heap.size w w := Below.refl _ _
  rcases ht with ⟨h1, ht⟩ | ⟨h1, rfl⟩
  all_goals
    go_enter Try.func5, Try.ntmps5
    go_wp2_with (first
      | (go_at_call 14; (with_reducible refine (CA.out _).mono ?_); rintro e w' ⟨rfl, rfl⟩)
      | (go_at_call 16; (with_reducible refine (CR.out _).mono ?_); rintro e w' ⟨rfl, rfl⟩)
      | (go_at_call 12; (with_reducible refine (alive_any _).mono ?_); rintro e w' ⟨rfl, hb⟩; replace hB := hB.trans (hb.mono hB.size)))
    go_ret
    exact ⟨rfl, hB⟩

set_option maxHeartbeats 1000000 in
theorem back_stop (s t : ByteArray) (k : Int) (w : World) (htz : t.size ≤ 3000) (ht : (3000 < s.size ∧ s.extract 0 3000 = t) ∨ (s.size ≤ 3000 ∧ s = t)) (hr : B.right t = true)
    (CC : Hid (∀ w, Calls Try.prog 15 #[.string t] w fun e w' => e = .returned (.tuple #[.string ⟨#[]⟩, .int .i64 k]) ∧ Below w.heap.size w w')) (hk : (k == 0) = false) :
    Calls Try.prog 5 #[.string s] w fun e w' => e = .returned (.bool true) ∧ Below w.heap.size w w' := by
  have hl := stfS_le t hr
  have CA0 := fun w => stuff_yes t w hr (by omega)
  have CB0 := fun w => back_any t w hr (by omega)
  obtain ⟨a, ha⟩ : ∃ a, a = B.stfS t := ⟨_, rfl⟩
  simp only [← ha] at CA0 CB0
  have CA := Lib.hid CA0
  have CB := Lib.hid CB0
  clear CA0 CB0 ha hl
  have hB : Below w.heap.size w w := Below.refl _ _
  rcases ht with ⟨h1, ht⟩ | ⟨h1, rfl⟩
  all_goals
    go_enter Try.func5, Try.ntmps5
    go_wp2_with (first
      | (go_at_call 14; (with_reducible refine (CA.out _).mono ?_); rintro e w' ⟨rfl, hb⟩; replace hB := hB.trans (hb.mono hB.size))
      | (go_at_call 15; (with_reducible refine (CB.out _).mono ?_); rintro e w' ⟨rfl, hb⟩; replace hB := hB.trans (hb.mono hB.size))
      | (go_at_call 15; (with_reducible refine (CC.out _).mono ?_); rintro e w' ⟨rfl, hb⟩; replace hB := hB.trans (hb.mono hB.size))
      | (go_at_call 12; (with_reducible refine (alive_any _).mono ?_); rintro e w' ⟨rfl, hb⟩; replace hB := hB.trans (hb.mono hB.size)))
    go_ret
    exact ⟨rfl, hB⟩

set_option maxHeartbeats 1000000 in
theorem back_yes (s t u : ByteArray) (w : World) (htz : t.size ≤ 3000) (ht : (3000 < s.size ∧ s.extract 0 3000 = t) ∨ (s.size ≤ 3000 ∧ s = t)) (hr : B.right t = true)
    (CC : Hid (∀ w, Calls Try.prog 15 #[.string t] w fun e w' => e = .returned (.tuple #[.string u, .int .i64 0]) ∧ Below w.heap.size w w'))
    (CD : Hid (∀ w, Calls Try.prog 14 #[.string u] w fun e w' => e = .returned (.tuple #[.string t, .int .i64 0]) ∧ Below w.heap.size w w')) :
    Calls Try.prog 5 #[.string s] w fun e w' => e = .returned (.bool true) ∧ Below w.heap.size w w' := by
  have hl := stfS_le t hr
  have CA0 := fun w => stuff_yes t w hr (by omega)
  have CB0 := fun w => back_any t w hr (by omega)
  obtain ⟨a, ha⟩ : ∃ a, a = B.stfS t := ⟨_, rfl⟩
  simp only [← ha] at CA0 CB0
  have CA := Lib.hid CA0
  have CB := Lib.hid CB0
  clear CA0 CB0 ha hl
  have hB : Below w.heap.size w w := Below.refl _ _
  rcases ht with ⟨h1, ht⟩ | ⟨h1, rfl⟩
  all_goals
    go_enter Try.func5, Try.ntmps5
    go_wp2_with (first
      | (go_at_call 14; (with_reducible refine (CA.out _).mono ?_); rintro e w' ⟨rfl, hb⟩; replace hB := hB.trans (hb.mono hB.size))
      | (go_at_call 14; (with_reducible refine (CD.out _).mono ?_); rintro e w' ⟨rfl, hb⟩; replace hB := hB.trans (hb.mono hB.size))
      | (go_at_call 15; (with_reducible refine (CB.out _).mono ?_); rintro e w' ⟨rfl, hb⟩; replace hB := hB.trans (hb.mono hB.size))
      | (go_at_call 15; (with_reducible refine (CC.out _).mono ?_); rintro e w' ⟨rfl, hb⟩; replace hB := hB.trans (hb.mono hB.size))
      | (go_at_call 12; (with_reducible refine (alive_any _).mono ?_); rintro e w' ⟨rfl, hb⟩; replace hB := hB.trans (hb.mono hB.size)))
    go_ret
    exact ⟨rfl, hB⟩

theorem backLaw_any (s : ByteArray) (w : World) :
    Calls Try.prog 5 #[.string s] w fun e w' => e = .returned (.bool true) ∧ Below w.heap.size w w' := by
  obtain ⟨t, htz, ht⟩ := cut_at s 3000
  cases hr : B.right t
  · exact back_no s t w htz ht hr
  · rcases hu : B.ust t.data.toList with _ | ⟨⟨x, n⟩, d⟩
    · exact back_stop s t 10 w htz ht hr (Lib.hid fun w => unstuff_err t w hr hu) rfl
    · by_cases hn : n = 5
      · exact back_stop s t 3 w htz ht hr (Lib.hid fun w => unstuff_short t w hr x n d hu hn) rfl
      · exact back_yes s t ⟨d.toArray⟩ w htz ht hr (Lib.hid fun w => unstuff_yes t w hr x n d hu hn) (Lib.hid fun w => again_any t x n d w hr hu hn)
end Go.Proofs.Ytagboeejegbcgaa
