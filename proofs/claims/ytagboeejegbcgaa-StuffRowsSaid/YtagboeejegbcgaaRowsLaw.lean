/- The walk of layer 3's law StuffRows. -/
import Derived.Test.YtagboeejegbcgaaLaw03
import Derived.Test.YtagboeejegbcgaaRefStuff
namespace Go.Proofs.Ytagboeejegbcgaa
open Go.RowKit Go.Lib

theorem refun_err (t : ByteArray) (w : World) (hr : B.right t = true) (hu : B.ust t.data.toList = none) :
    Calls Try.prog 17 #[.string t] w fun e w' => e = .returned (.tuple #[.string ⟨#[]⟩, .int .i64 10]) ∧ Below w.heap.size w w' := by
  have h4 := B.right_size hr
  refine (refunstuff_any t w (by omega) (B.right_all hr)).mono fun e w' ⟨hb, h⟩ => ?_
  rcases h with ⟨_, h⟩ | ⟨x, d, h, _⟩ | ⟨x, n, d, h, _, _⟩
  · exact ⟨h, hb⟩
  · rw [hu] at h; cases h
  · rw [hu] at h; cases h
theorem refun_short (t : ByteArray) (w : World) (hr : B.right t = true) (x n : Nat) (d : List UInt8) (hu : B.ust t.data.toList = some ((x, n), d)) (hn : n = 5) :
    Calls Try.prog 17 #[.string t] w fun e w' => e = .returned (.tuple #[.string ⟨#[]⟩, .int .i64 3]) ∧ Below w.heap.size w w' := by
  have h4 := B.right_size hr
  refine (refunstuff_any t w (by omega) (B.right_all hr)).mono fun e w' ⟨hb, h⟩ => ?_
  rcases h with ⟨h, _⟩ | ⟨x, d, _, h⟩ | ⟨x, n, d, h, h5, _⟩
  · rw [hu] at h; cases h
  · exact ⟨h, hb⟩
  · rw [hu] at h; cases h; exact absurd hn h5
theorem refun_yes (t : ByteArray) (w : World) (hr : B.right t = true) (x n : Nat) (d : List UInt8) (hu : B.ust t.data.toList = some ((x, n), d)) (hn : n ≠ 5) :
    Calls Try.prog 17 #[.string t] w fun e w' => e = .returned (.tuple #[.string ⟨d.toArray⟩, .int .i64 0]) ∧ Below w.heap.size w w' := by
  have h4 := B.right_size hr
  refine (refunstuff_any t w (by omega) (B.right_all hr)).mono fun e w' ⟨hb, h⟩ => ?_
  rcases h with ⟨h, _⟩ | ⟨x, d, h, _⟩ | ⟨x, n, d, h, h5, he⟩
  · rw [hu] at h; cases h
  · rw [hu] at h; cases h; exact absurd rfl hn
  · rw [hu] at h; cases h; exact ⟨he, hb⟩

set_option maxHeartbeats 1000000 in
theorem rows_no (s t : ByteArray) (w : World) (htz : t.size ≤ 4010) (ht : (4010 < s.size ∧ s.extract 0 4010 = t) ∨ (s.size ≤ 4010 ∧ s = t)) (hr : B.right t = false) :
    Calls Try.prog 4 #[.string s] w fun e w' => e = .returned (.bool true) ∧ Below w.heap.size w w' := by
  have CA := Lib.hid (fun w => stuff_no t w (by unfold maxLen; omega) hr)
  have CB := Lib.hid (fun w => unstuff_no t w (by unfold maxLen; omega) hr)
  have CR := Lib.hid (fun w => refright_any t w (by unfold maxLen; omega))
  have hB : Below w.heap.size w w := Below.refl _ _
  rcases ht with ⟨h1, ht⟩ | ⟨h1, rfl⟩
  all_goals
    go_enter Try.func4, Try.ntmps4
    go_wp2_with (first
      | (go_at_call 14; (with_reducible refine (CA.out _).mono ?_); rintro e w' ⟨rfl, rfl⟩)
      | (go_at_call 15; (with_reducible refine (CB.out _).mono ?_); rintro e w' ⟨rfl, rfl⟩)
      | (go_at_call 16; (with_reducible refine (CR.out _).mono ?_); rintro e w' ⟨rfl, rfl⟩)
      | (go_at_call 12; (with_reducible refine (alive_any _).mono ?_); rintro e w' ⟨rfl, hb⟩; replace hB := hB.trans (hb.mono hB.size)))
    go_ret
    exact ⟨rfl, hB⟩

set_option maxHeartbeats 1000000 in
theorem rows_fits (s t a b : ByteArray) (f : Int) (w : World) (htz : t.size ≤ 4010) (ht : (4010 < s.size ∧ s.extract 0 4010 = t) ∨ (s.size ≤ 4010 ∧ s = t)) (hr : B.right t = true) (h31 : (3100 : Int) < t.size) (ha : (a.size : Int) ≤ 4000)
    (CA : Hid (∀ w, Calls Try.prog 14 #[.string t] w fun e w' => e = .returned (.tuple #[.string a, .int .i64 0]) ∧ Below w.heap.size w w'))
    (CB : Hid (∀ w, Calls Try.prog 15 #[.string t] w fun e w' => e = .returned (.tuple #[.string b, .int .i64 f]) ∧ Below w.heap.size w w'))
    (CC : Hid (∀ w, Calls Try.prog 17 #[.string t] w fun e w' => e = .returned (.tuple #[.string b, .int .i64 f]) ∧ Below w.heap.size w w')) :
    Calls Try.prog 4 #[.string s] w fun e w' => e = .returned (.bool true) ∧ Below w.heap.size w w' := by
  have CR := Lib.hid (fun w => refright_any t w (by unfold maxLen; omega))
  have hB : Below w.heap.size w w := Below.refl _ _
  rcases ht with ⟨h1, ht⟩ | ⟨h1, rfl⟩
  all_goals
    go_enter Try.func4, Try.ntmps4
    go_wp2_with (first
      | (go_at_call 14; (with_reducible refine (CA.out _).mono ?_); rintro e w' ⟨rfl, hb⟩; replace hB := hB.trans (hb.mono hB.size))
      | (go_at_call 15; (with_reducible refine (CB.out _).mono ?_); rintro e w' ⟨rfl, hb⟩; replace hB := hB.trans (hb.mono hB.size))
      | (go_at_call 17; (with_reducible refine (CC.out _).mono ?_); rintro e w' ⟨rfl, hb⟩; replace hB := hB.trans (hb.mono hB.size))
      | (go_at_call 16; (with_reducible refine (CR.out _).mono ?_); rintro e w' ⟨rfl, rfl⟩)
      | (go_at_call 12; (with_reducible refine (alive_any _).mono ?_); rintro e w' ⟨rfl, hb⟩; replace hB := hB.trans (hb.mono hB.size)))
    go_ret
    exact ⟨by simp, hB⟩

set_option maxHeartbeats 1000000 in
theorem rows_long (s t b : ByteArray) (f : Int) (w : World) (htz : t.size ≤ 4010) (ht : (4010 < s.size ∧ s.extract 0 4010 = t) ∨ (s.size ≤ 4010 ∧ s = t)) (hr : B.right t = true) (h31 : (3100 : Int) < t.size)
    (CA : Hid (∀ w, Calls Try.prog 14 #[.string t] w fun e w' => e = .returned (.tuple #[.string ⟨#[]⟩, .int .i64 2]) ∧ Below w.heap.size w w'))
    (CB : Hid (∀ w, Calls Try.prog 15 #[.string t] w fun e w' => e = .returned (.tuple #[.string b, .int .i64 f]) ∧ Below w.heap.size w w'))
    (CC : Hid (∀ w, Calls Try.prog 17 #[.string t] w fun e w' => e = .returned (.tuple #[.string b, .int .i64 f]) ∧ Below w.heap.size w w')) :
    Calls Try.prog 4 #[.string s] w fun e w' => e = .returned (.bool true) ∧ Below w.heap.size w w' := by
  have CR := Lib.hid (fun w => refright_any t w (by unfold maxLen; omega))
  have hB : Below w.heap.size w w := Below.refl _ _
  rcases ht with ⟨h1, ht⟩ | ⟨h1, rfl⟩
  all_goals
    go_enter Try.func4, Try.ntmps4
    go_wp2_with (first
      | (go_at_call 14; (with_reducible refine (CA.out _).mono ?_); rintro e w' ⟨rfl, hb⟩; replace hB := hB.trans (hb.mono hB.size))
      | (go_at_call 15; (with_reducible refine (CB.out _).mono ?_); rintro e w' ⟨rfl, hb⟩; replace hB := hB.trans (hb.mono hB.size))
      | (go_at_call 17; (with_reducible refine (CC.out _).mono ?_); rintro e w' ⟨rfl, hb⟩; replace hB := hB.trans (hb.mono hB.size))
      | (go_at_call 16; (with_reducible refine (CR.out _).mono ?_); rintro e w' ⟨rfl, rfl⟩)
      | (go_at_call 12; (with_reducible refine (alive_any _).mono ?_); rintro e w' ⟨rfl, hb⟩; replace hB := hB.trans (hb.mono hB.size)))
    go_ret
    exact ⟨by simp, hB⟩

set_option maxHeartbeats 1000000 in
theorem rows_short (s t a b : ByteArray) (f : Int) (w : World) (htz : t.size ≤ 4010) (ht : (4010 < s.size ∧ s.extract 0 4010 = t) ∨ (s.size ≤ 4010 ∧ s = t)) (hr : B.right t = true) (h31 : (t.size : Int) ≤ 3100)
    (CA : Hid (∀ w, Calls Try.prog 14 #[.string t] w fun e w' => e = .returned (.tuple #[.string a, .int .i64 0]) ∧ Below w.heap.size w w'))
    (CB : Hid (∀ w, Calls Try.prog 15 #[.string t] w fun e w' => e = .returned (.tuple #[.string b, .int .i64 f]) ∧ Below w.heap.size w w'))
    (CC : Hid (∀ w, Calls Try.prog 17 #[.string t] w fun e w' => e = .returned (.tuple #[.string b, .int .i64 f]) ∧ Below w.heap.size w w'))
    (CD : Hid (∀ w, Calls Try.prog 18 #[.string t] w fun e w' => e = .returned (.string a) ∧ Below w.heap.size w w')) :
    Calls Try.prog 4 #[.string s] w fun e w' => e = .returned (.bool true) ∧ Below w.heap.size w w' := by
  have CR := Lib.hid (fun w => refright_any t w (by unfold maxLen; omega))
  have hB : Below w.heap.size w w := Below.refl _ _
  rcases ht with ⟨h1, ht⟩ | ⟨h1, rfl⟩
  all_goals
    go_enter Try.func4, Try.ntmps4
    go_wp2_with (first
      | (go_at_call 14; (with_reducible refine (CA.out _).mono ?_); rintro e w' ⟨rfl, hb⟩; replace hB := hB.trans (hb.mono hB.size))
      | (go_at_call 15; (with_reducible refine (CB.out _).mono ?_); rintro e w' ⟨rfl, hb⟩; replace hB := hB.trans (hb.mono hB.size))
      | (go_at_call 17; (with_reducible refine (CC.out _).mono ?_); rintro e w' ⟨rfl, hb⟩; replace hB := hB.trans (hb.mono hB.size))
      | (go_at_call 18; (with_reducible refine (CD.out _).mono ?_); rintro e w' ⟨rfl, hb⟩; replace hB := hB.trans (hb.mono hB.size))
      | (go_at_call 16; (with_reducible refine (CR.out _).mono ?_); rintro e w' ⟨rfl, rfl⟩)
      | (go_at_call 12; (with_reducible refine (alive_any _).mono ?_); rintro e w' ⟨rfl, hb⟩; replace hB := hB.trans (hb.mono hB.size)))
    go_ret
    exact ⟨by simp, hB⟩

theorem rows_yes (s t b : ByteArray) (f : Int) (w : World) (htz : t.size ≤ 4010) (ht : (4010 < s.size ∧ s.extract 0 4010 = t) ∨ (s.size ≤ 4010 ∧ s = t)) (hr : B.right t = true)
    (CB : Hid (∀ w, Calls Try.prog 15 #[.string t] w fun e w' => e = .returned (.tuple #[.string b, .int .i64 f]) ∧ Below w.heap.size w w'))
    (CC : Hid (∀ w, Calls Try.prog 17 #[.string t] w fun e w' => e = .returned (.tuple #[.string b, .int .i64 f]) ∧ Below w.heap.size w w')) :
    Calls Try.prog 4 #[.string s] w fun e w' => e = .returned (.bool true) ∧ Below w.heap.size w w' := by
  have hl := stfS_le t hr
  by_cases h31 : t.size ≤ 3100
  · exact rows_short s t (B.stfS t) b f w htz ht hr (by omega) (Lib.hid fun w => stuff_yes t w hr (by omega)) CB CC (Lib.hid fun w => refstuff_any t w h31 (B.right_all hr))
  · by_cases h4 : (B.stfS t).size ≤ 4000
    · exact rows_fits s t (B.stfS t) b f w htz ht hr (by omega) (by omega) (Lib.hid fun w => stuff_yes t w hr h4) CB CC
    · exact rows_long s t b f w htz ht hr (by omega) (Lib.hid fun w => stuff_long t w hr (by omega)) CB CC

theorem rowsLaw_any (s : ByteArray) (w : World) :
    Calls Try.prog 4 #[.string s] w fun e w' => e = .returned (.bool true) ∧ Below w.heap.size w w' := by
  obtain ⟨t, htz, ht⟩ := cut_at s 4010
  cases hr : B.right t
  · exact rows_no s t w htz ht hr
  · rcases hu : B.ust t.data.toList with _ | ⟨⟨x, n⟩, d⟩
    · exact rows_yes s t _ 10 w htz ht hr (Lib.hid fun w => unstuff_err t w hr hu) (Lib.hid fun w => refun_err t w hr hu)
    · by_cases hn : n = 5
      · exact rows_yes s t _ 3 w htz ht hr (Lib.hid fun w => unstuff_short t w hr x n d hu hn) (Lib.hid fun w => refun_short t w hr x n d hu hn)
      · exact rows_yes s t _ 0 w htz ht hr (Lib.hid fun w => unstuff_yes t w hr x n d hu hn) (Lib.hid fun w => refun_yes t w hr x n d hu hn)
end Go.Proofs.Ytagboeejegbcgaa
