/- Layer 6: alive, the reference's Right, and the laws' walks. -/
import Derived.Test.YthgbfidghhlldaaCn2
import Derived.Test.YthgbfidghhlldaaRowIn
import Derived.Deep.CutRange
import Derived.LoopTactic
namespace Go.Proofs.Ythgbfidghhlldaa
open Go.RowKit Go.Lib Go.Maps

theorem alive6_any (w : World) : Calls Try.prog 8 #[] w fun e w' => e = .returned (.bool true) ∧ Below w.heap.size w w' := by
  have CS : Hid (∀ w, Calls Try.prog 7 #[.agg #[.int .i64 250, .int .i64 0, .bool false, .int .i64 0], .int .i64 3] w fun e w' => e = .returned (.tuple #[.agg #[.int .i64 0, .int .i64 0, .bool true, .int .i64 128], .int .i64 0]) ∧ Below w.heap.size w w') := Lib.hid (fun w => step_err3hi 250 0 w (by omega) (by omega) (by omega))
  go_enter Try.func8, Try.ntmps8
  go_wp2_with (go_at_call 7; (with_reducible refine (CS.out _).mono ?_); rintro e w1 ⟨rfl, hb⟩)
  go_ret
  exact ⟨rfl, hb.alloc hb.size _⟩
/-- may a count be? -/
def mayC (t r : Int) (o : Bool) (n : Int) : Prop := (0 ≤ t ∧ t ≤ 255 ∧ 0 ≤ r ∧ r ≤ 255) ∧ ((o = true ∧ t = 0 ∧ r = 0 ∧ 0 < n ∧ n < 129) ∨ (o = false ∧ n = 0))
set_option maxRecDepth 100000 in
theorem refr6_on (t r : Nat) (w : World) (ht : t ≤ 255) (hr : r ≤ 255) : Calls Try.prog 9 #[.agg #[.int .i64 (t : Int), .int .i64 (r : Int), .bool false, .int .i64 0]] w fun e w' => e = .returned (.bool true) ∧ w' = w.alloc (.cells #[.int .i64 (t : Int), .int .i64 (r : Int), .bool false, .int .i64 0] 25) := by
  go_enter Try.func9, Try.ntmps9
  go_wp2
  go_ret
  exact ⟨rfl, rfl⟩
set_option maxRecDepth 100000 in
theorem refr6_off (n : Nat) (w : World) (h1 : 1 ≤ n) (hn : n ≤ 128) : Calls Try.prog 9 #[.agg #[.int .i64 0, .int .i64 0, .bool true, .int .i64 (n : Int)]] w fun e w' => e = .returned (.bool true) ∧ w' = w.alloc (.cells #[.int .i64 0, .int .i64 0, .bool true, .int .i64 (n : Int)] 25) := by
  have h' : decide ((n : Int) < 129) = true := by simp; omega
  go_enter Try.func9, Try.ntmps9
  go_wp2
  go_ret
  exact ⟨rfl, rfl⟩
theorem refr6_no (t r : Int) (o : Bool) (n : Int) (w : World) (h : ¬ mayC t r o n) : Calls Try.prog 9 #[.agg #[.int .i64 t, .int .i64 r, .bool o, .int .i64 n]] w fun e w' => e = .returned (.bool false) ∧ w' = w.alloc (.cells #[.int .i64 t, .int .i64 r, .bool o, .int .i64 n] 25) := by
  unfold mayC at h
  by_cases h1 : t < 0
  · clear h
    go_enter Try.func9, Try.ntmps9
    go_wp2
    go_ret
    exact ⟨rfl, rfl⟩
  by_cases h2 : 255 < t
  · clear h
    go_enter Try.func9, Try.ntmps9
    go_wp2
    go_ret
    exact ⟨rfl, rfl⟩
  by_cases h3 : r < 0
  · clear h
    go_enter Try.func9, Try.ntmps9
    go_wp2
    go_ret
    exact ⟨rfl, rfl⟩
  by_cases h4 : 255 < r
  · clear h
    go_enter Try.func9, Try.ntmps9
    go_wp2
    go_ret
    exact ⟨rfl, rfl⟩
  cases o
  · have h5 : (n == 0) = false := by
      rw [beq_eq_false_iff_ne]; intro e; exact h ⟨⟨by omega, by omega, by omega, by omega⟩, .inr ⟨rfl, e⟩⟩
    clear h
    go_enter Try.func9, Try.ntmps9
    go_wp2
    go_ret
    exact ⟨rfl, rfl⟩
  · by_cases h5 : t = 0
    · subst h5
      by_cases h6 : r = 0
      · subst h6
        by_cases h7 : 0 < n
        · have h8 : ¬ n < 129 := fun h8 => h ⟨⟨by omega, by omega, by omega, by omega⟩, .inl ⟨rfl, rfl, rfl, h7, h8⟩⟩
          clear h h1 h2 h3 h4
          go_enter Try.func9, Try.ntmps9
          go_wp2
          go_ret
          exact ⟨rfl, rfl⟩
        · clear h h1 h2 h3 h4
          go_enter Try.func9, Try.ntmps9
          go_wp2
          go_ret
          exact ⟨rfl, rfl⟩
      · have h7 : (r == 0) = false := by rw [beq_eq_false_iff_ne]; exact h6
        clear h h1 h2 h6
        go_enter Try.func9, Try.ntmps9
        go_wp2
        go_ret
        exact ⟨rfl, rfl⟩
    · have h7 : (t == 0) = false := by rw [beq_eq_false_iff_ne]; exact h5
      clear h h5
      go_enter Try.func9, Try.ntmps9
      go_wp2
      go_ret
      exact ⟨rfl, rfl⟩
end Go.Proofs.Ythgbfidghhlldaa
