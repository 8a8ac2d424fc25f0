/- The laws' alive (layer 5). -/
import Derived.Test.YtkkibcjndgfmfaaPCon7
import Derived.Outline
namespace Go.Proofs.Ytkkibcjndgfmfaa
open Go.RowKit Go.Lib
attribute [local go_sem ↓] Go.wp_at_zero Go.wp_at_succ

def aliveFs : List FX := [⟨5, false, false, 0, ⟨#[]⟩⟩, ⟨3, false, false, 0, ⟨#[]⟩⟩, ⟨4, false, false, 0, ⟨#[]⟩⟩]
theorem alive_left : leftF aliveFs (by decide) = [1] := by decide +kernel
theorem alive_row (w : World) : RowF (w.alloc (.cells #[.int .u32 5, .bool false, .bool false, .int .i64 0, .string ⟨#[]⟩, .int .u32 3, .bool false, .bool false, .int .i64 0, .string ⟨#[]⟩, .int .u32 4, .bool false, .bool false, .int .i64 0, .string ⟨#[]⟩] 25)) w.heap.size 0 aliveFs := by
  intro i hi
  have hi2 : i = 0 ∨ i = 1 ∨ i = 2 := by have : i < 3 := hi; omega
  rcases hi2 with rfl | rfl | rfl
  all_goals refine ⟨?_, ?_, ?_, ?_, ?_⟩ <;> (rw [World.cell?_alloc_at _ _ _ _ rfl]; rfl)

set_option maxRecDepth 100000 in
set_option maxHeartbeats 1000000 in
theorem alive5_any (w : World) : Calls Try.prog 13 #[] w fun e w' => e = .returned (.bool true) ∧ Below w.heap.size w w' := by
  have CC : Hid (∀ w1, w1 = w.alloc (.cells #[.int .u32 5, .bool false, .bool false, .int .i64 0, .string ⟨#[]⟩, .int .u32 3, .bool false, .bool false, .int .i64 0, .string ⟨#[]⟩, .int .u32 4, .bool false, .bool false, .int .i64 0, .string ⟨#[]⟩] 25) →
      Calls Try.prog 14 #[.slice (some ⟨w.heap.size, 0, none⟩) 3 3] w1 fun e w' => ∃ gl capl vo, e = .returned (.tuple #[.slice (some ⟨gl, 0, none⟩) 1 capl, vo, .int .i64 0]) ∧ w'.cell? ⟨gl, 0, none⟩ = some (.int .i64 1) ∧ Below w.heap.size w w') := Lib.hid (fun w1 e1 => by
    subst e1
    refine (contest_yes w.heap.size 0 3 aliveFs _ (by decide) (alive_row w) (by simp) (by decide) (by decide)).mono ?_
    rintro e w' ⟨vl, vo, rfl, hl, _, hb⟩
    rw [alive_left] at hl
    obtain ⟨gl, capl, rfl, _, _⟩ := own_form hl (own_not_nil hl (by decide))
    exact ⟨gl, capl, vo, rfl, hl.cellAt 0 (by decide), ((Below.refl _ _).alloc (Nat.le_refl _) _).trans (hb.mono (by simp))⟩)
  go_enter Try.func13, Try.ntmps13
  go_wp2_with (go_at_call 14; (with_reducible refine (CC.out _ rfl).mono ?_); rintro e w1 ⟨gl, capl, vo, rfl, hc, hb⟩)
  go_ret
  exact ⟨rfl, hb⟩
end Go.Proofs.Ytkkibcjndgfmfaa
