/- What layer 2's laws call beside the program: alive. -/
import Derived.Test.YtdgobggepcmojaaSum
namespace Go.Proofs.Ytdgobggepcmojaa
open Go.RowKit Go.Lib

theorem sum_1 : B.sum ⟨#[49]⟩ = 17817 := by decide
theorem right_1 : B.right ⟨#[49]⟩ = true := by decide
theorem crcof_1 (w : World) : Calls Try.prog 8 #[.string ⟨#[49]⟩] w fun e w' => e = .returned (.tuple #[.int .u32 17817, .int .i64 0]) ∧ Below w.heap.size w w' := by
  have := crcof_yes ⟨#[49]⟩ w right_1
  rwa [sum_1] at this

set_option maxHeartbeats 400000 in
theorem alive_any (w : World) : Calls Try.prog 15 #[] w fun e w' => e = .returned (.bool true) ∧ Below w.heap.size w w' := by
  go_enter Try.func15, Try.ntmps15
  go_wp2_with (go_at_call 8; (with_reducible refine (crcof_1 _).mono ?_); rintro e w' ⟨rfl, hb⟩)
  go_ret
  exact ⟨rfl, hb⟩
end Go.Proofs.Ytdgobggepcmojaa
