/- The walk of package crc's Step: what it returns, as a plain function of its arguments. -/
import Derived.Test.YtdgobggepcmojaaUtil
import Derived.Test.YtdgobggepcmojaaSum1
namespace Go.Proofs.Ytdgobggepcmojaa
open Go.RowKit Go.Lib

theorem ret_u32 {a b : Int} (h : a = b) : Ending.returned (.int .u32 a) = .returned (.int .u32 b) := by rw [h]

set_option maxHeartbeats 400000 in
theorem step_any (n c : Nat) (w : World) (hn : n < 4294967296) :
    Calls Try.prog 11 #[.int .u32 n, .int .u8 c] w fun e w' => e = .returned (.int .u32 (B.stepN n (decide (c = 49)))) ∧ w = w' := by
  go_enter Try.func11, Try.ntmps11
  go_wp2
  · rename_i h
    have e := Lib.hid (B.step_yes n c hn h)
    clear h
    go_ret
    exact ⟨ret_u32 e.out, rfl⟩
  · rename_i h
    have e := Lib.hid (B.step_no n c hn h)
    clear h
    go_ret
    exact ⟨ret_u32 e.out, rfl⟩

set_option maxHeartbeats 400000 in
theorem refstep_any (n c : Nat) (w : World) :
    Calls Try.prog 12 #[.int .u32 n, .int .u8 c] w fun e w' => e = .returned (.int .u32 (B.stepN n (decide (c = 49)))) ∧ w = w' := by
  go_enter Try.func12, Try.ntmps12
  go_wp2
  · rename_i h1 h2
    have e := Lib.hid (B.ref_yes h1 h2)
    clear h1 h2
    go_ret
    exact ⟨ret_u32 e.out, rfl⟩
  · rename_i h1 h2
    have e := Lib.hid (B.ref_no h1 h2)
    clear h1 h2
    go_ret
    exact ⟨ret_u32 e.out, rfl⟩
  · rename_i h1 h2
    have e := Lib.hid (B.ref_yes h1 h2)
    clear h1 h2
    go_ret
    exact ⟨ret_u32 e.out, rfl⟩
  · rename_i h1 h2
    have e := Lib.hid (B.ref_no h1 h2)
    clear h1 h2
    go_ret
    exact ⟨ret_u32 e.out, rfl⟩
end Go.Proofs.Ytdgobggepcmojaa
