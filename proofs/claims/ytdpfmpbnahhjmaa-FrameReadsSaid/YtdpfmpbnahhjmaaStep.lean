/- The walk of package crc's Step: what it returns, as a plain function of its arguments. -/
import Derived.Test.YtdpfmpbnahhjmaaUtil
import Derived.Test.YtdpfmpbnahhjmaaSum1
namespace Go.Proofs.Ytdpfmpbnahhjmaa
open Go.RowKit Go.Lib

theorem ret_u32 {a b : Int} (h : a = b) : Ending.returned (.int .u32 a) = .returned (.int .u32 b) := by rw [h]

set_option maxHeartbeats 400000 in
theorem step_any (n c : Nat) (w : World) (hn : n < 4294967296) :
    Calls Try.prog 61 #[.int .u32 n, .int .u8 c] w fun e w' => e = .returned (.int .u32 (B.stepN n (decide (c = 49)))) ∧ w = w' := by
  go_enter Try.func61, Try.ntmps61
  go_wp2
  · rename_i h
    have e := Lib.hid (B.step_yes n c hn h)
    clear h
    go_ret
    exact ⟨ret_u32 e.out, rfl⟩
  · rename_i h
    have e := Lib.hid (B.step_no n c hn h)
    clear h
    go_ret
    exact ⟨ret_u32 e.out, rfl⟩

end Go.Proofs.Ytdpfmpbnahhjmaa
