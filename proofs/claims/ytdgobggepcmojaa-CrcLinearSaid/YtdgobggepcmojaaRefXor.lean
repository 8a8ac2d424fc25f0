/- The walk of the reference's Xor (layer 2). -/
import Derived.Test.YtdgobggepcmojaaUtil
import Derived.Test.YtdgobggepcmojaaXor1
namespace Go.Proofs.Ytdgobggepcmojaa
open Go.RowKit Go.Lib

set_option maxHeartbeats 1000000 in
theorem refxor_any (s t : ByteArray) (w : World) (h : s.size = t.size) (h4 : s.size ≤ 4000) :
    Calls Try.prog 18 #[.string s, .string t] w fun e w' => e = .returned (.string (B.xorS s t)) ∧ Below w.heap.size w w' := by
  have hB : Below w.heap.size w w := Below.refl _ _
  go_enter Try.func18, Try.ntmps18
  go_wp2
  go_loopw [5, 6] (fun o i wr => ∃ k : Nat, k ≤ s.size ∧ i = .int .i64 k ∧ o = .string (B.xk s t k) ∧ Below w.heap.size w wr) (fun _ i _ => s.size - (intOf i).toNat)
  case atStart => exact ⟨0, Nat.zero_le _, rfl, rfl, hB⟩
  case round =>
    clear hB
    obtain ⟨k, hk, rfl, rfl, hB⟩ := hrel
    have hz := B.xk_size h hk
    by_cases hlt : k < s.size
    · have hlt2 : k < t.size := by omega
      by_cases he : s[k].toNat = t[k].toNat
      · have hn := Lib.hid (B.xk_succ h hlt hlt2 48 (by unfold B.xc; rw [if_pos he]))
        have he2 : ((s[k].toNat : Int) == (t[k].toNat : Int)) = true := by simp; omega
        clear he
        go_wp2_with fail
        go_quiet (fail)
        rename_i nq
        replace hB := below_drewN hB nq
        go_wp2
        go_roundw
        case rel => exact ⟨k + 1, by omega, by go_num, val_str hn.out, hB⟩
        case measure => simp [intOf]; omega
      · have hn := Lib.hid (B.xk_succ h hlt hlt2 49 (by unfold B.xc; rw [if_neg he]))
        have he2 : ((s[k].toNat : Int) == (t[k].toNat : Int)) = false := by simp; omega
        clear he
        go_wp2_with fail
        go_quiet (fail)
        rename_i nq
        replace hB := below_drewN hB nq
        go_wp2
        go_roundw
        case rel => exact ⟨k + 1, by omega, by go_num, val_str hn.out, hB⟩
        case measure => simp [intOf]; omega
    · have hE := Lib.hid (show B.xk s t k = B.xorS s t from by rw [show k = s.size from by omega]; exact B.xk_full h)
      rw [hE.out]
      go_wp2
      go_ret
      exact ⟨rfl, hB⟩
end Go.Proofs.Ytdgobggepcmojaa
