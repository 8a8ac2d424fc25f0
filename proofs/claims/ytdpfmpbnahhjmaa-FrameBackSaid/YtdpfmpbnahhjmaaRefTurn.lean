/- The walk of the reference's Turn (layer 1). -/
import Derived.Test.YtdpfmpbnahhjmaaRows
import Derived.WalkKit
import Derived.WalkSpells
import Derived.WalkLawsBesides
import Derived.Deep.QuietTactic
import Derived.BigQuiet
import Derived.WalkSmall
import Derived.Deep.AppendLies
import Derived.Test.YtdpfmpbnahhjmaaUtil
import Derived.Test.YtdpfmpbnahhjmaaTurn1
namespace Go.Proofs.Ytdpfmpbnahhjmaa
open Go.RowKit Go.Lib

set_option maxHeartbeats 1000000 in
theorem refturn_any (s : ByteArray) (k : Nat) (w : World) (hk : k < s.size) (hs : s.size ≤ 4000) (hr : B.right s = true) :
    Calls Try.prog 24 #[.string s, .int .i64 k] w fun e w' => e = .returned (.string (B.turnB s k)) ∧ Below w.heap.size w w' := by
  have hb := B.right_bound hr k hk
  by_cases h48 : s[k].toNat = 48
  · have hh := Lib.hid (B.turnB_eq hk 49 (by rw [UInt8.toNat_inj.1 (show s[k].toNat = (48 : UInt8).toNat from h48)]; rfl))
    have he : ((s[k].toNat : Int) == 48) = true := by simp; omega
    clear h48 hb
    go_enter Try.func24, Try.ntmps24
    go_wp2_with fail
    go_quiet (fail)
    rename_i nq
    go_wp2
    go_ret
    exact ⟨ret_str1 hh.out, below_drewN (Below.refl _ _) nq⟩
  · have hh := Lib.hid (B.turnB_eq hk 48 (by rw [UInt8.toNat_inj.1 (show s[k].toNat = (49 : UInt8).toNat from by show s[k].toNat = 49; omega)]; rfl))
    have he : ((s[k].toNat : Int) == 48) = false := by simp; omega
    clear h48 hb
    go_enter Try.func24, Try.ntmps24
    go_wp2_with fail
    go_quiet (fail)
    rename_i nq
    go_wp2
    go_ret
    exact ⟨ret_str1 hh.out, below_drewN (Below.refl _ _) nq⟩
end Go.Proofs.Ytdpfmpbnahhjmaa
