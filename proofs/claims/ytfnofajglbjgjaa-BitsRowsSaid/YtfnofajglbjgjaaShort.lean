/- The walk of the law's own cut, short. -/
import Derived.Test.YtfnofajglbjgjaaLaw01
import Derived.Test.YtfnofajglbjgjaaAnd
import Derived.Test.YtfnofajglbjgjaaShelf
namespace Go.Proofs.Ytfnofajglbjgjaa
open Go.RowKit Go.Lib

/-- a text's first m bytes, as the law cuts it -/
def cutS (s : ByteArray) (m : Int) : ByteArray := s.extract 0 (min (s.size : Int) m).toNat
theorem cutS_size (s : ByteArray) (m : Nat) : (cutS s m).size = min m s.size := by
  unfold cutS; simp only [ByteArray.size_extract]; omega

set_option maxHeartbeats 400000 in
theorem short_any (s : ByteArray) (w : World) : Calls Try.prog 16 #[.string s] w fun e w' => e = .returned (.string (cutS s 300)) ∧ w = w' := by
  go_enter Try.func16, Try.ntmps16
  go_wp2
  go_ret
  exact ⟨rfl, rfl⟩

end Go.Proofs.Ytfnofajglbjgjaa
