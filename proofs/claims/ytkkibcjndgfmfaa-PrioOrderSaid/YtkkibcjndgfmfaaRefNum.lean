/- The walk of the reference's Number (layer 1). -/
import Derived.Test.YtkkibcjndgfmfaaTwo
namespace Go.Proofs.Ytkkibcjndgfmfaa
open Go.RowKit Go.Lib

theorem B.num_dbl (m : Nat) (hm : m < 2 ^ 63) : IntKind.u64.wrap (2 * (m : Int)) = ((2 * m : Nat) : Int) := by
  have e : (2 * (m : Int)) = ((2 * m : Nat) : Int) := by omega
  rw [e]; exact IntWalk.u64_in _ (by omega)

end Go.Proofs.Ytkkibcjndgfmfaa
