/- The walks of package crc's sumOf, of what goes through a row, and of the literal that it is handed; then of Of, Check and Frame. -/
import Derived.Test.YtkkibcjndgfmfaaStep
import Derived.Test.YtkkibcjndgfmfaaRight
import Derived.Test.YtkkibcjndgfmfaaOf
import Derived.OneCell
namespace Go.Proofs.Ytkkibcjndgfmfaa
open Go.RowKit Go.Lib

/-- a sum in fifteen bits -/
theorem of_15 (n : Nat) (w : World) (h : n < 32768) : Calls Try.prog 52 #[.int .u64 n, .int .i64 15] w fun e w' => e = .returned (.tuple #[.string (B.ofn n 15), .int .i64 0]) ∧ Below w.heap.size w w' :=
  of_yes n 15 w (by omega) (by omega)

end Go.Proofs.Ytkkibcjndgfmfaa
