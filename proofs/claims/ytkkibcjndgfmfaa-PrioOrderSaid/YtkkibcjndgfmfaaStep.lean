/- The walk of package crc's Step: what it returns, as a plain function of its arguments. -/
import Derived.Test.YtkkibcjndgfmfaaUtil
import Derived.Test.YtkkibcjndgfmfaaPlain
namespace Go.Proofs.Ytkkibcjndgfmfaa
open Go.RowKit Go.Lib

theorem ret_u32 {a b : Int} (h : a = b) : Ending.returned (.int .u32 a) = .returned (.int .u32 b) := by rw [h]

end Go.Proofs.Ytkkibcjndgfmfaa
