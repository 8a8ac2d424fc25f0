/- The walk of package stuff's filled: a row, stuffed. -/
import Derived.Test.YtkkibcjndgfmfaaTake
namespace Go.Proofs.Ytkkibcjndgfmfaa
open Go.RowKit Go.Lib

theorem B.other_xor {c : UInt8} (h : B.okc c = true) : bits BinOp.xor IntKind.u8 (bits BinOp.xor IntKind.u8 (c.toNat : Int) 48) 49 = ((B.other c).toNat : Int) := by
  rcases B.okc_cases h with rfl | rfl <;> decide

end Go.Proofs.Ytkkibcjndgfmfaa
