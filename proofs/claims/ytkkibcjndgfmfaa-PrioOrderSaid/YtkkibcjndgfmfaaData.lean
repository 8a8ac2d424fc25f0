/- The walk of package stuff's data: the bits of a row that are its data; then of Stuff and Unstuff. -/
import Derived.Test.YtkkibcjndgfmfaaFilled
import Derived.Test.YtkkibcjndgfmfaaRight
namespace Go.Proofs.Ytkkibcjndgfmfaa
open Go.RowKit Go.Lib

def B.ustS (s : ByteArray) : ByteArray := match B.ust s.data.toList with | none => ⟨#[]⟩ | some p => ⟨p.2.toArray⟩
def B.ustK (s : ByteArray) : Bool := (B.ust s.data.toList).isSome
end Go.Proofs.Ytkkibcjndgfmfaa
