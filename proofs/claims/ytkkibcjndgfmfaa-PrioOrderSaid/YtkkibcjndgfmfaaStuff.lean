/- The walks of package stuff's Stuff and Unstuff. -/
import Derived.Test.YtkkibcjndgfmfaaData
namespace Go.Proofs.Ytkkibcjndgfmfaa
open Go.RowKit Go.Lib

def B.stfS (s : ByteArray) : ByteArray := ⟨(B.stf s.data.toList).2.toArray⟩
theorem B.stfS_list (s : ByteArray) : (B.stfS s).data.toList = (B.stf s.data.toList).2 := rfl
theorem B.stfS_size (s : ByteArray) : (B.stfS s).size = (B.stf s.data.toList).2.length := by simp [B.stfS, ByteArray.size]

end Go.Proofs.Ytkkibcjndgfmfaa
