/- The walks of package stuff's methods full and take, of isBit and Right; and of the reference's Right and Step. -/
import Derived.Test.YtkkibcjndgfmfaaTwo
import Derived.Test.YtkkibcjndgfmfaaPlain
namespace Go.Proofs.Ytkkibcjndgfmfaa
open Go.RowKit Go.Lib

theorem mayB_of {x n : Nat} (h : B.may (x, n)) : B.mayB x n = true := by
  unfold B.may at h; simp only at h; simp only [B.mayB, decide_eq_true_eq]; omega
theorem bitB_of {c : UInt8} (h : B.okc c = true) : B.bitB c.toNat = true := by
  simp only [B.bitB, decide_eq_true_eq]; exact (B.okc_iff c).1 h

end Go.Proofs.Ytkkibcjndgfmfaa
