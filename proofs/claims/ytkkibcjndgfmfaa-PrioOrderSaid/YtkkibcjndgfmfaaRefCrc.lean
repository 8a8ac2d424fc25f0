/- The walk of the reference's Of (layer 2): dividing on paper. -/
import Derived.Test.YtkkibcjndgfmfaaUtil
import Derived.Test.YtkkibcjndgfmfaaRefOf
import Derived.Test.YtkkibcjndgfmfaaPlain
namespace Go.Proofs.Ytkkibcjndgfmfaa
open Go.RowKit Go.Lib

theorem Try.info5b : (Try.prog.info? 5).map (fun i => (i.zero, i.size, i.bytes)) = some (some (.int .u8 0), 1, 1) := by kernel_rfl
theorem refof_p : ∃ p : ByteArray, Hid (∀ w, Calls Try.prog 32 #[.int .u64 50585, .int .i64 16] w fun e w' => e = .returned (.string p) ∧ w = w') ∧ p.size = 16 ∧ (∀ k (h : k < p.size), ((p[k].toNat : Int) - 48) = ((B.divisor k).toNat : Int)) ∧ (∀ k (h : k < p.size), 48 ≤ p[k].toNat ∧ p[k].toNat ≤ 49) :=
  ⟨B.ofn 50585 16, Lib.hid fun w => refof_any 50585 16 w (by omega) (by omega), B.ofn_size _ _, B.divisor_at, B.divisor_byte⟩
theorem val_u32 {a b : Int} (h : a = b) : Value.int .u32 a = .int .u32 b := by rw [h]
end Go.Proofs.Ytkkibcjndgfmfaa
