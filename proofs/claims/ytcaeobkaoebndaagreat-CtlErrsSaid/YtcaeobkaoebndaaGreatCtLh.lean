/- Layer 7: the law CtlErrs, whole. -/
import Derived.Test.YtcaeobkaoebndaaGreatCtLe
import Derived.Test.YtcaeobkaoebndaaGreatCtLg
namespace Go.Proofs.YtcaeobkaoebndaaGreat
open Go.RowKit Go.Lib
theorem errs_any (f : FX) (z : Int) (w : World) : Calls Tryz.prog 6 #[.agg (frA f), .int .i64 z] w fun e w' => e = .returned (.bool true) ∧ Below w.heap.size w w' := by
  cases hm : f.cut.may
  · exact errs_no f z w f.cut rfl hm
  · obtain ⟨F, hf, hF⟩ := FX.of_may hm
    obtain ⟨a, ha, ha8⟩ := rng9 z
    rcases Nat.eq_zero_or_pos a with h0 | h0
    · subst h0
      exact errs_zero f f.cut z w F rfl hF hf ha ha8 rfl
    · exact errs_pos f f.cut z w F rfl hF hf a ha ha8 h0
end Go.Proofs.YtcaeobkaoebndaaGreat
