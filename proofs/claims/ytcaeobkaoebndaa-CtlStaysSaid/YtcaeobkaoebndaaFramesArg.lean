/- A row of frames as a law's argument: as the frame of a law hands it. -/
import Derived.Test.YtcaeobkaoebndaaFramesAll
namespace Go.Proofs.Ytcaeobkaoebndaa.five
open Go.ChangeShapes Go.WideShapes Go.RowKit Go.Deep Go.WideElems Go.Maps Go.Joins
set_option maxRecDepth 100000 in
theorem frames_arg2 {H : Type} {enc : TypeId × Value → H} {w : World} {base base2 : Nat} {spare : Nat → Bool} {held : Bool} {v : Value} {d : DataW H} {p : List MemPlace} (hv : Value.okWide Try.prog w .any base 22 v)
    (h : DataW.Trod enc Try.prog w base2 spare held 22 v d p) : ∃ A n cap gs, v = .slice A n cap ∧ FAll w A n cap gs := by
  obtain ⟨A, n, cap, rfl⟩ := okWide_slice Try.underlying22 hv
  obtain ⟨fuel, hf⟩ := h
  obtain ⟨A', n', c', gs, hcs, hIn⟩ := in_frames_all hf
  simp [Value.cells] at hcs
  obtain ⟨rfl, rfl, rfl⟩ := hcs
  exact ⟨_, _, _, gs, rfl, hIn⟩
end Go.Proofs.Ytcaeobkaoebndaa.five
