/-
  No cell of these rows narrows 'for every input' (looked for: loops, veiled, ifaces, maps, wideKeys, modest, calm, conditions, laid).
  DERIVED. THE GIVEN ROWS OF THIS SEAT. 4 by the template 'for every input the law returns true; each argument reads behind the call as it read before'; 0 by the template 'total and deterministic' (their statements: YtkkibcjndgfmfaaTotals.lean).
  GIVEN WITH THE SEED: the statements are not yours to turn. If you find one false, say at which input.
  Laid BY PROGRAM, IN A SANDBOX (cutbox-rows.mjs): the forced cells as the released guide's own fill.sh prints them over the translation d76b80a459745bc2… (all of the seat's roots in one cut). By AI agents, Wed Nov 11 2026. No macro, syntax, notation, axiom, sorry.
-/
import Derived.Test.YtkkibcjndgfmfaaChecked
import GoSem.Claim
import GoSem.ClaimJoined
import GoSem.ClaimMapViews
import Derived.JoinedTies
import Derived.KernelRfl
namespace Go.Proofs.Ytkkibcjndgfmfaa
/- THE CELL 'sum', in the pinned program and in every row, IS THE sha256 OF THE DUMP (.gsa) THAT YtkkibcjndgfmfaaProg.lean LOADS. Nothing in Lean hashes anything: it is a label: what it is worth is what the hold of that sum in a sandbox is worth. -/
noncomputable def Try.pinned : Pinned := { name := "ytkkibcjndgfmfaa", sum := "d76b80a459745bc24d407475b70f10fd4de08432f120c8d8eeba9efdf68f732c", checked := Try.checked }
namespace Rows
def none {H : Type} : Left H := { results := [], args := [] }

/-- 'campanilelaw05.PrioContests': WHATEVER THE INPUT: true; the input reads as it did. -/
def prioContestsSpec : ChangeSpec := { name := "prioContests", fn := fun _ => fun
  | [d1, d2, d3] => { results := [.lit (.bool true)], args := [d1, d2, d3] }
  | _ => none }
def prioContestsRow : OpenClaim := { program := "ytkkibcjndgfmfaa", sum := "d76b80a459745bc24d407475b70f10fd4de08432f120c8d8eeba9efdf68f732c", func := "campanile/campanilelaw05.PrioContests", spec := "prioContests", inPlace := ["internal/abi.NoEscape"], unfollowed := true, recurses := true, apart := false }
def PrioContestsSaid : Prop := prioContestsRow.holds Try.pinned (OpenSpec.ofChange prioContestsSpec)

/-- ITS FALSE NEIGHBOUR: 'it returns false'. Refute it at one input. -/
def prioContestsWrong : ChangeSpec := { name := "prioContests", fn := fun _ => fun
  | [d1, d2, d3] => { results := [.lit (.bool false)], args := [d1, d2, d3] }
  | _ => none }
def PrioContestsWrongFalsely : Prop := prioContestsRow.holds Try.pinned (OpenSpec.ofChange prioContestsWrong)

/-- 'campanilelaw05.PrioLeft': WHATEVER THE INPUT: true; the input reads as it did. -/
def prioLeftSpec : ChangeSpec := { name := "prioLeft", fn := fun _ => fun
  | [d] => { results := [.lit (.bool true)], args := [d] }
  | _ => none }
def prioLeftRow : OpenClaim := { program := "ytkkibcjndgfmfaa", sum := "d76b80a459745bc24d407475b70f10fd4de08432f120c8d8eeba9efdf68f732c", func := "campanile/campanilelaw05.PrioLeft", spec := "prioLeft", inPlace := ["internal/abi.NoEscape"], unfollowed := true, recurses := true, apart := false }
def PrioLeftSaid : Prop := prioLeftRow.holds Try.pinned (OpenSpec.ofChange prioLeftSpec)

/-- ITS FALSE NEIGHBOUR: 'it returns false'. Refute it at one input. -/
def prioLeftWrong : ChangeSpec := { name := "prioLeft", fn := fun _ => fun
  | [d] => { results := [.lit (.bool false)], args := [d] }
  | _ => none }
def PrioLeftWrongFalsely : Prop := prioLeftRow.holds Try.pinned (OpenSpec.ofChange prioLeftWrong)

/-- 'campanilelaw05.PrioOrder': WHATEVER THE INPUT: true; the input reads as it did. -/
def prioOrderSpec : ChangeSpec := { name := "prioOrder", fn := fun _ => fun
  | [d] => { results := [.lit (.bool true)], args := [d] }
  | _ => none }
def prioOrderRow : OpenClaim := { program := "ytkkibcjndgfmfaa", sum := "d76b80a459745bc24d407475b70f10fd4de08432f120c8d8eeba9efdf68f732c", func := "campanile/campanilelaw05.PrioOrder", spec := "prioOrder", inPlace := ["internal/abi.NoEscape"], unfollowed := true, recurses := true, apart := false }
def PrioOrderSaid : Prop := prioOrderRow.holds Try.pinned (OpenSpec.ofChange prioOrderSpec)

/-- ITS FALSE NEIGHBOUR: 'it returns false'. Refute it at one input. -/
def prioOrderWrong : ChangeSpec := { name := "prioOrder", fn := fun _ => fun
  | [d] => { results := [.lit (.bool false)], args := [d] }
  | _ => none }
def PrioOrderWrongFalsely : Prop := prioOrderRow.holds Try.pinned (OpenSpec.ofChange prioOrderWrong)

/-- 'campanilelaw05.PrioKinds': WHATEVER THE INPUT: true; the input reads as it did. -/
def prioKindsSpec : ChangeSpec := { name := "prioKinds", fn := fun _ => fun
  | [d1, d2, d3] => { results := [.lit (.bool true)], args := [d1, d2, d3] }
  | _ => none }
def prioKindsRow : OpenClaim := { program := "ytkkibcjndgfmfaa", sum := "d76b80a459745bc24d407475b70f10fd4de08432f120c8d8eeba9efdf68f732c", func := "campanile/campanilelaw05.PrioKinds", spec := "prioKinds", inPlace := ["internal/abi.NoEscape"], unfollowed := true, recurses := true, apart := false }
def PrioKindsSaid : Prop := prioKindsRow.holds Try.pinned (OpenSpec.ofChange prioKindsSpec)

/-- ITS FALSE NEIGHBOUR: 'it returns false'. Refute it at one input. -/
def prioKindsWrong : ChangeSpec := { name := "prioKinds", fn := fun _ => fun
  | [d1, d2, d3] => { results := [.lit (.bool false)], args := [d1, d2, d3] }
  | _ => none }
def PrioKindsWrongFalsely : Prop := prioKindsRow.holds Try.pinned (OpenSpec.ofChange prioKindsWrong)

/- THE SECOND FORM. 'bulk': how many values and letters a reading holds, each counted each time it is reached (what is shared counts as often as it is met; a slice's spare places count too). A statement '..UptoSaid' is the law's where the arguments, and the package variables that the reading takes, are together of bulk at most 1048576: NARROWER than '..Said'. Prove '..Said' where nothing that the law and all that it calls make is longer than what came in: it says more and counts as full. Else prove '..UptoSaid'. A law counts once. -/
mutual
def uptoBulk {H : Type} : DataW H → Nat
  | .lit (.string bytes) => bytes.length + 1
  | .lit _ => 1
  | .nil => 1
  | .ptr d => uptoBulk d + 1
  | .slice elems spare => uptoBulkAll elems + uptoBulkAll spare + 1
  | .agg parts => uptoBulkAll parts + 1
  | .iface _ d => uptoBulk d + 1
  | .map entries => uptoBulkEntries entries + 1
  | .held _ => 1
def uptoBulkAll {H : Type} : List (DataW H) → Nat
  | [] => 0
  | d :: r => uptoBulk d + uptoBulkAll r
def uptoBulkEntries {H : Type} : List (Lit × DataW H) → Nat
  | [] => 0
  | x :: r => uptoBulkEntry x + uptoBulkEntries r
def uptoBulkEntry {H : Type} : Lit × DataW H → Nat
  | (.string bytes, d) => bytes.length + uptoBulk d + 1
  | (_, d) => uptoBulk d + 1
 end
def uptoSmall : (H : Type) → List (DataW H) → Bool := fun _ ds => decide (uptoBulkAll ds ≤ 1048576)
def OpenSpec.upto (s : _root_.Go.ChangeSpec) : _root_.Go.OpenSpec := { _root_.Go.OpenSpec.ofChange s with cond := some uptoSmall }

/-- 'campanilelaw05.PrioContests', WHERE WHAT IT READS IS OF BULK AT MOST 1048576: true; the input reads as it did. -/
def prioContestsUptoRow : OpenClaim := { program := "ytkkibcjndgfmfaa", sum := "d76b80a459745bc24d407475b70f10fd4de08432f120c8d8eeba9efdf68f732c", func := "campanile/campanilelaw05.PrioContests", spec := "prioContests", inPlace := ["internal/abi.NoEscape"], unfollowed := true, recurses := true, apart := false, narrowed := true }
def PrioContestsUptoSaid : Prop := prioContestsUptoRow.holds Try.pinned (OpenSpec.upto prioContestsSpec)

/-- 'campanilelaw05.PrioLeft', WHERE WHAT IT READS IS OF BULK AT MOST 1048576: true; the input reads as it did. -/
def prioLeftUptoRow : OpenClaim := { program := "ytkkibcjndgfmfaa", sum := "d76b80a459745bc24d407475b70f10fd4de08432f120c8d8eeba9efdf68f732c", func := "campanile/campanilelaw05.PrioLeft", spec := "prioLeft", inPlace := ["internal/abi.NoEscape"], unfollowed := true, recurses := true, apart := false, narrowed := true }
def PrioLeftUptoSaid : Prop := prioLeftUptoRow.holds Try.pinned (OpenSpec.upto prioLeftSpec)

/-- 'campanilelaw05.PrioOrder', WHERE WHAT IT READS IS OF BULK AT MOST 1048576: true; the input reads as it did. -/
def prioOrderUptoRow : OpenClaim := { program := "ytkkibcjndgfmfaa", sum := "d76b80a459745bc24d407475b70f10fd4de08432f120c8d8eeba9efdf68f732c", func := "campanile/campanilelaw05.PrioOrder", spec := "prioOrder", inPlace := ["internal/abi.NoEscape"], unfollowed := true, recurses := true, apart := false, narrowed := true }
def PrioOrderUptoSaid : Prop := prioOrderUptoRow.holds Try.pinned (OpenSpec.upto prioOrderSpec)

/-- 'campanilelaw05.PrioKinds', WHERE WHAT IT READS IS OF BULK AT MOST 1048576: true; the input reads as it did. -/
def prioKindsUptoRow : OpenClaim := { program := "ytkkibcjndgfmfaa", sum := "d76b80a459745bc24d407475b70f10fd4de08432f120c8d8eeba9efdf68f732c", func := "campanile/campanilelaw05.PrioKinds", spec := "prioKinds", inPlace := ["internal/abi.NoEscape"], unfollowed := true, recurses := true, apart := false, narrowed := true }
def PrioKindsUptoSaid : Prop := prioKindsUptoRow.holds Try.pinned (OpenSpec.upto prioKindsSpec)

end Rows
end Go.Proofs.Ytkkibcjndgfmfaa
