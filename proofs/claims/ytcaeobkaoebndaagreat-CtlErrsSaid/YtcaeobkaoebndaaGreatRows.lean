/-
  No cell of these rows narrows 'for every input' (looked for: loops, veiled, ifaces, maps, wideKeys, modest, calm, conditions, laid).
  DERIVED. THE GIVEN ROWS OF THIS SEAT. 5 by the template 'for every input the law returns true; each argument reads behind the call as it read before'; 0 by the template 'total and deterministic' (their statements: YtcaeobkaoebndaaGreatTotals.lean).
  GIVEN WITH THE SEED: the statements are not yours to turn. If you find one false, say at which input.
  Laid BY PROGRAM, IN A SANDBOX (cutbox-rows.mjs): the forced cells as the released guide's own fill.sh prints them over the translation 1724d2ee475a55b9… (all of the seat's roots in one cut). By AI agents, Wed Nov 11 2026. No macro, syntax, notation, axiom, sorry.
-/
import Derived.Test.YtcaeobkaoebndaaGreatChecked
import GoSem.Claim
import GoSem.ClaimJoined
import GoSem.ClaimMapViews
import Derived.JoinedTies
import Derived.KernelRfl
namespace Go.Proofs.YtcaeobkaoebndaaGreat
/- THE CELL 'sum', in the pinned program and in every row, IS THE sha256 OF THE DUMP (.gsa) THAT YtcaeobkaoebndaaGreatProg.lean LOADS. Nothing in Lean hashes anything: it is a label: what it is worth is what the hold of that sum in a sandbox is worth. -/
noncomputable def Tryz.pinned : Pinned := { name := "ytcaeobkaoebndaagreat", sum := "1724d2ee475a55b97acd314408de160d5d00639bbb10577fad2e90656add069a", checked := Tryz.checked }
namespace Rows
def none {H : Type} : Left H := { results := [], args := [] }

/-- 'campanilelaw07.CtlComes': WHATEVER THE INPUT: true; the input reads as it did. -/
def ctlComesSpec : ChangeSpec := { name := "ctlComes", fn := fun _ => fun
  | [d1, d2] => { results := [.lit (.bool true)], args := [d1, d2] }
  | _ => none }
def ctlComesRow : OpenClaim := { program := "ytcaeobkaoebndaagreat", sum := "1724d2ee475a55b97acd314408de160d5d00639bbb10577fad2e90656add069a", func := "campanile/campanilelaw07.CtlComes", spec := "ctlComes", inPlace := ["internal/abi.NoEscape"], unfollowed := true, recurses := true, apart := false }
def CtlComesSaid : Prop := ctlComesRow.holds Tryz.pinned (OpenSpec.ofChange ctlComesSpec)

/-- ITS FALSE NEIGHBOUR: 'it returns false'. Refute it at one input. -/
def ctlComesWrong : ChangeSpec := { name := "ctlComes", fn := fun _ => fun
  | [d1, d2] => { results := [.lit (.bool false)], args := [d1, d2] }
  | _ => none }
def CtlComesWrongFalsely : Prop := ctlComesRow.holds Tryz.pinned (OpenSpec.ofChange ctlComesWrong)

/-- 'campanilelaw07.CtlSends': WHATEVER THE INPUT: true; the input reads as it did. -/
def ctlSendsSpec : ChangeSpec := { name := "ctlSends", fn := fun _ => fun
  | [d] => { results := [.lit (.bool true)], args := [d] }
  | _ => none }
def ctlSendsRow : OpenClaim := { program := "ytcaeobkaoebndaagreat", sum := "1724d2ee475a55b97acd314408de160d5d00639bbb10577fad2e90656add069a", func := "campanile/campanilelaw07.CtlSends", spec := "ctlSends", inPlace := ["internal/abi.NoEscape"], unfollowed := true, recurses := true, apart := false }
def CtlSendsSaid : Prop := ctlSendsRow.holds Tryz.pinned (OpenSpec.ofChange ctlSendsSpec)

/-- ITS FALSE NEIGHBOUR: 'it returns false'. Refute it at one input. -/
def ctlSendsWrong : ChangeSpec := { name := "ctlSends", fn := fun _ => fun
  | [d] => { results := [.lit (.bool false)], args := [d] }
  | _ => none }
def CtlSendsWrongFalsely : Prop := ctlSendsRow.holds Tryz.pinned (OpenSpec.ofChange ctlSendsWrong)

/-- 'campanilelaw07.CtlLoses': WHATEVER THE INPUT: true; the input reads as it did. -/
def ctlLosesSpec : ChangeSpec := { name := "ctlLoses", fn := fun _ => fun
  | [d1, d2] => { results := [.lit (.bool true)], args := [d1, d2] }
  | _ => none }
def ctlLosesRow : OpenClaim := { program := "ytcaeobkaoebndaagreat", sum := "1724d2ee475a55b97acd314408de160d5d00639bbb10577fad2e90656add069a", func := "campanile/campanilelaw07.CtlLoses", spec := "ctlLoses", inPlace := ["internal/abi.NoEscape"], unfollowed := true, recurses := true, apart := false }
def CtlLosesSaid : Prop := ctlLosesRow.holds Tryz.pinned (OpenSpec.ofChange ctlLosesSpec)

/-- ITS FALSE NEIGHBOUR: 'it returns false'. Refute it at one input. -/
def ctlLosesWrong : ChangeSpec := { name := "ctlLoses", fn := fun _ => fun
  | [d1, d2] => { results := [.lit (.bool false)], args := [d1, d2] }
  | _ => none }
def CtlLosesWrongFalsely : Prop := ctlLosesRow.holds Tryz.pinned (OpenSpec.ofChange ctlLosesWrong)

/-- 'campanilelaw07.CtlErrs': WHATEVER THE INPUT: true; the input reads as it did. -/
def ctlErrsSpec : ChangeSpec := { name := "ctlErrs", fn := fun _ => fun
  | [d1, d2] => { results := [.lit (.bool true)], args := [d1, d2] }
  | _ => none }
def ctlErrsRow : OpenClaim := { program := "ytcaeobkaoebndaagreat", sum := "1724d2ee475a55b97acd314408de160d5d00639bbb10577fad2e90656add069a", func := "campanile/campanilelaw07.CtlErrs", spec := "ctlErrs", inPlace := ["internal/abi.NoEscape", "internal/bytealg.MakeNoZero"], unfollowed := true, recurses := true, apart := false }
def CtlErrsSaid : Prop := ctlErrsRow.holds Tryz.pinned (OpenSpec.ofChange ctlErrsSpec)

/-- ITS FALSE NEIGHBOUR: 'it returns false'. Refute it at one input. -/
def ctlErrsWrong : ChangeSpec := { name := "ctlErrs", fn := fun _ => fun
  | [d1, d2] => { results := [.lit (.bool false)], args := [d1, d2] }
  | _ => none }
def CtlErrsWrongFalsely : Prop := ctlErrsRow.holds Tryz.pinned (OpenSpec.ofChange ctlErrsWrong)

/-- 'campanilelaw07.CtlTurned': WHATEVER THE INPUT: true; the input reads as it did. -/
def ctlTurnedSpec : ChangeSpec := { name := "ctlTurned", fn := fun _ => fun
  | [d1, d2] => { results := [.lit (.bool true)], args := [d1, d2] }
  | _ => none }
def ctlTurnedRow : OpenClaim := { program := "ytcaeobkaoebndaagreat", sum := "1724d2ee475a55b97acd314408de160d5d00639bbb10577fad2e90656add069a", func := "campanile/campanilelaw07.CtlTurned", spec := "ctlTurned", inPlace := ["internal/abi.NoEscape"], unfollowed := true, recurses := true, apart := false }
def CtlTurnedSaid : Prop := ctlTurnedRow.holds Tryz.pinned (OpenSpec.ofChange ctlTurnedSpec)

/-- ITS FALSE NEIGHBOUR: 'it returns false'. Refute it at one input. -/
def ctlTurnedWrong : ChangeSpec := { name := "ctlTurned", fn := fun _ => fun
  | [d1, d2] => { results := [.lit (.bool false)], args := [d1, d2] }
  | _ => none }
def CtlTurnedWrongFalsely : Prop := ctlTurnedRow.holds Tryz.pinned (OpenSpec.ofChange ctlTurnedWrong)

/- THE SECOND FORM. 'bulk': how many values and letters a reading holds, each counted each time it is reached (what is shared counts as often as it is met; a slice's spare places count too). A statement '..UptoSaid' is the law's where the arguments, and the package variables that the reading takes, are together of bulk at most 1048576: NARROWER than '..Said'. Prove '..Said' where nothing that the law and all that it calls make is longer than what came in: it says more and counts as full. Else prove '..UptoSaid'. A law counts once. -/
mutual
def uptoBulk {H : Type} : DataW H → Nat
  | .lit (.string bytes) => bytes.length + 1
  | .lit _ => 1
  | .nil => 1
  | .ptr d => uptoBulk d + 1
  | .slice elems spare => uptoBulkAll elems + uptoBulkAll spare + 1
  | .agg parts => uptoBulkAll parts + 1
  | .iface _ d => uptoBulk d + 1
  | .map entries => uptoBulkEntries entries + 1
  | .held _ => 1
def uptoBulkAll {H : Type} : List (DataW H) → Nat
  | [] => 0
  | d :: r => uptoBulk d + uptoBulkAll r
def uptoBulkEntries {H : Type} : List (Lit × DataW H) → Nat
  | [] => 0
  | x :: r => uptoBulkEntry x + uptoBulkEntries r
def uptoBulkEntry {H : Type} : Lit × DataW H → Nat
  | (.string bytes, d) => bytes.length + uptoBulk d + 1
  | (_, d) => uptoBulk d + 1
 end
def uptoSmall : (H : Type) → List (DataW H) → Bool := fun _ ds => decide (uptoBulkAll ds ≤ 1048576)
def OpenSpec.upto (s : _root_.Go.ChangeSpec) : _root_.Go.OpenSpec := { _root_.Go.OpenSpec.ofChange s with cond := some uptoSmall }

/-- 'campanilelaw07.CtlComes', WHERE WHAT IT READS IS OF BULK AT MOST 1048576: true; the input reads as it did. -/
def ctlComesUptoRow : OpenClaim := { program := "ytcaeobkaoebndaagreat", sum := "1724d2ee475a55b97acd314408de160d5d00639bbb10577fad2e90656add069a", func := "campanile/campanilelaw07.CtlComes", spec := "ctlComes", inPlace := ["internal/abi.NoEscape"], unfollowed := true, recurses := true, apart := false, narrowed := true }
def CtlComesUptoSaid : Prop := ctlComesUptoRow.holds Tryz.pinned (OpenSpec.upto ctlComesSpec)

/-- 'campanilelaw07.CtlSends', WHERE WHAT IT READS IS OF BULK AT MOST 1048576: true; the input reads as it did. -/
def ctlSendsUptoRow : OpenClaim := { program := "ytcaeobkaoebndaagreat", sum := "1724d2ee475a55b97acd314408de160d5d00639bbb10577fad2e90656add069a", func := "campanile/campanilelaw07.CtlSends", spec := "ctlSends", inPlace := ["internal/abi.NoEscape"], unfollowed := true, recurses := true, apart := false, narrowed := true }
def CtlSendsUptoSaid : Prop := ctlSendsUptoRow.holds Tryz.pinned (OpenSpec.upto ctlSendsSpec)

/-- 'campanilelaw07.CtlLoses', WHERE WHAT IT READS IS OF BULK AT MOST 1048576: true; the input reads as it did. -/
def ctlLosesUptoRow : OpenClaim := { program := "ytcaeobkaoebndaagreat", sum := "1724d2ee475a55b97acd314408de160d5d00639bbb10577fad2e90656add069a", func := "campanile/campanilelaw07.CtlLoses", spec := "ctlLoses", inPlace := ["internal/abi.NoEscape"], unfollowed := true, recurses := true, apart := false, narrowed := true }
def CtlLosesUptoSaid : Prop := ctlLosesUptoRow.holds Tryz.pinned (OpenSpec.upto ctlLosesSpec)

/-- 'campanilelaw07.CtlErrs', WHERE WHAT IT READS IS OF BULK AT MOST 1048576: true; the input reads as it did. -/
def ctlErrsUptoRow : OpenClaim := { program := "ytcaeobkaoebndaagreat", sum := "1724d2ee475a55b97acd314408de160d5d00639bbb10577fad2e90656add069a", func := "campanile/campanilelaw07.CtlErrs", spec := "ctlErrs", inPlace := ["internal/abi.NoEscape", "internal/bytealg.MakeNoZero"], unfollowed := true, recurses := true, apart := false, narrowed := true }
def CtlErrsUptoSaid : Prop := ctlErrsUptoRow.holds Tryz.pinned (OpenSpec.upto ctlErrsSpec)

/-- 'campanilelaw07.CtlTurned', WHERE WHAT IT READS IS OF BULK AT MOST 1048576: true; the input reads as it did. -/
def ctlTurnedUptoRow : OpenClaim := { program := "ytcaeobkaoebndaagreat", sum := "1724d2ee475a55b97acd314408de160d5d00639bbb10577fad2e90656add069a", func := "campanile/campanilelaw07.CtlTurned", spec := "ctlTurned", inPlace := ["internal/abi.NoEscape"], unfollowed := true, recurses := true, apart := false, narrowed := true }
def CtlTurnedUptoSaid : Prop := ctlTurnedUptoRow.holds Tryz.pinned (OpenSpec.upto ctlTurnedSpec)

end Rows
end Go.Proofs.YtcaeobkaoebndaaGreat
