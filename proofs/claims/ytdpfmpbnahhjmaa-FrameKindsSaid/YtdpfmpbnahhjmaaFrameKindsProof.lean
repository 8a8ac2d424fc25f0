/- campanile's law FrameKinds: for every input it returns true, and each argument reads behind the call as it read before. Conditions: none. -/
import Derived.Test.YtdpfmpbnahhjmaaRows
import Derived.WalkKit
import Derived.ProofKit
import Derived.OpenShut
import Derived.Below
import Derived.Test.YtdpfmpbnahhjmaaFKinds
import Derived.Test.YtdpfmpbnahhjmaaFive
import Derived.Lib.SmallJoins
import Derived.ShutString
namespace Go.Proofs.Ytdpfmpbnahhjmaa.frameKinds
open Go.ChangeShapes Go.WideShapes Go.ChangeAt Go.RowKit
open Go.ChangeMaps (open_string shut_string)
open Go.Joins
set_option linter.unusedVariables false      -- a walk need not use every 'w<i>' (that an argument fits its kind)

theorem own : ownKnob Try.prog.godebug = none := by kernel_rfl

theorem walk (i : Nat) (x rm : Bool) (n : Int) (s : ByteArray) (w0 : (Lit.int .u32 i).wf = true) (w3 : (Lit.int .i64 n).wf = true) (w4 : s.size ≤ maxLen)  (w : World) :
    Calls Try.prog 8 #[.agg (frV i x rm n s)] w fun e w' => e = .returned (.bool true) ∧ Below w.heap.size w w' :=
  framekindsLaw i x rm n s w

set_option maxRecDepth 100000 in
theorem lifted (os : Os) (started : os.Started) (H : Type) (enc : TypeId × Value → H) :
    ReturnsInHanded {} Try.checked os 8 .any (Rows.frameKindsSpec.pre6 enc Try.prog Try.f8 Rows.frameKindsRow.domain false) (Rows.frameKindsSpec.post enc Try.prog Try.f8 false true false false) := by
  refine returnsInHanded_of_change (C := Try.checked) own started (by kernel_rfl) Try.func8
    (ChangeSpec.witness6 (enc := enc) (C := Try.checked) false ⟨#[], #[.agg #[.int .u32 0, .bool false, .bool false, .int .i64 0, .string ByteArray.empty]], []⟩ 8 (by kernel_rfl) (by kernel_rfl) (by kernel_rfl) (by kernel_rfl)) ?_
  intro W base args ds gs before hval0 hW hcnd _
  have hval : ∀ (j : Nat) t v, Try.f8.params[j]? = some t → args[j]? = some v → Value.okWide Try.prog W .any base t v := hval0
  have hW' := hW
  obtain ⟨p, q, hA0, hV, rfl, hfz, hnd⟩ := hW
  have hA : DataW.TrodAll enc Try.prog W 0 (fun _ => true) true Try.f8.params.toList args.toList ds p := hA0
  rw [Try.params8] at hA hval
  obtain ⟨v0, vs0, d0, ds0, p0, q0, hargs, rfl, rfl, h0, r0⟩ := trodAll_cons hA
  obtain ⟨rfl, rfl, rfl⟩ := trodAll_nil r0
  obtain rfl : args = #[v0] := by cases args; simp_all
  obtain ⟨rfl, rfl⟩ := trodVars_none hV
  obtain ⟨i, x, rm, n, s, rfl, rfl, rfl, w0, w3, w4⟩ := five.open_frame (hval 0 24 v0 rfl rfl) h0
  clear hA0 hval0
  simp only [List.append_nil] at hW'
  refine (walk i x rm n s w0 w3 w4 W).mono fun e W' ⟨he, hg⟩ => ?_
  subst he
  exact ⟨_, rfl, _, _, _, [], [], [], hW', (trodAll_cons_mk (shut_bool Try.underlying4 _) trodAll_mk0), (trodAll_cons_mk (five.shut_frame w0 w3 w4) trodAll_mk0), rfl, hg.frame _, fun h => by cases h⟩

theorem over : Rows.frameKindsRow.holds Try.pinned (OpenSpec.ofChange Rows.frameKindsSpec) :=
  OpenClaim.holds_of_wide 8 Try.f8 rfl rfl rfl rfl rfl rfl rfl ⟨rfl, rfl, rfl, rfl, rfl⟩ rfl rfl rfl rfl rfl (by kernel_rfl) Try.func8 (by kernel_rfl)
    (of_decide_eq_true (by kernel_rfl)) (by unfold Func.isWrapper; first | (rw [if_pos (by decide +kernel)]; kernel_rfl) | (rw [if_neg (by decide +kernel)]; exact ⟨rfl, rfl⟩))
    (fun os started H enc _ => lifted os started H enc)

/-- ████ THE STATEMENT ████ -/
theorem proved : Rows.FrameKindsSaid :=
  over
#print axioms proved
end Go.Proofs.Ytdpfmpbnahhjmaa.frameKinds
