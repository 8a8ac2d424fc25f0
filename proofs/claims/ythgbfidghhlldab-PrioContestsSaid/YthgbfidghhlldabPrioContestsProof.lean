/- campanile's law PrioContests: for every input it returns true, and each argument reads behind the call as it read before. Conditions: none. -/
import Derived.Test.YthgbfidghhlldabRows
import Derived.WalkKit
import Derived.ProofKit
import Derived.OpenShut
import Derived.Below
import Derived.ChangeOld
import Derived.Test.YthgbfidghhlldabPCts6
import Derived.Test.YthgbfidghhlldabFive
import Derived.Test.YthgbfidghhlldabPFramesIn
import Derived.Lib.SmallJoins
import Derived.ShutString
namespace Go.Proofs.Ythgbfidghhlldab.prioContests
open Go.ChangeShapes Go.WideShapes Go.ChangeAt Go.RowKit
open Go.Joins
set_option linter.unusedVariables false

theorem own : ownKnob Try.prog.godebug = none := by kernel_rfl
theorem laidOut : laidOutB Try.prog = true := by kernel_rfl

set_option maxRecDepth 100000 in
theorem lifted (os : Os) (started : os.Started) (H : Type) (enc : TypeId × Value → H) :
    ReturnsInHanded {} Try.checked os 3 .any (Rows.prioContestsSpec.pre6 enc Try.prog Try.f3 Rows.prioContestsRow.domain false) (Rows.prioContestsSpec.post enc Try.prog Try.f3 false true false false) := by
  refine returnsInHanded_of_change (C := Try.checked) own started (by kernel_rfl) Try.func3
    (ChangeSpec.witness6 (enc := enc) (C := Try.checked) false ⟨#[], #[.slice none 0 0, .agg #[.int .u32 0, .bool false, .bool false, .int .i64 0, .string ByteArray.empty], .agg #[.int .u32 0, .bool false, .bool false, .int .i64 0, .string ByteArray.empty]], []⟩ 8 (by kernel_rfl) (by kernel_rfl) (by kernel_rfl) (by kernel_rfl)) ?_
  intro W base args ds gs before hval0 hW hcnd _
  have hval : ∀ (j : Nat) t v, Try.f3.params[j]? = some t → args[j]? = some v → Value.okWide Try.prog W .any base t v := hval0
  have hW' := hW
  obtain ⟨p, q, hA0, hV, rfl, hfz, hnd⟩ := hW
  have hA : DataW.TrodAll enc Try.prog W 0 (fun _ => true) true Try.f3.params.toList args.toList ds p := hA0
  rw [Try.params3] at hA hval
  obtain ⟨v0, vs0, d0, ds0, p0, q0, hargs, rfl, rfl, h0, r0⟩ := trodAll_cons hA
  obtain ⟨v1, vs1, d1, ds1, p1, q1, rfl, rfl, rfl, h1, r1⟩ := trodAll_cons r0
  obtain ⟨v2, vs2, d2, ds2, p2, q2, rfl, rfl, rfl, h2, r2⟩ := trodAll_cons r1
  obtain ⟨rfl, rfl, rfl⟩ := trodAll_nil r2
  obtain rfl : args = #[v0, v1, v2] := by cases args; simp_all
  obtain ⟨rfl, rfl⟩ := trodVars_none hV
  obtain ⟨A0, n0, c0, rfl⟩ := okWide_slice Try.underlying22 (hval 0 22 v0 rfl rfl)
  have k0 := h0
  have lt0 : ∀ x ∈ p0, x.block < W.heap.size := by obtain ⟨m, hm⟩ := k0; exact DataW.trod_lt m _ _ _ hm
  obtain ⟨gs0, hIn0⟩ : ∃ gs, InF W A0 n0 c0 gs := by
    obtain ⟨fuel, hf⟩ := h0
    obtain ⟨A', n', c', gs, hcs, hIn⟩ := five.in_frames hf
    simp [Value.cells] at hcs
    obtain ⟨rfl, rfl, rfl⟩ := hcs
    exact ⟨gs, hIn⟩
  obtain ⟨i1, x1, rm1, d1', s1, rfl, rfl, rfl, wi1, wd1, ws1⟩ := five.open_frame (hval 1 25 v1 rfl rfl) h1
  obtain ⟨i2, x2, rm2, d2', s2, rfl, rfl, rfl, wi2, wd2, ws2⟩ := five.open_frame (hval 2 25 v2 rfl rfl) h2
  clear hA0 hval0
  refine (contests_any A0 n0 c0 gs0 ⟨i1, x1, rm1, d1', s1⟩ ⟨i2, x2, rm2, d2', s2⟩ W hIn0).mono fun e W' ⟨he, bel⟩ => ?_
  subst he
  exact ⟨_, rfl, _, _, _, [], _, [], hW', trodAll_mk1 (shut_bool Try.underlying4 _), (trodAll_cons_mk (Below.trod laidOut (by kernel_rfl) (of_decide_eq_true (by kernel_rfl)) k0 bel lt0) (trodAll_cons_mk (five.shut_frame wi1 wd1 ws1) (trodAll_cons_mk (five.shut_frame wi2 wd2 ws2) trodAll_mk0))), rfl, bel.frame _, fun h => by cases h⟩

theorem over : Rows.prioContestsRow.holds Try.pinned (OpenSpec.ofChange Rows.prioContestsSpec) :=
  OpenClaim.holds_of_wide 3 Try.f3 rfl rfl rfl rfl rfl rfl rfl ⟨rfl, rfl, rfl, rfl, rfl⟩ rfl rfl rfl rfl rfl (by kernel_rfl) Try.func3 (by kernel_rfl)
    (of_decide_eq_true (by kernel_rfl)) (by unfold Func.isWrapper; first | (rw [if_pos (by decide +kernel)]; kernel_rfl) | (rw [if_neg (by decide +kernel)]; exact ⟨rfl, rfl⟩))
    (fun os started H enc _ => lifted os started H enc)

theorem proved : Rows.PrioContestsSaid :=
  over
#print axioms proved
end Go.Proofs.Ythgbfidghhlldab.prioContests
