/- A map[int]bool that the call made: a set of places. -/
import Derived.Test.YtkkibcjndgfmfaaPCon1
import Derived.Maps.Own
import Derived.Maps.OwnOps
import Derived.Maps.OwnSet
import Derived.Maps.Views
namespace Go.Proofs.Ytkkibcjndgfmfaa
open Go.RowKit Go.Lib Go.Maps

theorem atKey_fold {H : Type} (u zd : DataW H) (k : Lit) : ∀ (acc : List Lit) (D : DataW H), IsMap D → (∀ x ∈ acc, WideAt.IsKeyLit x) →
    (k ∈ acc → (acc.foldl (fun m x => m.put x u) D).atKey k zd = u) ∧ (¬ k ∈ acc → (acc.foldl (fun m x => m.put x u) D).atKey k zd = D.atKey k zd) := by
  intro acc
  induction acc with
  | nil => intro D _ _; exact ⟨fun h => by simp at h, fun _ => rfl⟩
  | cons x acc ih =>
    intro D hD h
    rw [List.foldl_cons]
    obtain ⟨h1, h2⟩ := ih _ (hD.put x u) (fun y hy => h y (by simp [hy]))
    by_cases hm : k ∈ acc
    · exact ⟨fun _ => h1 hm, fun hn => absurd (List.mem_cons_of_mem _ hm) hn⟩
    · by_cases e : k = x
      · subst e
        refine ⟨fun _ => ?_, fun hn => absurd (by simp) hn⟩
        rw [h2 hm, Maps.atKey_put_same hD (h k (by simp))]
      · refine ⟨fun hk => ?_, fun _ => by rw [h2 hm, Maps.atKey_put_other e]⟩
        rcases List.mem_cons.1 hk with hk | hk
        · exact absurd hk e
        · exact absurd hk hm
/-- the set of the places ls -/
def setD (ls : List Nat) : DataW Unit := Maps.setOf (.lit (.bool true)) (ls.map fun (i : Nat) => Lit.int .i64 (i : Int))
theorem setD_snoc (ls : List Nat) (i : Nat) : setD (ls ++ [i]) = (setD ls).put (.int .i64 (i : Int)) (.lit (.bool true)) := by
  unfold setD; rw [List.map_append]; exact Maps.setOf_snoc _ _ _
/-- block b is the set of the places ls -/
def SetM (w : World) (b : Nat) (ls : List Nat) : Prop := w.ownsMap Try.prog 3 (plainElem Try.prog 4) b ls.length (setD ls)
theorem SetM.lt {w : World} {b : Nat} {ls : List Nat} (h : SetM w b ls) : b < w.heap.size := World.ownsMap.lt h
theorem SetM.keep {w w' : World} {b : Nat} {ls : List Nat} (h : SetM w b ls) (hb : Below w.heap.size w w') : SetM w' b ls :=
  World.ownsMap.kept h (row := none) ⟨hb.os, hb.tape, hb.output, hb.size, fun k hk _ => hb.block k hk⟩ (by simp)
theorem setM_made (w : World) : SetM (w.alloc (.map #[] 0)) w.heap.size [] := World.ownsMap_made _ _ _ _
theorem lawInt : Keyed Try.prog 3 := int_keyed Try.underlying3
theorem wf_nat {i : Nat} (h : i ≤ 1000000) : (Lit.int .i64 (i : Int)).wf = true := WalkArith.wf_i64 (by omega)
theorem SetM.look {w : World} {b : Nat} {ls : List Nat} (h : SetM w b ls) (i : Nat) (hi : i ≤ 1000000) : (Instr.lookup 43 (.map (some b)) (.int .i64 (i : Int)) false).run Try.prog w = .ok (.bool (decide (i ∈ ls))) w := by
  obtain ⟨v, ps, hrun, hv⟩ := World.ownsMap.lookup h lawInt Try.underlying43 (Try.zeroValue4 w) (plainElem_bool Try.underlying4 false) (keyOf_int_mk Try.underlying3 (wf_nat hi))
  rw [hrun]
  have hat : (setD ls).atKey (.int .i64 (i : Int)) (.lit (.bool false)) = .lit (.bool (decide (i ∈ ls))) := by
    obtain ⟨h1, h2⟩ := atKey_fold (DataW.lit (.bool true) : DataW Unit) (.lit (.bool false)) (.int .i64 (i : Int)) (ls.map fun (j : Nat) => Lit.int .i64 (j : Int)) _ Maps.isMap_empty (fun x hx => by obtain ⟨j, _, rfl⟩ := List.mem_map.1 hx; trivial)
    unfold setD Maps.setOf
    have e : (Lit.int .i64 (i : Int) ∈ ls.map fun (j : Nat) => Lit.int .i64 (j : Int)) ↔ i ∈ ls := by
      constructor
      · intro hm
        obtain ⟨j, hj, e⟩ := List.mem_map.1 hm
        simp only [Lit.int.injEq, true_and] at e
        have : j = i := by omega
        rw [← this]; exact hj
      · intro hm; exact List.mem_map.2 ⟨i, hm, rfl⟩
    by_cases hm : i ∈ ls
    · rw [h1 (e.2 hm), decide_eq_true hm]
    · rw [h2 (fun h => hm (e.1 h)), decide_eq_false hm]; rfl
  rw [hat] at hv
  have : v = .bool (decide (i ∈ ls)) := by
    have hu := Try.underlying4
    cases v <;> simp [plainElem, hu] at hv
    · rw [hv.1]
  rw [this]
end Go.Proofs.Ytkkibcjndgfmfaa
