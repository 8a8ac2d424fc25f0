/- Own texts joined: PAlive SetM. -/
import Derived.Test.YthgbfidghhlldabPCon7
import Derived.Outline
import Derived.Test.YthgbfidghhlldabPCon1
import Derived.Maps.Own
import Derived.Maps.OwnOps
import Derived.Maps.OwnSet
import Derived.Maps.Views
/- PAlive -/
namespace Go.Proofs.Ythgbfidghhlldab
open Go.RowKit Go.Lib
attribute [local go_sem ↓] Go.wp_at_zero Go.wp_at_succ

def aliveFs : List FX := [⟨5, false, false, 0, ⟨#[]⟩⟩, ⟨3, false, false, 0, ⟨#[]⟩⟩, ⟨4, false, false, 0, ⟨#[]⟩⟩]
theorem alive_left : leftF aliveFs (by decide) = [1] := by decide +kernel
theorem alive_row (w : World) : RowF (w.alloc (.cells #[.int .u32 5, .bool false, .bool false, .int .i64 0, .string ⟨#[]⟩, .int .u32 3, .bool false, .bool false, .int .i64 0, .string ⟨#[]⟩, .int .u32 4, .bool false, .bool false, .int .i64 0, .string ⟨#[]⟩] 25)) w.heap.size 0 aliveFs := by
  intro i hi
  have hi2 : i = 0 ∨ i = 1 ∨ i = 2 := by have : i < 3 := hi; omega
  rcases hi2 with rfl | rfl | rfl
  all_goals refine ⟨?_, ?_, ?_, ?_, ?_⟩ <;> (rw [World.cell?_alloc_at _ _ _ _ rfl]; rfl)

set_option maxRecDepth 100000 in
set_option maxHeartbeats 1000000 in
theorem alive5_any (w : World) : Calls Try.prog 10 #[] w fun e w' => e = .returned (.bool true) ∧ Below w.heap.size w w' := by
  have CC : Hid (∀ w1, w1 = w.alloc (.cells #[.int .u32 5, .bool false, .bool false, .int .i64 0, .string ⟨#[]⟩, .int .u32 3, .bool false, .bool false, .int .i64 0, .string ⟨#[]⟩, .int .u32 4, .bool false, .bool false, .int .i64 0, .string ⟨#[]⟩] 25) →
      Calls Try.prog 11 #[.slice (some ⟨w.heap.size, 0, none⟩) 3 3] w1 fun e w' => ∃ gl capl vo, e = .returned (.tuple #[.slice (some ⟨gl, 0, none⟩) 1 capl, vo, .int .i64 0]) ∧ w'.cell? ⟨gl, 0, none⟩ = some (.int .i64 1) ∧ Below w.heap.size w w') := Lib.hid (fun w1 e1 => by
    subst e1
    refine (contest_yes w.heap.size 0 3 aliveFs _ (by decide) (alive_row w) (by simp) (by decide) (by decide)).mono ?_
    rintro e w' ⟨vl, vo, rfl, hl, _, hb⟩
    rw [alive_left] at hl
    obtain ⟨gl, capl, rfl, _, _⟩ := own_form hl (own_not_nil hl (by decide))
    exact ⟨gl, capl, vo, rfl, hl.cellAt 0 (by decide), ((Below.refl _ _).alloc (Nat.le_refl _) _).trans (hb.mono (by simp))⟩)
  go_enter Try.func10, Try.ntmps10
  go_wp2_with (go_at_call 11; (with_reducible refine (CC.out _ rfl).mono ?_); rintro e w1 ⟨gl, capl, vo, rfl, hc, hb⟩)
  go_ret
  exact ⟨rfl, hb⟩
end Go.Proofs.Ythgbfidghhlldab

/- SetM -/
namespace Go.Proofs.Ythgbfidghhlldab
open Go.RowKit Go.Lib Go.Maps

theorem atKey_fold {H : Type} (u zd : DataW H) (k : Lit) : ∀ (acc : List Lit) (D : DataW H), IsMap D → (∀ x ∈ acc, WideAt.IsKeyLit x) →
    (k ∈ acc → (acc.foldl (fun m x => m.put x u) D).atKey k zd = u) ∧ (¬ k ∈ acc → (acc.foldl (fun m x => m.put x u) D).atKey k zd = D.atKey k zd) := by
  intro acc
  induction acc with
  | nil => intro D _ _; exact ⟨fun h => by simp at h, fun _ => rfl⟩
  | cons x acc ih =>
    intro D hD h
    rw [List.foldl_cons]
    obtain ⟨h1, h2⟩ := ih _ (hD.put x u) (fun y hy => h y (by simp [hy]))
    by_cases hm : k ∈ acc
    · exact ⟨fun _ => h1 hm, fun hn => absurd (List.mem_cons_of_mem _ hm) hn⟩
    · by_cases e : k = x
      · subst e
        refine ⟨fun _ => ?_, fun hn => absurd (by simp) hn⟩
        rw [h2 hm, Maps.atKey_put_same hD (h k (by simp))]
      · refine ⟨fun hk => ?_, fun _ => by rw [h2 hm, Maps.atKey_put_other e]⟩
        rcases List.mem_cons.1 hk with hk | hk
        · exact absurd hk e
        · exact absurd hk hm
/-- the set of the places ls -/
def setD (ls : List Nat) : DataW Unit := Maps.setOf (.lit (.bool true)) (ls.map fun (i : Nat) => Lit.int .i64 (i : Int))
theorem setD_snoc (ls : List Nat) (i : Nat) : setD (ls ++ [i]) = (setD ls).put (.int .i64 (i : Int)) (.lit (.bool true)) := by
  unfold setD; rw [List.map_append]; exact Maps.setOf_snoc _ _ _
/-- block b is the set of the places ls -/
def SetM (w : World) (b : Nat) (ls : List Nat) : Prop := w.ownsMap Try.prog 3 (plainElem Try.prog 4) b ls.length (setD ls)
theorem SetM.lt {w : World} {b : Nat} {ls : List Nat} (h : SetM w b ls) : b < w.heap.size := World.ownsMap.lt h
theorem SetM.keep {w w' : World} {b : Nat} {ls : List Nat} (h : SetM w b ls) (hb : Below w.heap.size w w') : SetM w' b ls :=
  World.ownsMap.kept h (row := none) ⟨hb.os, hb.tape, hb.output, hb.size, fun k hk _ => hb.block k hk⟩ (by simp)
theorem setM_made (w : World) : SetM (w.alloc (.map #[] 0)) w.heap.size [] := World.ownsMap_made _ _ _ _
theorem lawInt : Keyed Try.prog 3 := int_keyed Try.underlying3
theorem wf_nat {i : Nat} (h : i ≤ 1000000) : (Lit.int .i64 (i : Int)).wf = true := WalkArith.wf_i64 (by omega)
end Go.Proofs.Ythgbfidghhlldab
