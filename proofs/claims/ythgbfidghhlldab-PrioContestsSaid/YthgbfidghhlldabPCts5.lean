/- Plain facts for the loop of the law PrioContests: how many of those below j are left. -/
import Derived.Test.YthgbfidghhlldabPLeft
namespace Go.Proofs.Ythgbfidghhlldab
open Go.RowKit Go.Lib
theorem filt_at {p : Nat → Bool} {n j : Nat} (hj : j < n) (hp : p j = true) : ((List.range n).filter p)[((List.range j).filter p).length]? = some j := by
  obtain ⟨c, rfl⟩ : ∃ c, n = j + (c + 1) := ⟨n - j - 1, by omega⟩
  rw [List.range_add, List.filter_append, List.getElem?_append_right (Nat.le_refl _), Nat.sub_self, List.range_succ_eq_map, List.map_cons, List.filter_cons]
  simp [hp]
theorem filt_yes {p : Nat → Bool} {j : Nat} (hp : p j = true) : ((List.range (j + 1)).filter p).length = ((List.range j).filter p).length + 1 := by
  rw [List.range_succ, List.filter_append]; simp [hp]
theorem filt_no {p : Nat → Bool} {j : Nat} (hp : p j = false) : ((List.range (j + 1)).filter p).length = ((List.range j).filter p).length := by
  rw [List.range_succ, List.filter_append]; simp [hp]
/-- how many of those below j are left -/
def cntF (hs : List FX) (h0 : 0 < hs.length) (j : Nat) : Nat := ((List.range j).filter (fun i => decide (i ∈ leftF hs h0))).length
theorem leftF_filter (hs : List FX) (h0 : 0 < hs.length) : (List.range hs.length).filter (fun i => decide (i ∈ leftF hs h0)) = leftF hs h0 := by
  conv => rhs; unfold leftF
  refine List.filter_congr (fun i hi => ?_)
  have h2 := List.mem_range.1 hi
  refine decide_eq_decide.2 ?_
  unfold leftF
  rw [List.mem_filter, decide_eq_true_eq]
  exact ⟨fun h => h.2, fun h => ⟨hi, h⟩⟩
theorem cntF_zero (hs : List FX) (h0 : 0 < hs.length) : cntF hs h0 0 = 0 := rfl
theorem cntF_all (hs : List FX) (h0 : 0 < hs.length) : cntF hs h0 hs.length = (leftF hs h0).length := by unfold cntF; rw [leftF_filter]
theorem cntF_yes {hs : List FX} {h0 : 0 < hs.length} {j : Nat} (hj : j < hs.length) (hp : j ∈ leftF hs h0) : cntF hs h0 (j + 1) = cntF hs h0 j + 1 ∧ (leftF hs h0)[cntF hs h0 j]? = some j := by
  refine ⟨filt_yes (by simpa using hp), ?_⟩
  have := filt_at (p := fun i => decide (i ∈ leftF hs h0)) hj (by simpa using hp)
  rw [leftF_filter] at this
  exact this
theorem cntF_no {hs : List FX} {h0 : 0 < hs.length} {j : Nat} (hp : ¬ j ∈ leftF hs h0) : cntF hs h0 (j + 1) = cntF hs h0 j := filt_no (by simpa using hp)
end Go.Proofs.Ythgbfidghhlldab
