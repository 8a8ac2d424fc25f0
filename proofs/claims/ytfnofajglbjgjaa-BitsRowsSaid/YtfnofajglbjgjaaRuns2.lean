/- More plain facts on runs: one behind the other they are the row; each is as long as a place of it; no two beside one another are of one bit. No Go, no program. -/
import Derived.Test.YtfnofajglbjgjaaRuns1
import Derived.Lib.Repeat
namespace Go.Proofs.Ytfnofajglbjgjaa.B

def cat (rs : List (UInt8 × Nat)) : List UInt8 := rs.flatMap fun r => Lib.repeatL [r.1] r.2
theorem repeatL_rep (c : UInt8) (n : Nat) : Lib.repeatL [c] n = List.replicate n c := by
  induction n with
  | zero => rfl
  | succ n ih => rw [List.replicate_succ, ← ih]; rfl
theorem cat_snoc (rs : List (UInt8 × Nat)) (r : UInt8 × Nat) : cat (rs ++ [r]) = cat rs ++ Lib.repeatL [r.1] r.2 := by simp [cat]
theorem snoc_of {α : Type} {l : List α} {n : Nat} (hn : l.length = n + 1) : ∃ a c, l = a ++ [c] ∧ a.length = n := by
  have : l ≠ [] := by intro e; simp [e] at hn
  refine ⟨l.dropLast, l.getLast this, (List.dropLast_concat_getLast this).symm, by rw [List.length_dropLast]; omega⟩
theorem cat_runs (l : List UInt8) : cat (runsOf l) = l := by
  generalize hn : l.length = n
  induction n generalizing l with
  | zero => rw [List.length_eq_zero_iff] at hn; subst hn; rfl
  | succ n ih =>
    obtain ⟨a, c, rfl, ha⟩ := snoc_of hn
    have hi := ih a ha
    rw [runsOf_snoc]
    obtain ⟨rs', m, e, h1, h2⟩ := runStep_last (runsOf a) c
    rw [e, cat_snoc, repeatL_rep]
    by_cases h : (runsOf a).getLast?.map (·.1) = some c
    · rw [h1 h, cat_snoc, repeatL_rep] at hi
      rw [List.replicate_succ', ← List.append_assoc, hi]
    · obtain ⟨h3, h4⟩ := h2 h
      rw [h3] at hi; subst h4; rw [hi]; rfl
theorem runs_pos (l : List UInt8) : ∀ r ∈ runsOf l, 1 ≤ r.2 := by
  generalize hn : l.length = n
  induction n generalizing l with
  | zero => rw [List.length_eq_zero_iff] at hn; subst hn; simp [runsOf]
  | succ n ih =>
    obtain ⟨a, c, rfl, ha⟩ := snoc_of hn
    have hi := ih a ha
    rw [runsOf_snoc]
    obtain ⟨rs', m, e, h1, h2⟩ := runStep_last (runsOf a) c
    rw [e]
    intro r hr
    rw [List.mem_append, List.mem_singleton] at hr
    rcases hr with hr | rfl
    · by_cases h : (runsOf a).getLast?.map (·.1) = some c
      · exact hi r (by rw [h1 h]; simp [hr])
      · exact hi r (by rw [(h2 h).1]; exact hr)
    · show 1 ≤ m + 1; omega
theorem le_sum {l : List Nat} {n : Nat} (h : n ∈ l) : n ≤ l.sum := by
  induction l with
  | nil => simp at h
  | cons a l ih =>
    rw [List.sum_cons]
    rcases List.mem_cons.1 h with rfl | h
    · omega
    · have := ih h; omega
theorem runs_small (l : List UInt8) : ∀ r ∈ runsOf l, r.2 ≤ l.length := by
  intro r hr
  have := le_sum (List.mem_map_of_mem (f := (·.2)) hr)
  rwa [runs_sum] at this
/-- no two beside one another are equal -/
def Apart (fs : List UInt8) : Prop := ∀ i a b, fs[i]? = some a → fs[i + 1]? = some b → a ≠ b
theorem apart_snoc {fs : List UInt8} {c : UInt8} (h : Apart fs) (hc : ¬ fs.getLast? = some c) : Apart (fs ++ [c]) := by
  intro i a b ha hb
  by_cases h1 : i + 1 < fs.length
  · rw [List.getElem?_append_left (by omega)] at ha hb
    exact h i a b ha hb
  · by_cases h2 : i + 1 = fs.length
    · rw [List.getElem?_append_left (by omega)] at ha
      rw [List.getElem?_append_right (by omega), show i + 1 - fs.length = 0 from by omega] at hb
      simp at hb
      subst hb
      intro e; subst e
      apply hc
      rw [List.getLast?_eq_getElem?, show fs.length - 1 = i from by omega]; exact ha
    · rw [List.getElem?_eq_none (by simp; omega)] at hb; cases hb
theorem runs_apart (l : List UInt8) : Apart ((runsOf l).map (·.1)) := by
  generalize hn : l.length = n
  induction n generalizing l with
  | zero => rw [List.length_eq_zero_iff] at hn; subst hn; intro i a b h; simp [runsOf] at h
  | succ n ih =>
    obtain ⟨a, c, rfl, ha⟩ := snoc_of hn
    have hi := ih a ha
    rw [runsOf_snoc]
    obtain ⟨rs', m, e, h1, h2⟩ := runStep_last (runsOf a) c
    rw [e]
    by_cases h : (runsOf a).getLast?.map (·.1) = some c
    · rw [h1 h] at hi; simpa using hi
    · rw [(h2 h).1] at hi h
      rw [List.map_append]
      exact apart_snoc hi (by rw [List.getLast?_map]; exact h)
theorem runs_ne {l : List UInt8} (h : l ≠ []) : runsOf l ≠ [] := by
  intro e
  have := cat_runs l
  rw [e] at this
  exact h this.symm
/-- the k-th of the runs -/
def runAt (rs : List (UInt8 × Nat)) (k : Nat) : UInt8 × Nat := rs.getD k (0, 0)
theorem runAt_get {rs : List (UInt8 × Nat)} {k : Nat} (h : k < rs.length) : rs[k]? = some (runAt rs k) := by
  unfold runAt; rw [List.getD_eq_getElem?_getD, List.getElem?_eq_getElem h]; rfl
theorem runAt_mem {rs : List (UInt8 × Nat)} {k : Nat} (h : k < rs.length) : runAt rs k ∈ rs := List.mem_of_getElem? (runAt_get h)
theorem cat_take_succ {rs : List (UInt8 × Nat)} {k : Nat} (h : k < rs.length) : cat (rs.take (k + 1)) = cat (rs.take k) ++ Lib.repeatL [(runAt rs k).1] (runAt rs k).2 := by
  rw [List.take_succ_eq_append_getElem h, cat_snoc]
  have : rs[k] = runAt rs k := Option.some.inj ((List.getElem?_eq_getElem h).symm.trans (runAt_get h))
  rw [this]
theorem runs_next {l : List UInt8} {k : Nat} (h0 : 0 < k) (h : k < (runsOf l).length) : ¬ (runAt (runsOf l) (k - 1)).1.toNat = (runAt (runsOf l) k).1.toNat := by
  intro e
  refine runs_apart l (k - 1) _ _ ?_ ?_ (UInt8.toNat_inj.1 e)
  · rw [List.getElem?_map, runAt_get (by omega)]; rfl
  · rw [show k - 1 + 1 = k from by omega, List.getElem?_map, runAt_get h]; rfl
theorem runCells_fst {rs : List (UInt8 × Nat)} {k : Nat} (h : k < rs.length) : (runCells rs)[k * 2]? = some (.int .u8 (runAt rs k).1.toNat) ∧ (runCells rs)[k * 2 + 1]? = some (.int .i64 (runAt rs k).2) := by
  have e : rs = rs.take k ++ runAt rs k :: rs.drop (k + 1) := by
    have := (List.take_append_drop k rs).symm
    rw [List.drop_eq_getElem_cons h] at this
    have e2 : rs[k] = runAt rs k := Option.some.inj ((List.getElem?_eq_getElem h).symm.trans (runAt_get h))
    rwa [e2] at this
  have hl : (runCells (rs.take k)).length = k * 2 := by rw [runCells_length, List.length_take]; omega
  have hc : runCells rs = runCells (rs.take k) ++ runCells (runAt rs k :: rs.drop (k + 1)) := by
    rw [← runCells_append, ← e]
  rw [hc]
  constructor
  · rw [List.getElem?_append_right (by omega), hl, Nat.sub_self]; rfl
  · rw [List.getElem?_append_right (by omega), hl, show k * 2 + 1 - k * 2 = 1 from by omega]; rfl

theorem ba_app (a b : List UInt8) : ((⟨a.toArray⟩ : ByteArray) ++ ⟨b.toArray⟩) = ⟨(a ++ b).toArray⟩ := by
  apply ByteArray.ext; apply Array.ext'
  rw [ByteArray.data_append, Array.toList_append]
theorem cat_take_le (rs : List (UInt8 × Nat)) (k : Nat) : (cat (rs.take k)).length ≤ (cat rs).length := by
  have : cat rs = cat (rs.take k) ++ cat (rs.drop k) := by
    unfold cat; rw [← List.flatMap_append, List.take_append_drop]
  rw [this, List.length_append]; omega

end Go.Proofs.Ytfnofajglbjgjaa.B
