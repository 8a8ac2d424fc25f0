/- Plain facts on the runs of a row. No Go, no program. -/
import Derived.Test.YtfnofajglbjgjaaBits
namespace Go.Proofs.Ytfnofajglbjgjaa.B

/-- one more of the last run -/
def bump (rs : List (UInt8 × Nat)) : List (UInt8 × Nat) := rs.dropLast ++ (rs.getLast?.toList.map fun r => (r.1, r.2 + 1))
/-- what the runs become by a bit -/
def runStep (rs : List (UInt8 × Nat)) (c : UInt8) : List (UInt8 × Nat) := bump (if rs.getLast?.map (·.1) = some c then rs else rs ++ [(c, 0)])
def runsOf (l : List UInt8) : List (UInt8 × Nat) := l.foldl runStep []
def runsTo (s : ByteArray) (k : Nat) : List (UInt8 × Nat) := runsOf (s.data.toList.take k)
theorem bump_snoc (rs : List (UInt8 × Nat)) (b : UInt8) (m : Nat) : bump (rs ++ [(b, m)]) = rs ++ [(b, m + 1)] := by simp [bump]
theorem runsOf_snoc (l : List UInt8) (c : UInt8) : runsOf (l ++ [c]) = runStep (runsOf l) c := by simp [runsOf]
theorem runsTo_zero (s : ByteArray) : runsTo s 0 = [] := by simp [runsTo, runsOf]
theorem runsTo_succ (s : ByteArray) (k : Nat) (h : k < s.size) : runsTo s (k + 1) = runStep (runsTo s k) s[k] := by
  unfold runsTo; rw [take_snoc s k h, runsOf_snoc]
/-- the last run is of the last bit -/
theorem runStep_last (rs : List (UInt8 × Nat)) (c : UInt8) : ∃ rs' m, runStep rs c = rs' ++ [(c, m + 1)] ∧ (rs.getLast?.map (·.1) = some c → rs = rs' ++ [(c, m)]) ∧ (¬ rs.getLast?.map (·.1) = some c → rs = rs' ∧ m = 0) := by
  unfold runStep
  by_cases h : rs.getLast?.map (·.1) = some c
  · rw [if_pos h]
    obtain ⟨⟨b, m⟩, hl, hb⟩ := Option.map_eq_some_iff.1 h
    simp at hb; subst hb
    obtain ⟨rs', rfl⟩ : ∃ a, rs = a ++ [(b, m)] := by
      have hne : rs ≠ [] := by intro e; simp [e] at hl
      rw [List.getLast?_eq_some_getLast hne] at hl
      exact ⟨rs.dropLast, by rw [← Option.some.inj hl]; exact (List.dropLast_concat_getLast hne).symm⟩
    exact ⟨rs', m, bump_snoc _ _ _, fun _ => rfl, fun e => absurd h e⟩
  · rw [if_neg h]
    exact ⟨rs, 0, bump_snoc _ _ _, fun e => absurd e h, fun _ => ⟨rfl, rfl⟩⟩
theorem runsTo_last (s : ByteArray) (k : Nat) (h0 : 0 < k) (h : k ≤ s.size) : (runsTo s k).getLast?.map (·.1) = some (s[k - 1]'(by omega)) := by
  obtain ⟨j, rfl⟩ : ∃ j, k = j + 1 := ⟨k - 1, by omega⟩
  rw [runsTo_succ s j (by omega)]
  obtain ⟨rs', m, e, _⟩ := runStep_last (runsTo s j) s[j]
  rw [e]; simp
/-- a new run, or one more of the last one -/
theorem runsTo_new (s : ByteArray) (k : Nat) (h : k < s.size) (hn : k = 0 ∨ ∃ h0 : 0 < k, ¬ (s[k - 1]'(by omega)).toNat = s[k].toNat) : runsTo s (k + 1) = runsTo s k ++ [(s[k], 1)] := by
  rw [runsTo_succ s k h]
  obtain ⟨rs', m, e, _, h2⟩ := runStep_last (runsTo s k) s[k]
  obtain ⟨h3, h4⟩ := h2 (by
    rcases hn with rfl | ⟨h0, hn⟩
    · rw [runsTo_zero]; simp
    · rw [runsTo_last s k h0 (by omega)]; intro e; apply hn; rw [Option.some.inj e])
  rw [e, ← h3, h4]
theorem runsTo_more (s : ByteArray) (k : Nat) (h : k < s.size) (h0 : 0 < k) (hn : (s[k - 1]'(by omega)).toNat = s[k].toNat) : ∃ rs' m, runsTo s k = rs' ++ [(s[k], m)] ∧ runsTo s (k + 1) = rs' ++ [(s[k], m + 1)] := by
  rw [runsTo_succ s k h]
  obtain ⟨rs', m, e, h1, _⟩ := runStep_last (runsTo s k) s[k]
  exact ⟨rs', m, h1 (by rw [runsTo_last s k h0 (by omega), UInt8.toNat_inj.1 hn]), e⟩

/-- the cells of runs -/
def runCells (rs : List (UInt8 × Nat)) : List Value := rs.flatMap fun r => [.int .u8 r.1.toNat, .int .i64 r.2]
theorem runCells_append (a b : List (UInt8 × Nat)) : runCells (a ++ b) = runCells a ++ runCells b := by simp [runCells]
theorem runCells_length (rs : List (UInt8 × Nat)) : (runCells rs).length = 2 * rs.length := by
  induction rs with
  | nil => rfl
  | cons r rs ih => simp only [runCells, List.flatMap_cons, List.length_append, List.length_cons] at ih ⊢; rw [ih]; simp; omega
theorem runCells_set (rs : List (UInt8 × Nat)) (c : UInt8) (m n : Nat) : (runCells (rs ++ [(c, m)])).set (rs.length * 2 + 1) (.int .i64 n) = runCells (rs ++ [(c, n)]) := by
  rw [runCells_append, runCells_append, List.set_append, if_neg (by rw [runCells_length]; omega), runCells_length, show rs.length * 2 + 1 - 2 * rs.length = 1 from by omega]
  simp [runCells]
theorem runCells_at (rs : List (UInt8 × Nat)) (c : UInt8) (m : Nat) : (runCells (rs ++ [(c, m)]))[rs.length * 2 + 1]? = some (.int .i64 m) := by
  rw [runCells_append, List.getElem?_append_right (by rw [runCells_length]; omega), runCells_length, show rs.length * 2 + 1 - 2 * rs.length = 1 from by omega]
  simp [runCells]
/-- counts: no run is longer than the row -/
theorem runs_sum (l : List UInt8) : ((runsOf l).map (·.2)).sum = l.length := by
  generalize hn : l.length = n
  induction n generalizing l with
  | zero => rw [List.length_eq_zero_iff] at hn; subst hn; rfl
  | succ n ih =>
    obtain ⟨a, c, rfl⟩ : ∃ a c, l = a ++ [c] := by
      have : l ≠ [] := by intro e; simp [e] at hn
      exact ⟨l.dropLast, l.getLast this, (List.dropLast_concat_getLast this).symm⟩
    have hi := ih a (by simpa using hn)
    rw [runsOf_snoc]
    obtain ⟨rs', m, e, h1, h2⟩ := runStep_last (runsOf a) c
    rw [e]
    by_cases h : (runsOf a).getLast?.map (·.1) = some c
    · rw [h1 h] at hi; simp at hi ⊢; omega
    · obtain ⟨h3, h4⟩ := h2 h
      rw [h3] at hi; subst h4; simp at hi ⊢; omega
theorem runs_le (l : List UInt8) : (runsOf l).length ≤ l.length := by
  generalize hn : l.length = n
  induction n generalizing l with
  | zero => rw [List.length_eq_zero_iff] at hn; subst hn; simp [runsOf]
  | succ n ih =>
    obtain ⟨a, c, rfl⟩ : ∃ a c, l = a ++ [c] := by
      have : l ≠ [] := by intro e; simp [e] at hn
      exact ⟨l.dropLast, l.getLast this, (List.dropLast_concat_getLast this).symm⟩
    have hi := ih a (by simpa using hn)
    rw [runsOf_snoc]
    obtain ⟨rs', m, e, h1, h2⟩ := runStep_last (runsOf a) c
    rw [e]
    by_cases h : (runsOf a).getLast?.map (·.1) = some c
    · rw [h1 h] at hi; simp at hi ⊢; omega
    · obtain ⟨h3, h4⟩ := h2 h
      rw [h3] at hi; simp at hi ⊢; omega

end Go.Proofs.Ytfnofajglbjgjaa.B
