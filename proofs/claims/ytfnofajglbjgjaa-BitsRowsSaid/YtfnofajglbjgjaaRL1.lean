/- Plain facts for the law BitsRows: rows that are cut one by one. No Go, no program. -/
import Derived.Test.YtfnofajglbjgjaaShort
import Derived.Test.YtfnofajglbjgjaaRows1
import Derived.Lib.Join
namespace Go.Proofs.Ytfnofajglbjgjaa.B
open Go.Lib

def cuts (ss : List ByteArray) : List ByteArray := ss.map fun s => cutS s 300
theorem cuts_length (ss : List ByteArray) : (cuts ss).length = ss.length := by simp [cuts]
theorem at_cuts {ss : List ByteArray} {k : Nat} (h : k < ss.length) : at_ (cuts ss) k = cutS (at_ ss k) 300 := by
  unfold at_ cuts
  rw [List.getD_eq_getElem?_getD, List.getD_eq_getElem?_getD, List.getElem?_map, List.getElem?_eq_getElem h]; rfl
/-- the row of cells while the rows are cut -/
def mix (ss : List ByteArray) (k : Nat) : List ByteArray := (cuts ss).take k ++ ss.drop k
theorem mix_zero (ss : List ByteArray) : mix ss 0 = ss := by simp [mix]
theorem mix_full (ss : List ByteArray) : mix ss ss.length = cuts ss := by
  unfold mix; rw [List.take_of_length_le (by rw [cuts_length]; omega)]; simp
theorem mix_length (ss : List ByteArray) (k : Nat) (h : k ≤ ss.length) : (mix ss k).length = ss.length := by
  simp [mix, cuts_length]; omega
theorem mix_old {ss : List ByteArray} {k : Nat} (h : k < ss.length) : (mix ss k)[k]? = some (at_ ss k) := by
  unfold mix at_
  rw [List.getElem?_append_right (by simp [cuts_length]; omega), List.length_take, cuts_length, Nat.min_eq_left (by omega), Nat.sub_self, List.getElem?_drop, List.getD_eq_getElem?_getD, Nat.add_zero, List.getElem?_eq_getElem h]; rfl
theorem mix_new {ss : List ByteArray} {k j : Nat} (hj : j < k) (h : k ≤ ss.length) : (mix ss k)[j]? = some (at_ (cuts ss) j) := by
  unfold mix at_
  rw [List.getElem?_append_left (by simp [cuts_length]; omega), List.getElem?_take, if_pos hj, List.getD_eq_getElem?_getD, List.getElem?_eq_getElem (by rw [cuts_length]; omega)]; rfl
theorem mix_set {ss : List ByteArray} {k : Nat} (h : k < ss.length) : (mix ss k).set k (at_ (cuts ss) k) = mix ss (k + 1) := by
  apply List.ext_getElem?
  intro i
  rw [List.getElem?_set, mix_length _ _ (by omega)]
  by_cases e : k = i
  · subst e; rw [if_pos rfl, if_pos h, mix_new (by omega) (by omega)]
  · rw [if_neg e]
    by_cases h1 : i < k
    · rw [mix_new h1 (by omega), mix_new (by omega) (by omega)]
    · unfold mix
      rw [List.getElem?_append_right (by simp [cuts_length]; omega), List.getElem?_append_right (by simp [cuts_length]; omega), List.getElem?_drop, List.getElem?_drop]
      congr 1; simp [cuts_length]; omega
/-- are the first k cut rows well -/
def wellTo (ss : List ByteArray) (k : Nat) : Bool := decide (0 < ss.length) && ((cuts ss).take k).all (okrow (at_ (cuts ss) 0))
theorem wellTo_zero (ss : List ByteArray) : wellTo ss 0 = decide (0 < ss.length) := by simp [wellTo]
theorem wellTo_succ {ss : List ByteArray} {k : Nat} (h : k < ss.length) : wellTo ss (k + 1) = (wellTo ss k && okrow (at_ (cuts ss) 0) (at_ (cuts ss) k)) := by
  unfold wellTo
  rw [List.take_succ_eq_append_getElem (by rw [cuts_length]; exact h), List.all_append, Bool.and_assoc]
  congr 2
  have : (cuts ss)[k]'(by rw [cuts_length]; exact h) = at_ (cuts ss) k := by
    unfold at_; rw [List.getD_eq_getElem?_getD, List.getElem?_eq_getElem (by rw [cuts_length]; exact h)]; rfl
  rw [this]; simp
theorem wellTo_full (ss : List ByteArray) : wellTo ss ss.length = alike (cuts ss) := by
  unfold wellTo alike
  rw [List.take_of_length_le (by rw [cuts_length]; omega)]
  congr 1
  cases ss <;> simp [cuts]
theorem cuts_size {ss : List ByteArray} : ∀ s ∈ cuts ss, s.size ≤ 300 := by
  intro s hs
  obtain ⟨x, _, rfl⟩ := List.mem_map.1 hs
  have : (cutS x 300).size = min 300 x.size := cutS_size x 300
  omega
theorem join_le (cs : List ByteArray) (h : ∀ s ∈ cs, s.size ≤ 300) (hn : cs.length ≤ 8) : (Lib.join (cs.map (·.data.toList)) []).length ≤ 2400 := by
  have key : ∀ l : List ByteArray, (∀ s ∈ l, s.size ≤ 300) → (Lib.join (l.map (·.data.toList)) []).length ≤ 300 * l.length := by
    intro l
    induction l with
    | nil => intro _; simp [Lib.join_nil]
    | cons a l ih =>
      intro hl
      have h1 := ih (fun s hs => hl s (List.mem_cons_of_mem _ hs))
      have h2 := hl a (List.mem_cons_self)
      cases l with
      | nil => simp only [List.map_cons, List.map_nil, Lib.join_one, size_len, List.length_cons, List.length_nil]; omega
      | cons b l =>
        simp only [List.map_cons, Lib.join, List.intercalate] at h1 ⊢
        simp only [List.intersperse_cons_cons, List.flatten_cons, List.nil_append, List.length_append, List.length_cons, size_len] at h1 ⊢
        omega
  have := key cs h
  omega

end Go.Proofs.Ytfnofajglbjgjaa.B
