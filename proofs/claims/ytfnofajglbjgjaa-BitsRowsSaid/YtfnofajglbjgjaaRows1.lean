/- Plain facts on several rows put on one bus. No Go, no program. -/
import Derived.Test.YtfnofajglbjgjaaBits
namespace Go.Proofs.Ytfnofajglbjgjaa.B

/-- the i-th of some rows -/
def at_ (ss : List ByteArray) (i : Nat) : ByteArray := ss.getD i ByteArray.empty
/-- a row that may be, as long as the first one -/
def okrow (h s : ByteArray) : Bool := right s && s.size == h.size
def alike (ss : List ByteArray) : Bool := !ss.isEmpty && ss.all (okrow (at_ ss 0))
def preA (ss : List ByteArray) (k : Nat) : Prop := ∀ i, i < k → okrow (at_ ss 0) (at_ ss i) = true
theorem preA_zero (ss : List ByteArray) : preA ss 0 := fun i h => absurd h (by omega)
theorem preA_succ {ss : List ByteArray} {k : Nat} (h : preA ss k) (h1 : right (at_ ss k) = true) (h2 : (at_ ss k).size = (at_ ss 0).size) : preA ss (k + 1) := by
  intro i hi
  by_cases e : i = k
  · subst e; simp [okrow, h1, h2]
  · exact h i (by omega)
theorem at_mem {ss : List ByteArray} {k : Nat} (h : k < ss.length) : at_ ss k ∈ ss := by
  unfold at_; rw [List.getD_eq_getElem?_getD, List.getElem?_eq_getElem h]; simp
theorem alike_bad {ss : List ByteArray} {k : Nat} (h : k < ss.length) (hb : right (at_ ss k) = false ∨ ¬ (at_ ss k).size = (at_ ss 0).size) : alike ss = false := by
  have : ss.all (okrow (at_ ss 0)) = false := by
    rw [Bool.eq_false_iff]; intro e
    have := List.all_eq_true.1 e _ (at_mem h)
    simp only [okrow, Bool.and_eq_true, beq_iff_eq] at this
    rcases hb with hb | hb
    · rw [hb] at this; simp at this
    · exact hb this.2
  unfold alike; rw [this, Bool.and_false]
theorem alike_of {ss : List ByteArray} (h : preA ss ss.length) : alike ss = decide (0 < ss.length) := by
  have : ss.all (okrow (at_ ss 0)) = true := by
    rw [List.all_eq_true]; intro s hs
    obtain ⟨i, hi, rfl⟩ := List.getElem_of_mem hs
    have := h i hi
    unfold at_ at this ⊢
    rwa [List.getD_eq_getElem?_getD (l := ss) (i := i), List.getElem?_eq_getElem hi] at this
  unfold alike; rw [this, Bool.and_true]
  cases ss <;> simp
theorem alike_row {ss : List ByteArray} (h : alike ss = true) (k : Nat) (hk : k < ss.length) : right (at_ ss k) = true ∧ (at_ ss k).size = (at_ ss 0).size := by
  unfold alike at h
  rw [Bool.and_eq_true] at h
  have := List.all_eq_true.1 h.2 _ (at_mem hk)
  simpa [okrow] using this
theorem alike_pos {ss : List ByteArray} (h : alike ss = true) : 0 < ss.length := by
  unfold alike at h; cases ss <;> simp at h ⊢

/-- a bit of two: dominant where one is -/
def low (a b : UInt8) : UInt8 := if b = 48 then 48 else a
/-- what a bus that had l has with the row s on it, as far as the first k bits -/
def pullTo (l : List UInt8) (s : List UInt8) (k : Nat) : List UInt8 := (List.zipWith low (l.take k) s) ++ l.drop k
def pull (l s : List UInt8) : List UInt8 := List.zipWith low l s
theorem pullTo_zero (l s : List UInt8) : pullTo l s 0 = l := by simp [pullTo]
theorem pullTo_length (l s : List UInt8) (k : Nat) (h : s.length = l.length) : (pullTo l s k).length = l.length := by
  simp [pullTo, h]; omega
theorem pullTo_full (l s : List UInt8) : pullTo l s l.length = pull l s := by
  simp [pullTo, pull]
theorem pull_length (l s : List UInt8) (h : s.length = l.length) : (pull l s).length = l.length := by simp [pull, h]
theorem pullTo_get (l s : List UInt8) (k i : Nat) (h : s.length = l.length) : (pullTo l s k)[i]? = if i < k then (l[i]?).bind fun a => (s[i]?).map (low a) else l[i]? := by
  unfold pullTo
  by_cases hi : i < k
  · rw [if_pos hi]
    by_cases hl : i < l.length
    · rw [List.getElem?_append_left (by simp [h]; omega), List.getElem?_zipWith, List.getElem?_take, if_pos hi, List.getElem?_eq_getElem hl, List.getElem?_eq_getElem (by omega : i < s.length)]; simp
    · rw [List.getElem?_eq_none (by simp [h]; omega), List.getElem?_eq_none (by omega : l.length ≤ i)]; simp
  · rw [if_neg hi]
    by_cases hl : k ≤ l.length
    · rw [List.getElem?_append_right (by simp [h]; omega), List.getElem?_drop]
      congr 1; simp [h]; omega
    · rw [List.getElem?_eq_none (by simp [h]; omega), List.getElem?_eq_none (by omega)]
theorem pullTo_same {l s : List UInt8} {k : Nat} (h : s.length = l.length) (hk : k < l.length) (hs : ¬ s[k]? = some 48) : pullTo l s (k + 1) = pullTo l s k := by
  apply List.ext_getElem?
  intro i
  rw [pullTo_get _ _ _ _ h, pullTo_get _ _ _ _ h]
  by_cases e : i = k
  · subst e
    rw [if_pos (by omega), if_neg (by omega)]
    rw [List.getElem?_eq_getElem (by omega : i < s.length)] at hs ⊢
    rw [List.getElem?_eq_getElem hk]
    simp at hs
    simp [low, hs]
  · by_cases h1 : i < k
    · rw [if_pos (by omega), if_pos h1]
    · rw [if_neg (by omega), if_neg h1]
theorem pullTo_set {l s : List UInt8} {k : Nat} (h : s.length = l.length) (hk : k < l.length) (hs : s[k]? = some 48) : pullTo l s (k + 1) = (pullTo l s k).set k 48 := by
  apply List.ext_getElem?
  intro i
  rw [List.getElem?_set, pullTo_get _ _ _ _ h, pullTo_get _ _ _ _ h, pullTo_length _ _ _ h]
  by_cases e : k = i
  · subst e
    rw [if_pos (by omega), if_pos rfl, if_pos hk, hs, List.getElem?_eq_getElem hk]
    simp [low]
  · rw [if_neg e]
    by_cases h1 : i < k
    · rw [if_pos (by omega), if_pos h1]
    · rw [if_neg (by omega), if_neg h1]

/-- what a bus has of rows: the first one, and each other one pulled onto it -/
def andTo (ss : List ByteArray) (k : Nat) : List UInt8 := (ss.drop 1 |>.take k).foldl (fun l s => pull l s.data.toList) (at_ ss 0).data.toList
def andL (ss : List ByteArray) : List UInt8 := andTo ss (ss.length - 1)
theorem andTo_zero (ss : List ByteArray) : andTo ss 0 = (at_ ss 0).data.toList := by simp [andTo]
theorem andTo_succ {ss : List ByteArray} {k : Nat} (h : k + 1 < ss.length) : andTo ss (k + 1) = pull (andTo ss k) (at_ ss (k + 1)).data.toList := by
  unfold andTo
  rw [List.take_succ_eq_append_getElem (by simp; omega), List.foldl_append]
  simp only [List.foldl_cons, List.foldl_nil, List.getElem_drop]
  congr 2
  unfold at_
  rw [List.getD_eq_getElem?_getD, List.getElem?_eq_getElem h]
  simp [Nat.add_comm 1 k]
theorem andTo_length {ss : List ByteArray} (h : alike ss = true) (k : Nat) (hk : k < ss.length) : (andTo ss k).length = (at_ ss 0).size := by
  induction k with
  | zero => rw [andTo_zero, size_len]
  | succ k ih =>
    rw [andTo_succ hk, pull_length _ _ (by rw [ih (by omega), size_len]; exact (alike_row h _ hk).2), ih (by omega)]

/-- of bits alone: the order does not matter, a row put twice changes nothing, recessive bits neither -/
theorem okc_cases {c : UInt8} (h : okc c = true) : c = 48 ∨ c = 49 := by
  rcases (okc_iff c).1 h with e | e
  · exact .inl (UInt8.toNat_inj.1 e)
  · exact .inr (UInt8.toNat_inj.1 e)
theorem low_comm {a b : UInt8} (ha : okc a = true) (hb : okc b = true) : low a b = low b a := by
  rcases okc_cases ha with rfl | rfl <;> rcases okc_cases hb with rfl | rfl <;> rfl
theorem low_twice (a b : UInt8) : low (low a b) a = low a b := by
  unfold low; split <;> split <;> simp_all
theorem low_one (a : UInt8) : low a 49 = a := rfl
theorem okc_low {a b : UInt8} (ha : okc a = true) : okc (low a b) = true := by
  unfold low; split
  · rfl
  · exact ha
theorem pull_comm (l s : List UInt8) (hl : l.all okc = true) (hs : s.all okc = true) : pull l s = pull s l := by
  unfold pull
  induction l generalizing s with
  | nil => cases s <;> rfl
  | cons a l ih =>
    cases s with
    | nil => rfl
    | cons b s =>
      simp only [List.all_cons, Bool.and_eq_true] at hl hs
      simp only [List.zipWith_cons_cons]
      rw [low_comm hl.1 hs.1, ih s hl.2 hs.2]
theorem pull_twice (l s : List UInt8) (h : s.length = l.length) : pull (pull l s) l = pull l s := by
  unfold pull
  induction l generalizing s with
  | nil => cases s <;> rfl
  | cons a l ih =>
    cases s with
    | nil => rfl
    | cons b s =>
      simp only [List.zipWith_cons_cons, low_twice]
      rw [ih s (by simpa using h)]
theorem pull_ones (l : List UInt8) : pull l (List.replicate l.length 49) = l := by
  unfold pull
  induction l with
  | nil => rfl
  | cons a l ih => rw [List.length_cons, List.replicate_succ, List.zipWith_cons_cons, low_one, ih]
theorem pull_get {l s : List UInt8} {i : Nat} (h : s.length = l.length) (hi : i < l.length) : (pull l s)[i]? = some (low l[i] (s[i]'(by omega))) := by
  unfold pull; rw [List.getElem?_zipWith, List.getElem?_eq_getElem hi, List.getElem?_eq_getElem (by omega)]

theorem alike2 {s t : ByteArray} (h : s.size = t.size) : alike [s, t] = (right s && right t) := by
  simp [alike, at_, okrow, h]
theorem alike4 {s t o : ByteArray} (h : s.size = t.size) (ho : o.size = t.size) (hr : right o = true) : alike [s, t, s, o] = (right s && right t) := by
  simp [alike, at_, okrow, h, ho, hr]
  cases right s <;> cases right t <;> rfl
theorem andL2 (s t : ByteArray) : andL [s, t] = pull s.data.toList t.data.toList := rfl
theorem andL4 (s t o : ByteArray) : andL [s, t, s, o] = pull (pull (pull s.data.toList t.data.toList) s.data.toList) o.data.toList := rfl
/-- two rows of one length on one bus -/
def bus2 (s t : ByteArray) : ByteArray := ⟨(pull s.data.toList t.data.toList).toArray⟩
theorem bus2_size {s t : ByteArray} (h : s.size = t.size) : (bus2 s t).size = t.size := by
  show (pull s.data.toList t.data.toList).length = _
  rw [pull_length _ _ (by rw [size_len, size_len]; omega), size_len, h]
theorem bus2_comm {s t : ByteArray} (hs : right s = true) (ht : right t = true) : bus2 s t = bus2 t s := by
  unfold bus2; rw [pull_comm _ _ (right_all hs) (right_all ht)]
theorem bus2_at {s t : ByteArray} (h : s.size = t.size) (k : Nat) (h1 : k < (bus2 s t).size) (h2 : k < s.size) (h3 : k < t.size) : (bus2 s t)[k] = low s[k] t[k] := by
  have := pull_get (l := s.data.toList) (s := t.data.toList) (i := k) (by rw [size_len, size_len]; omega) (by rw [size_len]; exact h2)
  have e : (pull s.data.toList t.data.toList)[k]? = some (bus2 s t)[k] := List.getElem?_eq_getElem (l := pull s.data.toList t.data.toList) h1
  rw [this] at e
  exact (Option.some.inj e).symm
theorem bus4 {s t o : ByteArray} {n : Nat} (h : s.size = t.size) (hn : t.size = n) (ho : o.data.toList = List.replicate n 49) : (⟨(andL [s, t, s, o]).toArray⟩ : ByteArray) = bus2 s t := by
  have hl : (pull s.data.toList t.data.toList).length = n := by rw [pull_length _ _ (by rw [size_len, size_len]; omega), size_len]; omega
  have h1 := pull_ones (pull s.data.toList t.data.toList)
  rw [hl] at h1
  rw [andL4, pull_twice _ _ (by rw [size_len, size_len]; omega), ho, h1]; rfl

end Go.Proofs.Ytfnofajglbjgjaa.B
