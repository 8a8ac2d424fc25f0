/- Plain facts on frames: a head, how long it is, what is unstuffed of a row till there is a head and its sum. No Go, no program. -/
import Derived.Test.YtdpfmpbnahhjmaaStuff1
namespace Go.Proofs.Ytdpfmpbnahhjmaa.B

/-- what stuffing adds, from the front -/
def stfR (x : St) : List UInt8 → List UInt8
  | [] => []
  | c :: q => if (kn x c.toNat).2 = 5 then c :: other c :: stfR (kn (kn x c.toNat) (other c).toNat) q else c :: stfR (kn x c.toNat) q
theorem stf_front : ∀ (q p : List UInt8), (stf (p ++ q)).2 = (stf p).2 ++ stfR (stf p).1 q := by
  intro q
  induction q with
  | nil => intro p; simp [stfR]
  | cons c q ih =>
    intro p
    have e : p ++ c :: q = (p ++ [c]) ++ q := by simp
    rw [e, ih]
    by_cases h5 : (kn (stf p).1 c.toNat).2 = 5
    · rw [stf_full h5]; simp [stfR, h5]
    · rw [stf_plain h5]; simp [stfR, h5]

def bitAt (l : List UInt8) (i : Nat) : UInt8 := l.getD i 0
def cutL (l : List UInt8) (a b : Nat) : List UInt8 := (l.take b).drop a
/-- how long a head begins, that the row begins with; 3: too short to tell, 12: none -/
def baseL (l : List UInt8) : Nat := if bitAt l 13 = 49 then 39 else 19
def sizeL (l : List UInt8) : Nat × Nat :=
  if l.length < 14 then (0, 3)
  else if l.length < baseL l then (0, 3)
  else if 8 < num (cutL l (baseL l - 4) (baseL l)) then (0, 12)
  else (baseL l + 8 * (if bitAt l (baseL l - 7) = 49 then 0 else num (cutL l (baseL l - 4) (baseL l))), 0)
theorem bitAt_append {p : List UInt8} {i : Nat} (h : i < p.length) (q : List UInt8) : bitAt (p ++ q) i = bitAt p i := by
  unfold bitAt; rw [List.getD_eq_getElem?_getD, List.getD_eq_getElem?_getD, List.getElem?_append_left h]
theorem cutL_append {p : List UInt8} {b : Nat} (h : b ≤ p.length) (a : Nat) (q : List UInt8) : cutL (p ++ q) a b = cutL p a b := by
  unfold cutL; rw [List.take_append_of_le_length h]
theorem baseL_append {p : List UInt8} (h : 14 ≤ p.length) (q : List UInt8) : baseL (p ++ q) = baseL p := by
  unfold baseL; rw [bitAt_append (by omega)]
theorem baseL_or (l : List UInt8) : baseL l = 19 ∨ baseL l = 39 := by unfold baseL; split <;> simp
/-- what is told is told for good -/
theorem size_append {p : List UInt8} (h : (sizeL p).2 ≠ 3) (q : List UInt8) : sizeL (p ++ q) = sizeL p := by
  have h14 : ¬ p.length < 14 := by intro h'; apply h; unfold sizeL; rw [if_pos h']
  have hb : ¬ p.length < baseL p := by intro h'; apply h; unfold sizeL; rw [if_neg h14, if_pos h']
  have h14' : ¬ (p ++ q).length < 14 := by rw [List.length_append]; omega
  have hb' : ¬ (p ++ q).length < baseL p := by rw [List.length_append]; omega
  have hor := baseL_or p
  unfold sizeL
  rw [baseL_append (by omega), if_neg h14, if_neg hb, if_neg h14', if_neg hb', cutL_append (by omega), bitAt_append (by omega)]
theorem size_err (l : List UInt8) : (sizeL l).2 = 0 ∨ sizeL l = (0, 3) ∨ sizeL l = (0, 12) := by
  unfold sizeL
  split
  · exact .inr (.inl rfl)
  · split
    · exact .inr (.inl rfl)
    · split
      · exact .inr (.inr rfl)
      · exact .inl rfl

/-- there are a head and fifteen bits behind it, and nothing has to be put behind them -/
def stopB (x : St) (b : List UInt8) : Bool := decide ((sizeL b).2 = 0 ∧ b.length = (sizeL b).1 + 15 ∧ x.2 < 5)
def nextB (x : St) (b : List UInt8) (c : UInt8) : List UInt8 := if kind x c.toNat = 1 then b ++ [c] else b
def badB (b : List UInt8) : Bool := decide ((sizeL b).2 = 12 ∨ b.head? = some 49)
/-- what is unstuffed, bit by bit: the bits, how many they were, the error -/
def goL (x : St) (b : List UInt8) (n : Nat) : List UInt8 → List UInt8 × Nat × Nat
  | [] => if stopB x b then (b, n, 0) else ([], 0, 3)
  | c :: r =>
    if stopB x b then (b, n, 0)
    else if kind x c.toNat = 3 then ([], 0, 10)
    else if badB (nextB x b c) then ([], 0, 12)
    else goL (kn x c.toNat) (nextB x b c) (n + 1) r

theorem go_stop {x : St} {b : List UInt8} {n : Nat} (h : stopB x b = true) (r : List UInt8) : goL x b n r = (b, n, 0) := by
  cases r <;> simp [goL, h]
theorem go_append : ∀ (r1 : List UInt8) {x : St} {b : List UInt8} {n : Nat} {bits : List UInt8} {m : Nat}, goL x b n r1 = (bits, m, 0) → ∀ r2, goL x b n (r1 ++ r2) = (bits, m, 0) := by
  intro r1
  induction r1 with
  | nil =>
    intro x b n bits m h r2
    by_cases hs : stopB x b = true
    · rw [go_stop hs] at h ⊢; exact h
    · simp [goL, hs] at h
  | cons c r ih =>
    intro x b n bits m h r2
    by_cases hs : stopB x b = true
    · rw [go_stop hs] at h ⊢; exact h
    · rw [List.cons_append]
      unfold goL at h ⊢
      rw [if_neg hs] at h ⊢
      split at h
      · simp at h
      · rename_i hk
        rw [if_neg hk]
        split at h
        · simp at h
        · rename_i hz
          rw [if_neg hz]
          exact ih h r2
theorem go_short : ∀ (r1 : List UInt8) {x : St} {b : List UInt8} {n : Nat} {bits : List UInt8} {m : Nat} {r2 : List UInt8}, goL x b n (r1 ++ r2) = (bits, m, 0) → n + r1.length < m → goL x b n r1 = ([], 0, 3) := by
  intro r1
  induction r1 with
  | nil =>
    intro x b n bits m r2 h hm
    by_cases hs : stopB x b = true
    · rw [go_stop hs] at h; simp at h hm; omega
    · simp [goL, hs]
  | cons c r ih =>
    intro x b n bits m r2 h hm
    by_cases hs : stopB x b = true
    · rw [go_stop hs] at h; simp at h hm; omega
    · rw [List.cons_append] at h
      unfold goL at h ⊢
      rw [if_neg hs] at h ⊢
      split at h
      · simp at h
      · rename_i hk
        rw [if_neg hk]
        split at h
        · simp at h
        · rename_i hz
          rw [if_neg hz]
          exact ih h (by simp at hm; omega)
/-- what is read is what stuffing would have put there -/
theorem go_ok : ∀ (r : List UInt8) {p : List UInt8} {x : St} {b : List UInt8} {bits : List UInt8} {m : Nat}, ust p = some (x, b) → goL x b p.length r = (bits, m, 0) →
    p.length ≤ m ∧ m ≤ p.length + r.length ∧ ∃ y, ust ((p ++ r).take m) = some (y, bits) ∧ stopB y bits = true := by
  intro r
  induction r with
  | nil =>
    intro p x b bits m hu h
    by_cases hs : stopB x b = true
    · rw [go_stop hs] at h
      simp at h
      obtain ⟨rfl, rfl⟩ := h
      exact ⟨Nat.le_refl _, by simp, x, by simpa using hu, hs⟩
    · simp [goL, hs] at h
  | cons c r ih =>
    intro p x b bits m hu h
    by_cases hs : stopB x b = true
    · rw [go_stop hs] at h
      simp at h
      obtain ⟨rfl, rfl⟩ := h
      exact ⟨Nat.le_refl _, by simp, x, by simpa using hu, hs⟩
    · unfold goL at h
      rw [if_neg hs] at h
      split at h
      · simp at h
      · rename_i hk
        split at h
        · simp at h
        · have hu' : ust (p ++ [c]) = some (kn x c.toNat, nextB x b c) := by
            rw [ust_snoc, hu]; unfold uStep nextB; simp only; rw [if_neg hk]
          have := ih (p := p ++ [c]) hu' (by simpa using h)
          simp only [List.length_append, List.length_cons, List.length_nil, List.append_assoc, List.cons_append, List.nil_append] at this ⊢
          obtain ⟨h1, h2, h3⟩ := this
          exact ⟨by omega, by omega, h3⟩

/-- a head and its sum -/
def Good (l : List UInt8) : Prop := l.all okc = true ∧ 15 ≤ l.length ∧ sizeL l = (l.length - 15, 0) ∧ l.head? = some 48
theorem good_prefix {p q : List UInt8} (h : Good (p ++ q)) : (sizeL p).2 ≠ 12 ∧ ((sizeL p).2 = 0 → p.length = (sizeL p).1 + 15 → q = []) := by
  obtain ⟨_, h15, hz, _⟩ := h
  constructor
  · intro e
    have := size_append (p := p) (by omega) q
    rw [this] at hz; rw [hz] at e; cases e
  · intro e hl
    have := size_append (p := p) (by omega) q
    rw [this] at hz
    rw [hz] at hl
    simp only [List.length_append] at hl h15
    exact List.length_eq_zero_iff.1 (by omega)
theorem stop_good {l : List UInt8} (h : Good l) {x : St} (hx : x.2 ≤ 4) : stopB x l = true := by
  obtain ⟨_, h15, hz, _⟩ := h
  unfold stopB
  rw [hz]; simp; omega
theorem go_stf : ∀ (q p : List UInt8), Good (p ++ q) → ∀ rest, goL (stf p).1 p (stf p).2.length (stfR (stf p).1 q ++ rest) = (p ++ q, (stf (p ++ q)).2.length, 0) := by
  intro q
  induction q with
  | nil =>
    intro p hg rest
    rw [List.append_nil] at hg ⊢
    exact go_stop (stop_good hg (stf_le hg.1)) _
  | cons c q ih =>
    intro p hg rest
    have e : p ++ c :: q = (p ++ [c]) ++ q := by simp
    have hg' := hg
    rw [e] at hg'
    have hall := hg'.1
    rw [List.all_append, Bool.and_eq_true] at hall
    obtain ⟨hp, hc⟩ := all_snoc.1 hall.1
    have h4 := stf_le hp
    have hns : ¬ stopB (stf p).1 p = true := by
      unfold stopB
      rw [decide_eq_true_eq]
      intro ⟨h1, h2, _⟩
      have := (good_prefix hg).2 h1 h2
      cases this
    have hk : kind (stf p).1 c.toNat = 1 := by unfold kind; split <;> rw [if_neg (by omega)]
    have h12 : ¬ badB (p ++ [c]) = true := by
      unfold badB
      rw [decide_eq_true_eq]
      rintro (h | h)
      · exact (good_prefix hg').1 h
      · have := hg'.2.2.2
        rw [List.head?_append, h] at this
        simp at this
    have hn1 : nextB (stf p).1 p c = p ++ [c] := by unfold nextB; rw [if_pos hk]
    have := ih (p ++ [c]) hg' rest
    rw [← e] at this
    by_cases h5 : (kn (stf p).1 c.toNat).2 = 5
    · rw [stf_full h5] at this
      have hk2 : kind (kn (stf p).1 c.toNat) (other c).toNat = 2 := by
        unfold kind
        rw [if_neg (by rw [kn_first (by omega)]; exact other_ne hc), if_pos h5]
      have hns2 : ¬ stopB (kn (stf p).1 c.toNat) (p ++ [c]) = true := by unfold stopB; rw [decide_eq_true_eq, h5]; omega
      have hn2 : nextB (kn (stf p).1 c.toNat) (p ++ [c]) (other c) = p ++ [c] := by unfold nextB; rw [if_neg (by omega)]
      have hfr : stfR (stf p).1 (c :: q) = c :: other c :: stfR (kn (kn (stf p).1 c.toNat) (other c).toNat) q := by rw [stfR, if_pos h5]
      rw [hfr, List.cons_append, List.cons_append, goL, if_neg hns, if_neg (by omega), hn1, if_neg h12, goL, if_neg hns2, if_neg (by omega), hn2, if_neg h12]
      rw [← this]
      simp [Nat.add_assoc]
    · rw [stf_plain h5] at this
      have hfr : stfR (stf p).1 (c :: q) = c :: stfR (kn (stf p).1 c.toNat) q := by rw [stfR, if_neg h5]
      rw [hfr, List.cons_append, goL, if_neg hns, if_neg (by omega), hn1, if_neg h12]
      rw [← this]
      simp
/-- a row that begins with a head and its sum, stuffed -/
theorem go_good {l : List UInt8} (h : Good l) (rest : List UInt8) : goL (0, 0) [] 0 ((stf l).2 ++ rest) = (l, (stf l).2.length, 0) := by
  have h1 := go_stf l [] (by simpa using h) rest
  have h2 := stf_front l []
  simp only [List.nil_append, stf_nil] at h1 h2
  rw [← h2] at h1
  exact h1
end Go.Proofs.Ytdpfmpbnahhjmaa.B
