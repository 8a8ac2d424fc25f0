/- Plain facts on the sum of fifteen bits: a step is linear; a pattern of fifteen bits or fewer leaves something; dividing on paper comes to the same. No Go, no program. -/
import Derived.Test.YtdpfmpbnahhjmaaBits
namespace Go.Proofs.Ytdpfmpbnahhjmaa.B

/-- what a sum becomes by a bit -/
def stepN (s : Nat) (b : Bool) : Nat := (2 * s % 32768) ^^^ (if s.testBit 14 != b then 17817 else 0)
theorem stepN_lt (s : Nat) (b : Bool) : stepN s b < 32768 := by
  unfold stepN
  refine Nat.xor_lt_two_pow (n := 15) (Nat.mod_lt _ (by omega)) ?_
  split <;> omega
theorem stepN_bit (s : Nat) (b : Bool) (i : Nat) (hi : i < 15) : (stepN s b).testBit i = ((decide (1 ≤ i) && s.testBit (i - 1)) != ((s.testBit 14 != b) && Nat.testBit 17817 i)) := by
  unfold stepN
  rw [Nat.testBit_xor]
  have h1 : (2 * s % 32768).testBit i = (decide (1 ≤ i) && s.testBit (i - 1)) := by
    rw [show (32768 : Nat) = 2 ^ 15 from rfl, Nat.testBit_mod_two_pow, Nat.mul_comm, show s * 2 = s * 2 ^ 1 from by simp, Nat.testBit_mul_two_pow]
    simp [hi]
  rw [h1]
  cases s.testBit 14 != b <;> simp
theorem nat_eq_15 {a b : Nat} (ha : a < 32768) (hb : b < 32768) (h : ∀ i, i < 15 → a.testBit i = b.testBit i) : a = b := by
  apply Nat.eq_of_testBit_eq
  intro i
  by_cases hi : i < 15
  · exact h i hi
  · have hp : 2 ^ 15 ≤ 2 ^ i := Nat.pow_le_pow_right (by omega) (by omega)
    rw [Nat.testBit_lt_two_pow (Nat.lt_of_lt_of_le ha hp), Nat.testBit_lt_two_pow (Nat.lt_of_lt_of_le hb hp)]
/-- a step is linear -/
theorem stepN_xor (s t : Nat) (b c : Bool) : stepN (s ^^^ t) (b != c) = stepN s b ^^^ stepN t c := by
  apply nat_eq_15 (stepN_lt _ _) (Nat.xor_lt_two_pow (n := 15) (stepN_lt _ _) (stepN_lt _ _))
  intro i hi
  rw [Nat.testBit_xor, stepN_bit _ _ _ hi, stepN_bit _ _ _ hi, stepN_bit _ _ _ hi, Nat.testBit_xor, Nat.testBit_xor]
  cases s.testBit 14 <;> cases t.testBit 14 <;> cases s.testBit (i - 1) <;> cases t.testBit (i - 1) <;> cases b <;> cases c <;> cases decide (1 ≤ i) <;> cases Nat.testBit 17817 i <;> rfl

/-- the sum that bits make of s -/
def sumB (s : Nat) (l : List Bool) : Nat := l.foldl stepN s
theorem sumB_append (s : Nat) (a b : List Bool) : sumB s (a ++ b) = sumB (sumB s a) b := by simp [sumB]
theorem sumB_snoc (s : Nat) (a : List Bool) (c : Bool) : sumB s (a ++ [c]) = stepN (sumB s a) c := by simp [sumB]
theorem sumB_lt (l : List Bool) : sumB 0 l < 32768 := by
  rcases List.eq_nil_or_concat l with rfl | ⟨a, c, rfl⟩
  · simp [sumB]
  · rw [List.concat_eq_append, sumB_snoc]; exact stepN_lt _ _
def xorB (a b : List Bool) : List Bool := List.zipWith (fun x y => x != y) a b
theorem sumB_xor (s t : Nat) (a b : List Bool) (h : a.length = b.length) : sumB (s ^^^ t) (xorB a b) = sumB s a ^^^ sumB t b := by
  induction a generalizing b s t with
  | nil => cases b with | nil => rfl | cons _ _ => simp at h
  | cons x a ih =>
    cases b with
    | nil => simp at h
    | cons y b =>
      simp only [xorB, List.zipWith_cons_cons, sumB, List.foldl_cons]
      rw [stepN_xor]
      exact ih _ _ b (by simpa using h)
theorem stepN_zero : stepN 0 false = 0 := by decide
theorem stepN_one : stepN 0 true = 17817 := by decide
theorem sumB_zeros (n : Nat) : sumB 0 (List.replicate n false) = 0 := by
  induction n with
  | zero => rfl
  | succ n ih => rw [List.replicate_succ', sumB_snoc, ih, stepN_zero]

/-- one step back: what ends in m zeros began in m - 1, and its highest bit was the bit -/
theorem stepN_back {s : Nat} {b : Bool} {m : Nat} (hm : 1 ≤ m) (hm2 : m ≤ 15) (h : stepN s b % 2 ^ m = 0) : s.testBit 14 = b ∧ s % 2 ^ (m - 1) = 0 := by
  have hbit : ∀ i, i < m → (stepN s b).testBit i = false := by
    intro i hi
    have : (stepN s b % 2 ^ m).testBit i = (stepN s b).testBit i := by rw [Nat.testBit_mod_two_pow]; simp [hi]
    rw [← this, h]; simp
  have h0 := hbit 0 (by omega)
  rw [stepN_bit s b 0 (by omega)] at h0
  have hd : (s.testBit 14 != b) = false := by
    cases hx : s.testBit 14 != b
    · rfl
    · have hp : Nat.testBit 17817 0 = true := by decide
      rw [hx, hp] at h0
      simp at h0
  refine ⟨by simpa using hd, ?_⟩
  apply Nat.eq_of_testBit_eq
  intro i
  rw [Nat.testBit_mod_two_pow, Nat.zero_testBit]
  by_cases hi : i < m - 1
  · have := hbit (i + 1) (by omega)
    rw [stepN_bit s b (i + 1) (by omega), hd] at this
    simp at this
    simp [this]
  · simp [hi]
theorem sumB_back (l : List Bool) : ∀ {s m : Nat}, m ≤ 15 → l.length ≤ m → sumB s l % 2 ^ m = 0 → s % 2 ^ (m - l.length) = 0 := by
  induction l with
  | nil => intro s m _ _ h; simpa [sumB] using h
  | cons b l ih =>
    intro s m h15 hl h
    have h1 : stepN s b % 2 ^ (m - l.length) = 0 := ih (s := stepN s b) h15 (by simp at hl; omega) h
    have h2 := (stepN_back (by simp at hl; omega) (by omega) h1).2
    rwa [show m - l.length - 1 = m - (b :: l).length from by simp; omega] at h2
/-- a zero behind it makes nothing of what is something -/
theorem stepN_ne {s : Nat} (hs : s < 32768) (h : s ≠ 0) : stepN s false ≠ 0 := by
  intro e
  have := stepN_back (s := s) (b := false) (m := 15) (by omega) (by omega) (by rw [e])
  apply h
  apply nat_eq_15 hs (by omega)
  intro i hi
  rw [Nat.zero_testBit]
  by_cases h14 : i = 14
  · rw [h14]; exact this.1
  · have h2 : (s % 2 ^ 14).testBit i = s.testBit i := by rw [Nat.testBit_mod_two_pow]; simp; omega
    rw [← h2, show s % 2 ^ 14 = 0 from this.2, Nat.zero_testBit]
theorem sumB_ne {s : Nat} (hs : s < 32768) (h : s ≠ 0) (n : Nat) : sumB s (List.replicate n false) ≠ 0 ∧ sumB s (List.replicate n false) < 32768 := by
  induction n with
  | zero => exact ⟨h, hs⟩
  | succ n ih => rw [List.replicate_succ', sumB_snoc]; exact ⟨stepN_ne ih.2 ih.1, stepN_lt _ _⟩
/-- fifteen bits or fewer, not all zero, leave something -/
theorem burst_ne (l : List Bool) (hl : l.length ≤ 15) (h : true ∈ l) : sumB 0 l ≠ 0 := by
  intro e
  induction l with
  | nil => simp at h
  | cons b l ih =>
    cases b with
    | false =>
      refine ih (by simp at hl; omega) (by simpa using h) ?_
      simpa [sumB, stepN_zero] using e
    | true =>
      have e1 : sumB 17817 l = 0 := by simpa [sumB, stepN_one] using e
      have := sumB_back l (s := 17817) (m := 15) (by omega) (by simp at hl; omega) (by rw [e1])
      simp at hl
      have h2 : (17817 % 2 ^ (15 - l.length)) % 2 = 0 := by rw [this]
      rw [Nat.mod_mod_of_dvd _ (show 2 ∣ 2 ^ (15 - l.length) from by rw [show 15 - l.length = (14 - l.length) + 1 from by omega, Nat.pow_succ]; exact Nat.dvd_mul_left _ _)] at h2
      omega
/-- so do they between zeros -/
theorem burst_between (a b : Nat) (l : List Bool) (hl : l.length ≤ 15) : sumB 0 (List.replicate a false ++ l ++ List.replicate b false) = 0 ↔ ¬ true ∈ l := by
  rw [sumB_append, sumB_append, sumB_zeros]
  constructor
  · intro e h
    exact (sumB_ne (sumB_lt l) (burst_ne l hl h) b).1 e
  · intro h
    have : l = List.replicate l.length false := by
      rw [List.eq_replicate_iff]
      refine ⟨rfl, fun x hx => ?_⟩
      cases x
      · rfl
      · exact absurd hx h
    rw [this, sumB_zeros, sumB_zeros]

/-! ### dividing on paper -/
/-- the digits while they are divided: i are done, r is what the sum is by them -/
def win (msg : Nat → Bool) (i r j : Nat) : Bool := if j < i then false else (msg j != (decide (j < i + 15) && r.testBit (14 - (j - i))))
/-- the divisor's digits -/
def divisor (k : Nat) : Bool := Nat.testBit 50585 (15 - k)
theorem win_top (msg : Nat → Bool) (i r : Nat) : win msg i r i = (msg i != r.testBit 14) := by simp [win]
theorem divisor_low (m : Nat) (h : m < 15) : Nat.testBit 50585 m = Nat.testBit 17817 m := by
  rw [show (50585 : Nat) = 2 ^ 15 + 17817 from rfl, Nat.testBit_two_pow_add_gt h]
theorem win_step (msg : Nat → Bool) (i r j : Nat) : win msg (i + 1) (stepN r (msg i)) j = (win msg i r j != (decide (i ≤ j ∧ j ≤ i + 15) && (win msg i r i && divisor (j - i)))) := by
  rw [win_top]
  by_cases h0 : j < i
  · simp [win, h0, show j < i + 1 from by omega, show ¬ i ≤ j from by omega]
  · by_cases h1 : j = i
    · subst h1
      simp only [win, if_pos (show j < j + 1 from by omega), if_neg (show ¬ j < j from by omega), Nat.sub_self]
      have : divisor 0 = true := by decide
      simp [this]
    · obtain ⟨k, rfl⟩ : ∃ k, j = i + k := ⟨j - i, by omega⟩
      have hk : 1 ≤ k := by omega
      simp only [win, if_neg (show ¬ i + k < i + 1 from by omega), if_neg (show ¬ i + k < i from by omega)]
      rw [show i + k - i = k from by omega, show i + k - (i + 1) = k - 1 from by omega]
      by_cases h15 : k ≤ 15
      · have hd : decide (i ≤ i + k ∧ i + k ≤ i + 15) = true := by simp; omega
        have hs : decide (i + k < i + 1 + 15) = true := by simp; omega
        have hdiv : divisor k = Nat.testBit 17817 (15 - k) := by unfold divisor; exact divisor_low _ (by omega)
        rw [hd, hs, hdiv, show 14 - (k - 1) = 15 - k from by omega, stepN_bit _ _ _ (by omega)]
        have hx : (decide (1 ≤ 15 - k) && r.testBit (15 - k - 1)) = (decide (i + k < i + 15) && r.testBit (14 - k)) := by
          rw [show 15 - k - 1 = 14 - k from by omega]
          congr 1
          rw [decide_eq_decide]; omega
        rw [hx]
        cases msg (i + k) <;> cases msg i <;> cases r.testBit 14 <;> cases decide (i + k < i + 15) && r.testBit (14 - k) <;> cases Nat.testBit 17817 (15 - k) <;> rfl
      · have hd : decide (i ≤ i + k ∧ i + k ≤ i + 15) = false := by simp; omega
        have hs : decide (i + k < i + 1 + 15) = false := by simp; omega
        have hs2 : decide (i + k < i + 15) = false := by simp; omega
        rw [hd, hs, hs2]; simp

end Go.Proofs.Ytdpfmpbnahhjmaa.B
