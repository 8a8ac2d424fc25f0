/- Plain facts on stuffing: lists of the bytes 48 and 49, what is known (the last bit, how many are equal). No Go, no program. -/
import Derived.Test.YtdpfmpbnahhjmaaBits
namespace Go.Proofs.Ytdpfmpbnahhjmaa.B

/-- what is known -/
abbrev St := Nat × Nat
def kn (x : St) (c : Nat) : St := if c = x.1 then (if x.2 = 5 then x else (c, x.2 + 1)) else (c, 1)
def kind (x : St) (c : Nat) : Nat := if c = x.1 then (if x.2 = 5 then 3 else 1) else (if x.2 = 5 then 2 else 1)
/-- may it be -/
def may (x : St) : Prop := (x.1 = 0 ∧ x.2 = 0) ∨ ((x.1 = 48 ∨ x.1 = 49) ∧ 1 ≤ x.2 ∧ x.2 ≤ 5)

def mayB (b : Nat) (n : Int) : Bool := decide ((b = 0 ∧ n = 0) ∨ ((b = 48 ∨ b = 49) ∧ 1 ≤ n ∧ n ≤ 5))
def bitB (c : Nat) : Bool := decide (c = 48 ∨ c = 49)
theorem kn_err {b n c : Nat} (h : c = b) (h5 : n = 5) : kn (b, n) c = (b, n) := by simp [kn, h, h5]
theorem kn_more {b n c : Nat} (h : c = b) (h5 : n ≠ 5) : kn (b, n) c = (c, n + 1) := by simp [kn, h, h5]
theorem kn_one {b n c : Nat} (h : c ≠ b) : kn (b, n) c = (c, 1) := by simp [kn, h]
theorem kind_err {b n c : Nat} (h : c = b) (h5 : n = 5) : kind (b, n) c = 3 := by simp [kind, h, h5]
theorem kind_more {b n c : Nat} (h : c = b) (h5 : n ≠ 5) : kind (b, n) c = 1 := by simp [kind, h, h5]
theorem kind_put {b n c : Nat} (h : c ≠ b) (h5 : n = 5) : kind (b, n) c = 2 := by simp [kind, h, h5]
theorem kind_data {b n c : Nat} (h : c ≠ b) (h5 : n ≠ 5) : kind (b, n) c = 1 := by simp [kind, h, h5]
theorem kn_le {x : St} {c : Nat} (h : x.2 ≤ 5) : (kn x c).2 ≤ 5 := by
  unfold kn; split
  · split
    · exact h
    · simp only; omega
  · simp only; omega
theorem kind_le (x : St) (c : Nat) : kind x c = 1 ∨ kind x c = 2 ∨ kind x c = 3 := by
  unfold kind; split <;> split <;> simp
theorem may_kn {x : St} {c : Nat} (h : may x) (hc : c = 48 ∨ c = 49) : may (kn x c) := by
  obtain ⟨b, n⟩ := x
  unfold may kn at *
  simp only at *
  split
  · split
    · exact h
    · simp only; omega
  · simp only; omega
theorem may_zero : may (0, 0) := .inl ⟨rfl, rfl⟩

/-- the bit of the other kind -/
def other (c : UInt8) : UInt8 := c ^^^ 48 ^^^ 49
theorem other_48 : other 48 = 49 := rfl
theorem other_49 : other 49 = 48 := rfl
theorem okc_cases {c : UInt8} (h : okc c = true) : c = 48 ∨ c = 49 := by
  rcases (okc_iff c).1 h with e | e
  · exact .inl (UInt8.toNat_inj.1 e)
  · exact .inr (UInt8.toNat_inj.1 e)
theorem other_ne {c : UInt8} (h : okc c = true) : (other c).toNat ≠ c.toNat := by
  rcases okc_cases h with rfl | rfl <;> decide
theorem other_okc {c : UInt8} (h : okc c = true) : okc (other c) = true := by
  rcases okc_cases h with rfl | rfl <;> decide
theorem other_of {c d : UInt8} (hc : okc c = true) (hd : okc d = true) (h : d.toNat ≠ c.toNat) : d = other c := by
  rcases okc_cases hc with rfl | rfl <;> rcases okc_cases hd with rfl | rfl <;> first | rfl | exact absurd rfl h

/-- a row, stuffed: what is known behind it, and the row -/
def sStep (a : St × List UInt8) (c : UInt8) : St × List UInt8 :=
  if (kn a.1 c.toNat).2 = 5 then (kn (kn a.1 c.toNat) (other c).toNat, a.2 ++ [c, other c]) else (kn a.1 c.toNat, a.2 ++ [c])
def stf (l : List UInt8) : St × List UInt8 := l.foldl sStep ((0, 0), [])
theorem stf_snoc (l : List UInt8) (c : UInt8) : stf (l ++ [c]) = sStep (stf l) c := by simp [stf]
theorem stf_nil : stf [] = ((0, 0), []) := rfl

/-- a row, unstuffed: what is known behind it, and its data; or that it has an error -/
def uStep (a : Option (St × List UInt8)) (c : UInt8) : Option (St × List UInt8) :=
  match a with
  | none => none
  | some (x, d) => if kind x c.toNat = 3 then none else some (kn x c.toNat, if kind x c.toNat = 1 then d ++ [c] else d)
def ust (l : List UInt8) : Option (St × List UInt8) := l.foldl uStep (some ((0, 0), []))
theorem ust_snoc (l : List UInt8) (c : UInt8) : ust (l ++ [c]) = uStep (ust l) c := by simp [ust]
theorem ust_nil : ust [] = some ((0, 0), []) := rfl
theorem uStep_none (l : List UInt8) : l.foldl uStep none = none := by
  induction l with
  | nil => rfl
  | cons c l ih => exact ih

/-- reverse induction -/
theorem snoc_ind {P : List UInt8 → Prop} (h0 : P []) (h1 : ∀ l c, P l → P (l ++ [c])) (l : List UInt8) : P l := by
  generalize hn : l.length = n
  induction n generalizing l with
  | zero => rw [List.length_eq_zero_iff] at hn; subst hn; exact h0
  | succ n ih =>
    obtain ⟨a, c, rfl⟩ : ∃ a c, l = a ++ [c] := by
      have : l ≠ [] := by intro e; simp [e] at hn
      exact ⟨l.dropLast, l.getLast this, (List.dropLast_concat_getLast this).symm⟩
    exact h1 a c (ih a (by simpa using hn))

theorem all_snoc {l : List UInt8} {c : UInt8} : (l ++ [c]).all okc = true ↔ l.all okc = true ∧ okc c = true := by
  simp [List.all_append]

theorem kn_first {x : St} {c : Nat} (h : ¬ (c = x.1 ∧ x.2 = 5)) : (kn x c).1 = c := by
  unfold kn
  split
  · rw [if_neg (by omega)]
  · rfl

theorem kn_two {x : St} {c : Nat} (h : c ≠ x.1) : (kn x c).2 = 1 := by unfold kn; rw [if_neg h]

theorem sStep_le {a : St × List UInt8} {c : UInt8} (hc : okc c = true) (h : a.1.2 ≤ 4) : (sStep a c).1.2 ≤ 4 := by
  have hk := kn_le (x := a.1) (c := c.toNat) (by omega)
  have ho := other_ne hc
  have hf := kn_first (x := a.1) (c := c.toNat) (by omega)
  unfold sStep
  split
  · simp only
    rw [kn_two (by rw [hf]; exact ho)]
    omega
  · simp only; omega

theorem stf_le {l : List UInt8} : l.all okc = true → (stf l).1.2 ≤ 4 := by
  induction l using snoc_ind with
  | h0 => intro _; simp [stf_nil]
  | h1 l c ih => intro h; rw [stf_snoc]; exact sStep_le (all_snoc.1 h).2 (ih (all_snoc.1 h).1)

/-- what stuffing steps: in the walk's own cases -/
theorem stf_plain {l : List UInt8} {c : UInt8} (h : (kn (stf l).1 c.toNat).2 ≠ 5) : stf (l ++ [c]) = (kn (stf l).1 c.toNat, (stf l).2 ++ [c]) := by
  rw [stf_snoc]; unfold sStep; rw [if_neg h]
theorem stf_full {l : List UInt8} {c : UInt8} (h : (kn (stf l).1 c.toNat).2 = 5) : stf (l ++ [c]) = (kn (kn (stf l).1 c.toNat) (other c).toNat, (stf l).2 ++ [c, other c]) := by
  rw [stf_snoc]; unfold sStep; rw [if_pos h]

theorem ust_stf {l : List UInt8} : l.all okc = true → ust (stf l).2 = some ((stf l).1, l) := by
  induction l using snoc_ind with
  | h0 => intro _; rfl
  | h1 l c ih =>
    intro h
    obtain ⟨hl, hc⟩ := all_snoc.1 h
    have h4 := stf_le hl
    have hk : kind (stf l).1 c.toNat = 1 := by unfold kind; split <;> rw [if_neg (by omega)]
    have h1 : ust ((stf l).2 ++ [c]) = some (kn (stf l).1 c.toNat, l ++ [c]) := by
      rw [ust_snoc, ih hl]; unfold uStep; simp [hk]
    by_cases h5 : (kn (stf l).1 c.toNat).2 = 5
    · rw [stf_full h5]
      show ust ((stf l).2 ++ [c, other c]) = _
      have e : (stf l).2 ++ [c, other c] = ((stf l).2 ++ [c]) ++ [other c] := by simp
      have hf := kn_first (x := (stf l).1) (c := c.toNat) (by omega)
      have ho := other_ne hc
      have hk2 : kind (kn (stf l).1 c.toNat) (other c).toNat = 2 := by
        unfold kind; rw [if_neg (by rw [hf]; exact ho), if_pos h5]
      rw [e, ust_snoc, h1]; unfold uStep; simp [hk2]
    · rw [stf_plain h5]; exact h1

/-- how long a stuffed row is -/
theorem stf_length {l : List UInt8} : l.all okc = true → l.length ≤ (stf l).2.length ∧ 4 * ((stf l).2.length - l.length) + (stf l).1.2 ≤ l.length + 1 := by
  induction l using snoc_ind with
  | h0 => intro _; simp [stf_nil]
  | h1 l c ih =>
    intro h
    obtain ⟨hl, hc⟩ := all_snoc.1 h
    have h4 := stf_le hl
    obtain ⟨i1, i2⟩ := ih hl
    have hf := kn_first (x := (stf l).1) (c := c.toNat) (by omega)
    have hn : (kn (stf l).1 c.toNat).2 ≤ (stf l).1.2 + 1 := by
      unfold kn; split
      · rw [if_neg (by omega)]; simp
      · simp
    by_cases h5 : (kn (stf l).1 c.toNat).2 = 5
    · have ho := other_ne hc
      have hz : (kn (kn (stf l).1 c.toNat) (other c).toNat).2 = 1 := kn_two (by rw [hf]; exact ho)
      rw [stf_full h5]
      simp only [List.length_append, List.length_cons, List.length_nil, hz]
      omega
    · rw [stf_plain h5]
      simp only [List.length_append, List.length_cons, List.length_nil]
      omega

theorem stf_all {l : List UInt8} : l.all okc = true → (stf l).2.all okc = true := by
  induction l using snoc_ind with
  | h0 => intro _; rfl
  | h1 l c ih =>
    intro h
    obtain ⟨hl, hc⟩ := all_snoc.1 h
    by_cases h5 : (kn (stf l).1 c.toNat).2 = 5
    · rw [stf_full h5]; simp [List.all_append, ih hl, hc, other_okc hc]
    · rw [stf_plain h5]; simp [List.all_append, ih hl, hc]

theorem ust_may {l : List UInt8} : l.all okc = true → ∀ x d, ust l = some (x, d) → may x := by
  induction l using snoc_ind with
  | h0 => intro _ x d h; cases h; exact may_zero
  | h1 l c ih =>
    intro h x d hu
    obtain ⟨hl, hc⟩ := all_snoc.1 h
    rw [ust_snoc] at hu
    cases hx : ust l with
    | none => rw [hx] at hu; cases hu
    | some p =>
      obtain ⟨x', d'⟩ := p
      rw [hx] at hu
      unfold uStep at hu
      simp only at hu
      split at hu
      · cases hu
      · cases hu
        exact may_kn (ih hl _ _ hx) ((okc_iff c).1 hc)

theorem ust_all {l : List UInt8} : l.all okc = true → ∀ x d, ust l = some (x, d) → d.all okc = true ∧ d.length ≤ l.length := by
  induction l using snoc_ind with
  | h0 => intro _ x d h; cases h; exact ⟨rfl, Nat.le_refl _⟩
  | h1 l c ih =>
    intro h x d hu
    obtain ⟨hl, hc⟩ := all_snoc.1 h
    rw [ust_snoc] at hu
    cases hx : ust l with
    | none => rw [hx] at hu; cases hu
    | some p =>
      obtain ⟨x', d'⟩ := p
      obtain ⟨i1, i2⟩ := ih hl _ _ hx
      rw [hx] at hu
      unfold uStep at hu
      simp only at hu
      split at hu
      · cases hu
      · cases hu
        split
        · simp [List.all_append, i1, hc]; simpa using i2
        · simp; exact ⟨by simpa using i1, by omega⟩

/-- what is unstuffed of a row, stuffed, is the row; where five stand at its end, one bit more -/
theorem stf_ust {l : List UInt8} : l.all okc = true → ∀ x d, ust l = some (x, d) → (x.2 ≠ 5 → stf d = (x, l)) ∧ (x.2 = 5 → ∃ c, okc c = true ∧ x.1 = c.toNat ∧ stf d = (kn x (other c).toNat, l ++ [other c])) := by
  induction l using snoc_ind with
  | h0 => intro _ x d h; cases h; exact ⟨fun _ => rfl, fun h => by cases h⟩
  | h1 l c ih =>
    intro h x d hu
    obtain ⟨hl, hc⟩ := all_snoc.1 h
    rw [ust_snoc] at hu
    cases hx : ust l with
    | none => rw [hx] at hu; cases hu
    | some p =>
      obtain ⟨y, e⟩ := p
      obtain ⟨i1, i2⟩ := ih hl _ _ hx
      have hm := ust_may hl _ _ hx
      rw [hx] at hu
      unfold uStep at hu
      simp only at hu
      split at hu
      · cases hu
      · rename_i h3
        simp only [Option.some.injEq, Prod.mk.injEq] at hu
        obtain ⟨hu1, hu2⟩ := hu
        by_cases h5 : y.2 = 5
        · -- a bit that was put in
          obtain ⟨c0, hc0, hy, hs⟩ := i2 h5
          have hne : c.toNat ≠ c0.toNat := by
            intro e0; apply h3; unfold kind; rw [if_pos (by rw [hy]; exact e0), if_pos h5]
          have hk : kind y c.toNat = 2 := by unfold kind; rw [if_neg (by rw [hy]; exact hne), if_pos h5]
          rw [if_neg (by omega)] at hu2
          subst hu2
          have ho := other_of hc0 hc hne
          subst ho
          have hx2 : x.2 = 1 := by
            rw [← hu1]; unfold kn; rw [if_neg (by rw [hy]; exact hne)]
          exact ⟨fun _ => by rw [hs, hu1], fun h => by omega⟩
        · have hk : kind y c.toNat = 1 := by unfold kind; simp [h5]
          rw [if_pos hk] at hu2
          subst hu2
          have hs := i1 h5
          refine ⟨fun hn => ?_, fun hn => ⟨c, hc, ?_, ?_⟩⟩
          · rw [stf_plain (by rw [hs, hu1]; exact hn), hs, hu1]
          · rw [← hu1]; exact kn_first (by omega)
          · rw [stf_full (by rw [hs, hu1]; exact hn), hs, hu1]; simp
theorem ust_take (l : List UInt8) (k : Nat) (h : ust (l.take k) = none) : ust l = none := by
  have e : l = l.take k ++ l.drop k := (List.take_append_drop k l).symm
  rw [e]; unfold ust at *
  rw [List.foldl_append, h, uStep_none]
end Go.Proofs.Ytdpfmpbnahhjmaa.B
