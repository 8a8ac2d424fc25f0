/- Plain facts on rows of bits, sums, stuffing, frames, who wins: no program. (Joined out of single texts.) -/
import Derived.Lib.Hide
import Derived.WalkKit
import Derived.Laws.BitsLemmas
import Derived.Laws.Bits64b
import Derived.WalkSmall
import Derived.Lib.Strings
import Derived.Lib.ConvBytes
import Derived.Laws.IdiomStrings
namespace Go.Proofs.YtcaeobkaoebndaaGreat.B

def okc (c : UInt8) : Bool := c == 48 || c == 49
def right (s : ByteArray) : Bool := decide (s.size ≤ 4000) && s.data.toList.all okc
def pre (s : ByteArray) (k : Nat) : Prop := (s.data.toList.take k).all okc = true

theorem take_snoc (s : ByteArray) (k : Nat) (h : k < s.size) : s.data.toList.take (k + 1) = s.data.toList.take k ++ [s[k]] := by
  rw [List.take_succ_eq_append_getElem (by simpa using h)]; rfl
theorem size_len (s : ByteArray) : s.data.toList.length = s.size := by simp

theorem okc_iff (c : UInt8) : okc c = true ↔ c.toNat = 48 ∨ c.toNat = 49 := by
  simp [okc, ← UInt8.toNat_inj]
theorem pre_zero (s : ByteArray) : pre s 0 := by simp [pre]
theorem pre_succ {s : ByteArray} {k : Nat} (h : k < s.size) (hp : pre s k) (hc : s[k].toNat = 48 ∨ s[k].toNat = 49) : pre s (k + 1) := by
  unfold pre at *; rw [take_snoc s k h, List.all_append, hp]; simp [(okc_iff _).2 hc]
theorem right_of_pre {s : ByteArray} (h : s.size ≤ 4000) (hp : pre s s.size) : right s = true := by
  unfold pre at hp; rw [List.take_of_length_le (by rw [size_len]; omega)] at hp
  simp only [right, hp, h, decide_true, Bool.and_self]
theorem right_of_pre' {s : ByteArray} (hp : pre s s.size) : right s = decide (s.size ≤ 4000) := by
  unfold pre at hp; rw [List.take_of_length_le (by rw [size_len]; omega)] at hp
  simp only [right, hp, Bool.and_true]
theorem right_bad {s : ByteArray} {k : Nat} (h : k < s.size) (hc : ¬ s[k].toNat = 48) (hd : ¬ s[k].toNat = 49) : right s = false := by
  have hn : okc s[k] = false := by
    rw [Bool.eq_false_iff]; intro e; rcases (okc_iff _).1 e with e | e <;> omega
  have : s.data.toList.all okc = false := by
    rw [Bool.eq_false_iff]; intro e
    have := List.all_eq_true.1 e s[k] (by show s.data[k] ∈ _; simp)
    simp [hn] at this
  simp [right, this]
theorem right_long {s : ByteArray} (h : ¬ s.size ≤ 4000) : right s = false := by simp [right, h]
theorem right_size {s : ByteArray} (h : right s = true) : s.size ≤ 4000 := by simp [right] at h; exact h.1
theorem right_all {s : ByteArray} (h : right s = true) : s.data.toList.all okc = true := by
  unfold right at h; rw [Bool.and_eq_true] at h; exact h.2

/-- a row's number, the highest bit first -/
def num (l : List UInt8) : Nat := l.foldl (fun n c => 2 * n + (c.toNat - 48)) 0
theorem num_snoc (l : List UInt8) (c : UInt8) : num (l ++ [c]) = 2 * num l + (c.toNat - 48) := by simp [num]
theorem num_nil : num [] = 0 := rfl
theorem okc_bound {c : UInt8} (h : okc c = true) : c.toNat - 48 ≤ 1 := by rcases (okc_iff _).1 h with e | e <;> omega
theorem num_lt (l : List UInt8) (h : l.all okc = true) : num l < 2 ^ l.length := by
  generalize hn : l.length = n
  induction n generalizing l with
  | zero => rw [List.length_eq_zero_iff] at hn; subst hn; simp [num]
  | succ n ih =>
    obtain ⟨a, c, rfl⟩ : ∃ a c, l = a ++ [c] := by
      have : l ≠ [] := by intro e; simp [e] at hn
      exact ⟨l.dropLast, l.getLast this, (List.dropLast_concat_getLast this).symm⟩
    simp only [List.all_append, Bool.and_eq_true, List.all_cons, List.all_nil, Bool.and_true] at h
    have := ih a h.1 (by simpa using hn)
    have := okc_bound h.2
    rw [num_snoc, Nat.pow_succ]; omega


/-- a number in so many bits, the highest first -/
def bit (n k i : Nat) : UInt8 := UInt8.ofNat (48 + n / 2 ^ (k - 1 - i) % 2)
def ofl (n k : Nat) : List UInt8 := (List.range k).map (bit n k)
def ofn (n k : Nat) : ByteArray := ⟨(ofl n k).toArray⟩
theorem ofl_length (n k : Nat) : (ofl n k).length = k := by simp [ofl]
theorem ofn_size (n k : Nat) : (ofn n k).size = k := by simp [ofn, ByteArray.size, ofl_length]
theorem ofn_list (n k : Nat) : (ofn n k).data.toList = ofl n k := rfl
theorem bit_toNat (n k i : Nat) : (bit n k i).toNat = 48 + n / 2 ^ (k - 1 - i) % 2 := by
  unfold bit; rw [UInt8.toNat_ofNat']; omega
theorem okc_bit (n k i : Nat) : okc (bit n k i) = true := by rw [okc_iff, bit_toNat]; omega
theorem ofl_all (n k : Nat) : (ofl n k).all okc = true := by
  rw [List.all_eq_true]; intro c hc
  obtain ⟨i, _, rfl⟩ := List.mem_map.1 hc
  exact okc_bit n k i
theorem ofn_right (n k : Nat) (hk : k ≤ 4000) : right (ofn n k) = true := by
  unfold right; rw [ofn_list, ofl_all, ofn_size]; simp [hk]

/-- the row of cells while it is filled -/
def rowAt (n k j : Nat) : List Value := ((ofl n k).take j).map (fun c => Value.int .u8 c.toNat) ++ List.replicate (k - j) (.int .u8 0)
theorem rowAt_zero (n k : Nat) : rowAt n k 0 = List.replicate k (.int .u8 0) := by simp [rowAt]
theorem rowAt_length (n k j : Nat) (h : j ≤ k) : (rowAt n k j).length = k := by simp [rowAt, ofl_length]; omega
theorem rowAt_set (n k j : Nat) (h : j < k) : (rowAt n k j).set j (.int .u8 (bit n k j).toNat) = rowAt n k (j + 1) := by
  apply List.ext_getElem?
  intro i
  unfold rowAt
  have hl := ofl_length n k
  have hg : (ofl n k)[j]? = some (bit n k j) := by simp [ofl, h]
  rw [List.getElem?_set]
  by_cases hij : j = i
  · subst hij
    rw [if_pos rfl, if_pos (by simp [hl]; omega), List.getElem?_append_left (by simp [hl]; omega), List.getElem?_map, List.getElem?_take, if_pos (by omega), hg]; rfl
  · rw [if_neg hij]
    by_cases hi : i < j
    · rw [List.getElem?_append_left (by simp [hl]; omega), List.getElem?_append_left (by simp [hl]; omega)]
      simp only [List.getElem?_map, List.getElem?_take]
      rw [if_pos hi, if_pos (by omega)]
    · rw [List.getElem?_append_right (by simp [hl]; omega), List.getElem?_append_right (by simp [hl]; omega)]
      simp only [List.getElem?_replicate, List.length_map, List.length_take, hl]
      by_cases hk : i < k
      · rw [if_pos (by omega), if_pos (by omega)]
      · rw [if_neg (by omega), if_neg (by omega)]
theorem rowAt_full (n k : Nat) : rowAt n k k = (ofl n k).map (fun c => Value.int .u8 c.toNat) := by
  unfold rowAt; rw [List.take_of_length_le (by rw [ofl_length]; omega)]; simp

/-- one bit more in front moves nothing: numbers and bits lead to one another -/
theorem num_append (a b : List UInt8) : num (a ++ b) = num a * 2 ^ b.length + num b := by
  generalize hn : b.length = m
  induction m generalizing b with
  | zero => rw [List.length_eq_zero_iff] at hn; subst hn; simp [num]
  | succ m ih =>
    obtain ⟨b', c, rfl⟩ : ∃ a c, b = a ++ [c] := by
      have : b ≠ [] := by intro e; simp [e] at hn
      exact ⟨b.dropLast, b.getLast this, (List.dropLast_concat_getLast this).symm⟩
    have := ih b' (by simpa using hn)
    rw [← List.append_assoc, num_snoc, num_snoc, this, Nat.pow_succ, Nat.mul_add, Nat.add_assoc]
    congr 1
    rw [Nat.mul_comm (2 ^ m), ← Nat.mul_assoc, ← Nat.mul_assoc, Nat.mul_comm (num a) 2]
theorem ofl_succ (n k : Nat) : ofl n (k + 1) = ofl (n / 2) k ++ [bit n 1 0] := by
  unfold ofl
  rw [List.range_succ, List.map_append]
  congr 1
  · apply List.map_congr_left
    intro i hi
    rw [List.mem_range] at hi
    have e : k + 1 - 1 - i = (k - 1 - i) + 1 := by omega
    unfold bit
    rw [e, Nat.pow_succ, Nat.mul_comm, ← Nat.div_div_eq_div_mul]
  · simp [bit]
theorem num_ofl (n k : Nat) (h : n < 2 ^ k) : num (ofl n k) = n := by
  induction k generalizing n with
  | zero => simp at h; subst h; rfl
  | succ k ih =>
    rw [ofl_succ, num_snoc, ih (n / 2) (by rw [Nat.pow_succ] at h; omega), bit_toNat]
    simp; omega
theorem ofl_num (l : List UInt8) (h : l.all okc = true) : ofl (num l) l.length = l := by
  generalize hn : l.length = n
  induction n generalizing l with
  | zero => rw [List.length_eq_zero_iff] at hn; subst hn; rfl
  | succ n ih =>
    obtain ⟨a, c, rfl⟩ : ∃ a c, l = a ++ [c] := by
      have : l ≠ [] := by intro e; simp [e] at hn
      exact ⟨l.dropLast, l.getLast this, (List.dropLast_concat_getLast this).symm⟩
    simp only [List.all_append, Bool.and_eq_true, List.all_cons, List.all_nil, Bool.and_true] at h
    have hb := okc_bound h.2
    have hc : bit (num (a ++ [c])) 1 0 = c := by
      apply UInt8.toNat_inj.1
      rw [bit_toNat, num_snoc]
      have := (okc_iff c).1 h.2
      simp; omega
    rw [ofl_succ, hc, num_snoc, show (2 * num a + (c.toNat - 48)) / 2 = num a from by omega, ih a h.1 (by simpa using hn)]
theorem ofn_num (s : ByteArray) (h : s.data.toList.all okc = true) : ofn (num s.data.toList) s.size = s := by
  have e : ofl (num s.data.toList) s.size = s.data.toList := by rw [← size_len]; exact ofl_num _ h
  unfold ofn; rw [e]

/-- the steps in the walk's own spelling -/
theorem or_step (m b : Nat) (hm : m < 2 ^ 63) (hb : b ≤ 1) : bits BinOp.or IntKind.u64 ((m : Int) * 2) (b : Int) = ((2 * m + b : Nat) : Int) := by
  have h := bits_or_u64_nat (2 * m) b (by omega) (by omega)
  have e : ((m : Int) * 2) = ((2 * m : Nat) : Int) := by omega
  rw [e, h]
  congr 1
  have := Nat.two_pow_add_eq_or_of_lt (i := 1) (b := b) (by omega) m
  simp only [Nat.pow_one] at this
  omega
theorem num_take_succ (s : ByteArray) (k : Nat) (h : k < s.size) : num (s.data.toList.take (k + 1)) = 2 * num (s.data.toList.take k) + (s[k].toNat - 48) := by
  rw [take_snoc s k h, num_snoc]
theorem right_bound {s : ByteArray} (h : right s = true) (k : Nat) (hk : k < s.size) : 48 ≤ s[k].toNat ∧ s[k].toNat ≤ 49 := by
  have := List.all_eq_true.1 (right_all h) s[k] (by show s.data[k] ∈ _; simp)
  rcases (okc_iff _).1 this with e | e <;> omega
theorem all_take {l : List UInt8} (h : l.all okc = true) (k : Nat) : (l.take k).all okc = true := by
  rw [List.all_eq_true] at *; intro c hc; exact h c (List.mem_of_mem_take hc)
theorem num_take_lt {s : ByteArray} (h : right s = true) (k : Nat) (hk : k < 64) : num (s.data.toList.take k) < 2 ^ 63 := by
  have h1 := num_lt _ (all_take (right_all h) k)
  have h2 : (s.data.toList.take k).length ≤ 63 := by rw [List.length_take]; omega
  exact Nat.lt_of_lt_of_le h1 (Nat.pow_le_pow_right (by omega) h2)
theorem byte_step (n k j : Nat) (h : n < 2 ^ k) (hk : k ≤ 64) : (48 + bits BinOp.and IntKind.u64 ((n : Int) / 2 ^ (k - 1 - j)) 1) % 256 = ((bit n k j).toNat : Int) := by
  have hp : 2 ^ k ≤ 2 ^ 64 := Nat.pow_le_pow_right (by omega) hk
  have hd := Nat.div_le_self n (2 ^ (k - 1 - j))
  have e : ((n : Int) / 2 ^ (k - 1 - j)) = ((n / 2 ^ (k - 1 - j) : Nat) : Int) := by simp
  rw [e, bit_toNat]
  generalize n / 2 ^ (k - 1 - j) = q at *
  rw [and_one_u64 _ (by omega) (by omega)]
  omega
theorem shr_zero (n k : Nat) (h : n < 2 ^ k) : ((n : Int) / 2 ^ k != 0) = false := by
  have e : ((n : Int) / 2 ^ k) = ((n / 2 ^ k : Nat) : Int) := by simp
  rw [e, Nat.div_eq_of_lt h]; rfl
theorem shr_some (n k : Nat) (h : 2 ^ k ≤ n) : ((n : Int) / 2 ^ (k : Int).toNat != 0) = true := by
  have e : ((n : Int) / 2 ^ (k : Int).toNat) = ((n / 2 ^ k : Nat) : Int) := by simp
  have := Nat.div_pos h (Nat.pow_pos (by omega))
  rw [e]; generalize n / 2 ^ k = q at *; simp; omega
theorem rowAt_some (n k j : Nat) (h : j < k) : ∃ v, (rowAt n k j)[j]? = some v :=
  ⟨_, List.getElem?_eq_getElem (by rw [rowAt_length _ _ _ (by omega)]; exact h)⟩

theorem ofl_cons (n k : Nat) : ofl n (k + 1) = UInt8.ofNat (48 + n / 2 ^ k % 2) :: ofl n k := by
  unfold ofl
  rw [List.range_succ_eq_map, List.map_cons, List.map_map]
  congr 1
  apply List.map_congr_left
  intro i hi
  rw [List.mem_range] at hi
  show bit n (k + 1) (i + 1) = bit n k i
  unfold bit
  rw [show k + 1 - 1 - (i + 1) = k - 1 - i from by omega]
theorem ofn_one {n k : Nat} (h : n / 2 ^ k % 2 = 1) : (⟨#[49]⟩ : ByteArray) ++ ofn n k = ofn n (k + 1) := by
  apply ByteArray.ext; apply Array.ext'
  rw [ByteArray.data_append, Array.toList_append]
  show [49] ++ ofl n k = ofl n (k + 1)
  rw [ofl_cons, h]; rfl
theorem ofn_zero {n k : Nat} (h : n / 2 ^ k % 2 = 0) : (⟨#[48]⟩ : ByteArray) ++ ofn n k = ofn n (k + 1) := by
  apply ByteArray.ext; apply Array.ext'
  rw [ByteArray.data_append, Array.toList_append]
  show [48] ++ ofl n k = ofl n (k + 1)
  rw [ofl_cons, h]; rfl

theorem cat_list (s t : ByteArray) : (s ++ t).data.toList = s.data.toList ++ t.data.toList := by
  rw [ByteArray.data_append, Array.toList_append]
theorem right_cat {s t : ByteArray} (hs : s.size ≤ 2000) (ht : t.size ≤ 2000) : right (s ++ t) = (right s && right t) := by
  unfold right
  rw [cat_list, List.all_append, ByteArray.size_append]
  have h1 : s.size ≤ 4000 := by omega
  have h2 : t.size ≤ 4000 := by omega
  have h3 : s.size + t.size ≤ 4000 := by omega
  simp only [h1, h2, h3, decide_true, Bool.true_and]
theorem num_cat (s t : ByteArray) : num (s ++ t).data.toList = num s.data.toList * 2 ^ t.size + num t.data.toList := by
  rw [cat_list, num_append, size_len]
theorem or_cat (x y k : Nat) (hx : x < 2 ^ 32) (hk : k ≤ 32) (hy : y < 2 ^ k) :
    bits BinOp.or IntKind.u64 (IntKind.u64.wrap ((x : Int) * 2 ^ k)) (y : Int) = ((x * 2 ^ k + y : Nat) : Int) := by
  have hp : 2 ^ k ≤ 2 ^ 32 := Nat.pow_le_pow_right (by omega) hk
  have hm : x * 2 ^ k ≤ (2 ^ 32 - 1) * 2 ^ 32 := Nat.mul_le_mul (by omega) hp
  have e : ((x : Int) * 2 ^ k) = ((x * 2 ^ k : Nat) : Int) := by simp
  have ho := Nat.two_pow_add_eq_or_of_lt (i := k) (b := y) hy x
  rw [Nat.mul_comm] at ho
  rw [e, ho]
  generalize 2 ^ k = p at *
  generalize x * p = q at *
  rw [IntWalk.u64_in _ (by omega), bits_or_u64_nat _ _ (by omega) (by omega)]

end Go.Proofs.YtcaeobkaoebndaaGreat.B

namespace Go.Proofs.YtcaeobkaoebndaaGreat.B

/-- what is known -/
abbrev St := Nat × Nat
def kn (x : St) (c : Nat) : St := if c = x.1 then (if x.2 = 5 then x else (c, x.2 + 1)) else (c, 1)
def kind (x : St) (c : Nat) : Nat := if c = x.1 then (if x.2 = 5 then 3 else 1) else (if x.2 = 5 then 2 else 1)
/-- may it be -/
def may (x : St) : Prop := (x.1 = 0 ∧ x.2 = 0) ∨ ((x.1 = 48 ∨ x.1 = 49) ∧ 1 ≤ x.2 ∧ x.2 ≤ 5)

def mayB (b : Nat) (n : Int) : Bool := decide ((b = 0 ∧ n = 0) ∨ ((b = 48 ∨ b = 49) ∧ 1 ≤ n ∧ n ≤ 5))
def bitB (c : Nat) : Bool := decide (c = 48 ∨ c = 49)
theorem kn_err {b n c : Nat} (h : c = b) (h5 : n = 5) : kn (b, n) c = (b, n) := by simp [kn, h, h5]
theorem kn_more {b n c : Nat} (h : c = b) (h5 : n ≠ 5) : kn (b, n) c = (c, n + 1) := by simp [kn, h, h5]
theorem kn_one {b n c : Nat} (h : c ≠ b) : kn (b, n) c = (c, 1) := by simp [kn, h]
theorem kind_err {b n c : Nat} (h : c = b) (h5 : n = 5) : kind (b, n) c = 3 := by simp [kind, h, h5]
theorem kind_more {b n c : Nat} (h : c = b) (h5 : n ≠ 5) : kind (b, n) c = 1 := by simp [kind, h, h5]
theorem kind_put {b n c : Nat} (h : c ≠ b) (h5 : n = 5) : kind (b, n) c = 2 := by simp [kind, h, h5]
theorem kind_data {b n c : Nat} (h : c ≠ b) (h5 : n ≠ 5) : kind (b, n) c = 1 := by simp [kind, h, h5]
theorem kn_le {x : St} {c : Nat} (h : x.2 ≤ 5) : (kn x c).2 ≤ 5 := by
  unfold kn; split
  · split
    · exact h
    · simp only; omega
  · simp only; omega
theorem kind_le (x : St) (c : Nat) : kind x c = 1 ∨ kind x c = 2 ∨ kind x c = 3 := by
  unfold kind; split <;> split <;> simp
theorem may_kn {x : St} {c : Nat} (h : may x) (hc : c = 48 ∨ c = 49) : may (kn x c) := by
  obtain ⟨b, n⟩ := x
  unfold may kn at *
  simp only at *
  split
  · split
    · exact h
    · simp only; omega
  · simp only; omega
theorem may_zero : may (0, 0) := .inl ⟨rfl, rfl⟩

/-- the bit of the other kind -/
def other (c : UInt8) : UInt8 := c ^^^ 48 ^^^ 49
theorem other_48 : other 48 = 49 := rfl
theorem other_49 : other 49 = 48 := rfl
theorem okc_cases {c : UInt8} (h : okc c = true) : c = 48 ∨ c = 49 := by
  rcases (okc_iff c).1 h with e | e
  · exact .inl (UInt8.toNat_inj.1 e)
  · exact .inr (UInt8.toNat_inj.1 e)
theorem other_ne {c : UInt8} (h : okc c = true) : (other c).toNat ≠ c.toNat := by
  rcases okc_cases h with rfl | rfl <;> decide
theorem other_okc {c : UInt8} (h : okc c = true) : okc (other c) = true := by
  rcases okc_cases h with rfl | rfl <;> decide
theorem other_of {c d : UInt8} (hc : okc c = true) (hd : okc d = true) (h : d.toNat ≠ c.toNat) : d = other c := by
  rcases okc_cases hc with rfl | rfl <;> rcases okc_cases hd with rfl | rfl <;> first | rfl | exact absurd rfl h

/-- a row, stuffed: what is known behind it, and the row -/
def sStep (a : St × List UInt8) (c : UInt8) : St × List UInt8 :=
  if (kn a.1 c.toNat).2 = 5 then (kn (kn a.1 c.toNat) (other c).toNat, a.2 ++ [c, other c]) else (kn a.1 c.toNat, a.2 ++ [c])
def stf (l : List UInt8) : St × List UInt8 := l.foldl sStep ((0, 0), [])
theorem stf_snoc (l : List UInt8) (c : UInt8) : stf (l ++ [c]) = sStep (stf l) c := by simp [stf]
theorem stf_nil : stf [] = ((0, 0), []) := rfl

/-- a row, unstuffed: what is known behind it, and its data; or that it has an error -/
def uStep (a : Option (St × List UInt8)) (c : UInt8) : Option (St × List UInt8) :=
  match a with
  | none => none
  | some (x, d) => if kind x c.toNat = 3 then none else some (kn x c.toNat, if kind x c.toNat = 1 then d ++ [c] else d)
def ust (l : List UInt8) : Option (St × List UInt8) := l.foldl uStep (some ((0, 0), []))
theorem ust_snoc (l : List UInt8) (c : UInt8) : ust (l ++ [c]) = uStep (ust l) c := by simp [ust]
theorem ust_nil : ust [] = some ((0, 0), []) := rfl
theorem uStep_none (l : List UInt8) : l.foldl uStep none = none := by
  induction l with
  | nil => rfl
  | cons c l ih => exact ih

/-- reverse induction -/
theorem snoc_ind {P : List UInt8 → Prop} (h0 : P []) (h1 : ∀ l c, P l → P (l ++ [c])) (l : List UInt8) : P l := by
  generalize hn : l.length = n
  induction n generalizing l with
  | zero => rw [List.length_eq_zero_iff] at hn; subst hn; exact h0
  | succ n ih =>
    obtain ⟨a, c, rfl⟩ : ∃ a c, l = a ++ [c] := by
      have : l ≠ [] := by intro e; simp [e] at hn
      exact ⟨l.dropLast, l.getLast this, (List.dropLast_concat_getLast this).symm⟩
    exact h1 a c (ih a (by simpa using hn))

theorem all_snoc {l : List UInt8} {c : UInt8} : (l ++ [c]).all okc = true ↔ l.all okc = true ∧ okc c = true := by
  simp [List.all_append]

theorem kn_first {x : St} {c : Nat} (h : ¬ (c = x.1 ∧ x.2 = 5)) : (kn x c).1 = c := by
  unfold kn
  split
  · rw [if_neg (by omega)]
  · rfl

theorem kn_two {x : St} {c : Nat} (h : c ≠ x.1) : (kn x c).2 = 1 := by unfold kn; rw [if_neg h]

theorem sStep_le {a : St × List UInt8} {c : UInt8} (hc : okc c = true) (h : a.1.2 ≤ 4) : (sStep a c).1.2 ≤ 4 := by
  have hk := kn_le (x := a.1) (c := c.toNat) (by omega)
  have ho := other_ne hc
  have hf := kn_first (x := a.1) (c := c.toNat) (by omega)
  unfold sStep
  split
  · simp only
    rw [kn_two (by rw [hf]; exact ho)]
    omega
  · simp only; omega

theorem stf_le {l : List UInt8} : l.all okc = true → (stf l).1.2 ≤ 4 := by
  induction l using snoc_ind with
  | h0 => intro _; simp [stf_nil]
  | h1 l c ih => intro h; rw [stf_snoc]; exact sStep_le (all_snoc.1 h).2 (ih (all_snoc.1 h).1)

/-- what stuffing steps: in the walk's own cases -/
theorem stf_plain {l : List UInt8} {c : UInt8} (h : (kn (stf l).1 c.toNat).2 ≠ 5) : stf (l ++ [c]) = (kn (stf l).1 c.toNat, (stf l).2 ++ [c]) := by
  rw [stf_snoc]; unfold sStep; rw [if_neg h]
theorem stf_full {l : List UInt8} {c : UInt8} (h : (kn (stf l).1 c.toNat).2 = 5) : stf (l ++ [c]) = (kn (kn (stf l).1 c.toNat) (other c).toNat, (stf l).2 ++ [c, other c]) := by
  rw [stf_snoc]; unfold sStep; rw [if_pos h]

theorem ust_stf {l : List UInt8} : l.all okc = true → ust (stf l).2 = some ((stf l).1, l) := by
  induction l using snoc_ind with
  | h0 => intro _; rfl
  | h1 l c ih =>
    intro h
    obtain ⟨hl, hc⟩ := all_snoc.1 h
    have h4 := stf_le hl
    have hk : kind (stf l).1 c.toNat = 1 := by unfold kind; split <;> rw [if_neg (by omega)]
    have h1 : ust ((stf l).2 ++ [c]) = some (kn (stf l).1 c.toNat, l ++ [c]) := by
      rw [ust_snoc, ih hl]; unfold uStep; simp [hk]
    by_cases h5 : (kn (stf l).1 c.toNat).2 = 5
    · rw [stf_full h5]
      show ust ((stf l).2 ++ [c, other c]) = _
      have e : (stf l).2 ++ [c, other c] = ((stf l).2 ++ [c]) ++ [other c] := by simp
      have hf := kn_first (x := (stf l).1) (c := c.toNat) (by omega)
      have ho := other_ne hc
      have hk2 : kind (kn (stf l).1 c.toNat) (other c).toNat = 2 := by
        unfold kind; rw [if_neg (by rw [hf]; exact ho), if_pos h5]
      rw [e, ust_snoc, h1]; unfold uStep; simp [hk2]
    · rw [stf_plain h5]; exact h1

/-- how long a stuffed row is -/
theorem stf_length {l : List UInt8} : l.all okc = true → l.length ≤ (stf l).2.length ∧ 4 * ((stf l).2.length - l.length) + (stf l).1.2 ≤ l.length + 1 := by
  induction l using snoc_ind with
  | h0 => intro _; simp [stf_nil]
  | h1 l c ih =>
    intro h
    obtain ⟨hl, hc⟩ := all_snoc.1 h
    have h4 := stf_le hl
    obtain ⟨i1, i2⟩ := ih hl
    have hf := kn_first (x := (stf l).1) (c := c.toNat) (by omega)
    have hn : (kn (stf l).1 c.toNat).2 ≤ (stf l).1.2 + 1 := by
      unfold kn; split
      · rw [if_neg (by omega)]; simp
      · simp
    by_cases h5 : (kn (stf l).1 c.toNat).2 = 5
    · have ho := other_ne hc
      have hz : (kn (kn (stf l).1 c.toNat) (other c).toNat).2 = 1 := kn_two (by rw [hf]; exact ho)
      rw [stf_full h5]
      simp only [List.length_append, List.length_cons, List.length_nil, hz]
      omega
    · rw [stf_plain h5]
      simp only [List.length_append, List.length_cons, List.length_nil]
      omega

theorem stf_all {l : List UInt8} : l.all okc = true → (stf l).2.all okc = true := by
  induction l using snoc_ind with
  | h0 => intro _; rfl
  | h1 l c ih =>
    intro h
    obtain ⟨hl, hc⟩ := all_snoc.1 h
    by_cases h5 : (kn (stf l).1 c.toNat).2 = 5
    · rw [stf_full h5]; simp [List.all_append, ih hl, hc, other_okc hc]
    · rw [stf_plain h5]; simp [List.all_append, ih hl, hc]

theorem ust_may {l : List UInt8} : l.all okc = true → ∀ x d, ust l = some (x, d) → may x := by
  induction l using snoc_ind with
  | h0 => intro _ x d h; cases h; exact may_zero
  | h1 l c ih =>
    intro h x d hu
    obtain ⟨hl, hc⟩ := all_snoc.1 h
    rw [ust_snoc] at hu
    cases hx : ust l with
    | none => rw [hx] at hu; cases hu
    | some p =>
      obtain ⟨x', d'⟩ := p
      rw [hx] at hu
      unfold uStep at hu
      simp only at hu
      split at hu
      · cases hu
      · cases hu
        exact may_kn (ih hl _ _ hx) ((okc_iff c).1 hc)

theorem ust_all {l : List UInt8} : l.all okc = true → ∀ x d, ust l = some (x, d) → d.all okc = true ∧ d.length ≤ l.length := by
  induction l using snoc_ind with
  | h0 => intro _ x d h; cases h; exact ⟨rfl, Nat.le_refl _⟩
  | h1 l c ih =>
    intro h x d hu
    obtain ⟨hl, hc⟩ := all_snoc.1 h
    rw [ust_snoc] at hu
    cases hx : ust l with
    | none => rw [hx] at hu; cases hu
    | some p =>
      obtain ⟨x', d'⟩ := p
      obtain ⟨i1, i2⟩ := ih hl _ _ hx
      rw [hx] at hu
      unfold uStep at hu
      simp only at hu
      split at hu
      · cases hu
      · cases hu
        split
        · simp [List.all_append, i1, hc]; simpa using i2
        · simp; exact ⟨by simpa using i1, by omega⟩

/-- what is unstuffed of a row, stuffed, is the row; where five stand at its end, one bit more -/
theorem stf_ust {l : List UInt8} : l.all okc = true → ∀ x d, ust l = some (x, d) → (x.2 ≠ 5 → stf d = (x, l)) ∧ (x.2 = 5 → ∃ c, okc c = true ∧ x.1 = c.toNat ∧ stf d = (kn x (other c).toNat, l ++ [other c])) := by
  induction l using snoc_ind with
  | h0 => intro _ x d h; cases h; exact ⟨fun _ => rfl, fun h => by cases h⟩
  | h1 l c ih =>
    intro h x d hu
    obtain ⟨hl, hc⟩ := all_snoc.1 h
    rw [ust_snoc] at hu
    cases hx : ust l with
    | none => rw [hx] at hu; cases hu
    | some p =>
      obtain ⟨y, e⟩ := p
      obtain ⟨i1, i2⟩ := ih hl _ _ hx
      have hm := ust_may hl _ _ hx
      rw [hx] at hu
      unfold uStep at hu
      simp only at hu
      split at hu
      · cases hu
      · rename_i h3
        simp only [Option.some.injEq, Prod.mk.injEq] at hu
        obtain ⟨hu1, hu2⟩ := hu
        by_cases h5 : y.2 = 5
        · -- a bit that was put in
          obtain ⟨c0, hc0, hy, hs⟩ := i2 h5
          have hne : c.toNat ≠ c0.toNat := by
            intro e0; apply h3; unfold kind; rw [if_pos (by rw [hy]; exact e0), if_pos h5]
          have hk : kind y c.toNat = 2 := by unfold kind; rw [if_neg (by rw [hy]; exact hne), if_pos h5]
          rw [if_neg (by omega)] at hu2
          subst hu2
          have ho := other_of hc0 hc hne
          subst ho
          have hx2 : x.2 = 1 := by
            rw [← hu1]; unfold kn; rw [if_neg (by rw [hy]; exact hne)]
          exact ⟨fun _ => by rw [hs, hu1], fun h => by omega⟩
        · have hk : kind y c.toNat = 1 := by unfold kind; simp [h5]
          rw [if_pos hk] at hu2
          subst hu2
          have hs := i1 h5
          refine ⟨fun hn => ?_, fun hn => ⟨c, hc, ?_, ?_⟩⟩
          · rw [stf_plain (by rw [hs, hu1]; exact hn), hs, hu1]
          · rw [← hu1]; exact kn_first (by omega)
          · rw [stf_full (by rw [hs, hu1]; exact hn), hs, hu1]; simp
theorem ust_take (l : List UInt8) (k : Nat) (h : ust (l.take k) = none) : ust l = none := by
  have e : l = l.take k ++ l.drop k := (List.take_append_drop k l).symm
  rw [e]; unfold ust at *
  rw [List.foldl_append, h, uStep_none]
end Go.Proofs.YtcaeobkaoebndaaGreat.B

namespace Go.Proofs.YtcaeobkaoebndaaGreat.B

/-- what stuffing adds, from the front -/
def stfR (x : St) : List UInt8 → List UInt8
  | [] => []
  | c :: q => if (kn x c.toNat).2 = 5 then c :: other c :: stfR (kn (kn x c.toNat) (other c).toNat) q else c :: stfR (kn x c.toNat) q
theorem stf_front : ∀ (q p : List UInt8), (stf (p ++ q)).2 = (stf p).2 ++ stfR (stf p).1 q := by
  intro q
  induction q with
  | nil => intro p; simp [stfR]
  | cons c q ih =>
    intro p
    have e : p ++ c :: q = (p ++ [c]) ++ q := by simp
    rw [e, ih]
    by_cases h5 : (kn (stf p).1 c.toNat).2 = 5
    · rw [stf_full h5]; simp [stfR, h5]
    · rw [stf_plain h5]; simp [stfR, h5]

def bitAt (l : List UInt8) (i : Nat) : UInt8 := l.getD i 0
def cutL (l : List UInt8) (a b : Nat) : List UInt8 := (l.take b).drop a
/-- how long a head begins, that the row begins with; 3: too short to tell, 12: none -/
def baseL (l : List UInt8) : Nat := if bitAt l 13 = 49 then 39 else 19
def sizeL (l : List UInt8) : Nat × Nat :=
  if l.length < 14 then (0, 3)
  else if l.length < baseL l then (0, 3)
  else if 8 < num (cutL l (baseL l - 4) (baseL l)) then (0, 12)
  else (baseL l + 8 * (if bitAt l (baseL l - 7) = 49 then 0 else num (cutL l (baseL l - 4) (baseL l))), 0)
theorem bitAt_append {p : List UInt8} {i : Nat} (h : i < p.length) (q : List UInt8) : bitAt (p ++ q) i = bitAt p i := by
  unfold bitAt; rw [List.getD_eq_getElem?_getD, List.getD_eq_getElem?_getD, List.getElem?_append_left h]
theorem cutL_append {p : List UInt8} {b : Nat} (h : b ≤ p.length) (a : Nat) (q : List UInt8) : cutL (p ++ q) a b = cutL p a b := by
  unfold cutL; rw [List.take_append_of_le_length h]
theorem baseL_append {p : List UInt8} (h : 14 ≤ p.length) (q : List UInt8) : baseL (p ++ q) = baseL p := by
  unfold baseL; rw [bitAt_append (by omega)]
theorem baseL_or (l : List UInt8) : baseL l = 19 ∨ baseL l = 39 := by unfold baseL; split <;> simp
/-- what is told is told for good -/
theorem size_append {p : List UInt8} (h : (sizeL p).2 ≠ 3) (q : List UInt8) : sizeL (p ++ q) = sizeL p := by
  have h14 : ¬ p.length < 14 := by intro h'; apply h; unfold sizeL; rw [if_pos h']
  have hb : ¬ p.length < baseL p := by intro h'; apply h; unfold sizeL; rw [if_neg h14, if_pos h']
  have h14' : ¬ (p ++ q).length < 14 := by rw [List.length_append]; omega
  have hb' : ¬ (p ++ q).length < baseL p := by rw [List.length_append]; omega
  have hor := baseL_or p
  unfold sizeL
  rw [baseL_append (by omega), if_neg h14, if_neg hb, if_neg h14', if_neg hb', cutL_append (by omega), bitAt_append (by omega)]
theorem size_err (l : List UInt8) : (sizeL l).2 = 0 ∨ sizeL l = (0, 3) ∨ sizeL l = (0, 12) := by
  unfold sizeL
  split
  · exact .inr (.inl rfl)
  · split
    · exact .inr (.inl rfl)
    · split
      · exact .inr (.inr rfl)
      · exact .inl rfl

/-- there are a head and fifteen bits behind it, and nothing has to be put behind them -/
def stopB (x : St) (b : List UInt8) : Bool := decide ((sizeL b).2 = 0 ∧ b.length = (sizeL b).1 + 15 ∧ x.2 < 5)
def nextB (x : St) (b : List UInt8) (c : UInt8) : List UInt8 := if kind x c.toNat = 1 then b ++ [c] else b
def badB (b : List UInt8) : Bool := decide ((sizeL b).2 = 12 ∨ b.head? = some 49)
/-- what is unstuffed, bit by bit: the bits, how many they were, the error -/
def goL (x : St) (b : List UInt8) (n : Nat) : List UInt8 → List UInt8 × Nat × Nat
  | [] => if stopB x b then (b, n, 0) else ([], 0, 3)
  | c :: r =>
    if stopB x b then (b, n, 0)
    else if kind x c.toNat = 3 then ([], 0, 10)
    else if badB (nextB x b c) then ([], 0, 12)
    else goL (kn x c.toNat) (nextB x b c) (n + 1) r

theorem go_stop {x : St} {b : List UInt8} {n : Nat} (h : stopB x b = true) (r : List UInt8) : goL x b n r = (b, n, 0) := by
  cases r <;> simp [goL, h]
theorem go_append : ∀ (r1 : List UInt8) {x : St} {b : List UInt8} {n : Nat} {bits : List UInt8} {m : Nat}, goL x b n r1 = (bits, m, 0) → ∀ r2, goL x b n (r1 ++ r2) = (bits, m, 0) := by
  intro r1
  induction r1 with
  | nil =>
    intro x b n bits m h r2
    by_cases hs : stopB x b = true
    · rw [go_stop hs] at h ⊢; exact h
    · simp [goL, hs] at h
  | cons c r ih =>
    intro x b n bits m h r2
    by_cases hs : stopB x b = true
    · rw [go_stop hs] at h ⊢; exact h
    · rw [List.cons_append]
      unfold goL at h ⊢
      rw [if_neg hs] at h ⊢
      split at h
      · simp at h
      · rename_i hk
        rw [if_neg hk]
        split at h
        · simp at h
        · rename_i hz
          rw [if_neg hz]
          exact ih h r2
theorem go_short : ∀ (r1 : List UInt8) {x : St} {b : List UInt8} {n : Nat} {bits : List UInt8} {m : Nat} {r2 : List UInt8}, goL x b n (r1 ++ r2) = (bits, m, 0) → n + r1.length < m → goL x b n r1 = ([], 0, 3) := by
  intro r1
  induction r1 with
  | nil =>
    intro x b n bits m r2 h hm
    by_cases hs : stopB x b = true
    · rw [go_stop hs] at h; simp at h hm; omega
    · simp [goL, hs]
  | cons c r ih =>
    intro x b n bits m r2 h hm
    by_cases hs : stopB x b = true
    · rw [go_stop hs] at h; simp at h hm; omega
    · rw [List.cons_append] at h
      unfold goL at h ⊢
      rw [if_neg hs] at h ⊢
      split at h
      · simp at h
      · rename_i hk
        rw [if_neg hk]
        split at h
        · simp at h
        · rename_i hz
          rw [if_neg hz]
          exact ih h (by simp at hm; omega)
/-- what is read is what stuffing would have put there -/
theorem go_ok : ∀ (r : List UInt8) {p : List UInt8} {x : St} {b : List UInt8} {bits : List UInt8} {m : Nat}, ust p = some (x, b) → goL x b p.length r = (bits, m, 0) →
    p.length ≤ m ∧ m ≤ p.length + r.length ∧ ∃ y, ust ((p ++ r).take m) = some (y, bits) ∧ stopB y bits = true := by
  intro r
  induction r with
  | nil =>
    intro p x b bits m hu h
    by_cases hs : stopB x b = true
    · rw [go_stop hs] at h
      simp at h
      obtain ⟨rfl, rfl⟩ := h
      exact ⟨Nat.le_refl _, by simp, x, by simpa using hu, hs⟩
    · simp [goL, hs] at h
  | cons c r ih =>
    intro p x b bits m hu h
    by_cases hs : stopB x b = true
    · rw [go_stop hs] at h
      simp at h
      obtain ⟨rfl, rfl⟩ := h
      exact ⟨Nat.le_refl _, by simp, x, by simpa using hu, hs⟩
    · unfold goL at h
      rw [if_neg hs] at h
      split at h
      · simp at h
      · rename_i hk
        split at h
        · simp at h
        · have hu' : ust (p ++ [c]) = some (kn x c.toNat, nextB x b c) := by
            rw [ust_snoc, hu]; unfold uStep nextB; simp only; rw [if_neg hk]
          have := ih (p := p ++ [c]) hu' (by simpa using h)
          simp only [List.length_append, List.length_cons, List.length_nil, List.append_assoc, List.cons_append, List.nil_append] at this ⊢
          obtain ⟨h1, h2, h3⟩ := this
          exact ⟨by omega, by omega, h3⟩

/-- a head and its sum -/
def Good (l : List UInt8) : Prop := l.all okc = true ∧ 15 ≤ l.length ∧ sizeL l = (l.length - 15, 0) ∧ l.head? = some 48
theorem good_prefix {p q : List UInt8} (h : Good (p ++ q)) : (sizeL p).2 ≠ 12 ∧ ((sizeL p).2 = 0 → p.length = (sizeL p).1 + 15 → q = []) := by
  obtain ⟨_, h15, hz, _⟩ := h
  constructor
  · intro e
    have := size_append (p := p) (by omega) q
    rw [this] at hz; rw [hz] at e; cases e
  · intro e hl
    have := size_append (p := p) (by omega) q
    rw [this] at hz
    rw [hz] at hl
    simp only [List.length_append] at hl h15
    exact List.length_eq_zero_iff.1 (by omega)
theorem stop_good {l : List UInt8} (h : Good l) {x : St} (hx : x.2 ≤ 4) : stopB x l = true := by
  obtain ⟨_, h15, hz, _⟩ := h
  unfold stopB
  rw [hz]; simp; omega
theorem go_stf : ∀ (q p : List UInt8), Good (p ++ q) → ∀ rest, goL (stf p).1 p (stf p).2.length (stfR (stf p).1 q ++ rest) = (p ++ q, (stf (p ++ q)).2.length, 0) := by
  intro q
  induction q with
  | nil =>
    intro p hg rest
    rw [List.append_nil] at hg ⊢
    exact go_stop (stop_good hg (stf_le hg.1)) _
  | cons c q ih =>
    intro p hg rest
    have e : p ++ c :: q = (p ++ [c]) ++ q := by simp
    have hg' := hg
    rw [e] at hg'
    have hall := hg'.1
    rw [List.all_append, Bool.and_eq_true] at hall
    obtain ⟨hp, hc⟩ := all_snoc.1 hall.1
    have h4 := stf_le hp
    have hns : ¬ stopB (stf p).1 p = true := by
      unfold stopB
      rw [decide_eq_true_eq]
      intro ⟨h1, h2, _⟩
      have := (good_prefix hg).2 h1 h2
      cases this
    have hk : kind (stf p).1 c.toNat = 1 := by unfold kind; split <;> rw [if_neg (by omega)]
    have h12 : ¬ badB (p ++ [c]) = true := by
      unfold badB
      rw [decide_eq_true_eq]
      rintro (h | h)
      · exact (good_prefix hg').1 h
      · have := hg'.2.2.2
        rw [List.head?_append, h] at this
        simp at this
    have hn1 : nextB (stf p).1 p c = p ++ [c] := by unfold nextB; rw [if_pos hk]
    have := ih (p ++ [c]) hg' rest
    rw [← e] at this
    by_cases h5 : (kn (stf p).1 c.toNat).2 = 5
    · rw [stf_full h5] at this
      have hk2 : kind (kn (stf p).1 c.toNat) (other c).toNat = 2 := by
        unfold kind
        rw [if_neg (by rw [kn_first (by omega)]; exact other_ne hc), if_pos h5]
      have hns2 : ¬ stopB (kn (stf p).1 c.toNat) (p ++ [c]) = true := by unfold stopB; rw [decide_eq_true_eq, h5]; omega
      have hn2 : nextB (kn (stf p).1 c.toNat) (p ++ [c]) (other c) = p ++ [c] := by unfold nextB; rw [if_neg (by omega)]
      have hfr : stfR (stf p).1 (c :: q) = c :: other c :: stfR (kn (kn (stf p).1 c.toNat) (other c).toNat) q := by rw [stfR, if_pos h5]
      rw [hfr, List.cons_append, List.cons_append, goL, if_neg hns, if_neg (by omega), hn1, if_neg h12, goL, if_neg hns2, if_neg (by omega), hn2, if_neg h12]
      rw [← this]
      simp [Nat.add_assoc]
    · rw [stf_plain h5] at this
      have hfr : stfR (stf p).1 (c :: q) = c :: stfR (kn (stf p).1 c.toNat) q := by rw [stfR, if_neg h5]
      rw [hfr, List.cons_append, goL, if_neg hns, if_neg (by omega), hn1, if_neg h12]
      rw [← this]
      simp
/-- a row that begins with a head and its sum, stuffed -/
theorem go_good {l : List UInt8} (h : Good l) (rest : List UInt8) : goL (0, 0) [] 0 ((stf l).2 ++ rest) = (l, (stf l).2.length, 0) := by
  have h1 := go_stf l [] (by simpa using h) rest
  have h2 := stf_front l []
  simp only [List.nil_append, stf_nil] at h1 h2
  rw [← h2] at h1
  exact h1
end Go.Proofs.YtcaeobkaoebndaaGreat.B

namespace Go.Proofs.YtcaeobkaoebndaaGreat.B

structure Fr where
  id : Nat
  ext : Bool
  remote : Bool
  dlc : Nat
  data : List UInt8
theorem Fr.same {f g : Fr} (h1 : f.id = g.id) (h2 : f.ext = g.ext) (h3 : f.remote = g.remote) (h4 : f.dlc = g.dlc) (h5 : f.data = g.data) : f = g := by
  cases f; cases g; simp_all
/-- may it be -/
def FrR (f : Fr) : Prop := f.dlc ≤ 8 ∧ (if f.remote then f.data = [] else f.data.length = f.dlc) ∧ f.id < (if f.ext then 536870912 else 2048)

def rb (b : Bool) : UInt8 := if b then 49 else 48
theorem rb_okc (b : Bool) : okc (rb b) = true := by cases b <;> rfl
theorem rb_iff (b : Bool) : (rb b == 49) = b := by cases b <;> rfl
theorem rb_49 (b : Bool) : rb b = 49 ↔ b = true := by cases b <;> decide
def idL (f : Fr) : List UInt8 := if f.ext then (ofl f.id 29).take 11 ++ [49, 49] ++ (ofl f.id 29).drop 11 else ofl f.id 11
def dataL (d : List UInt8) : List UInt8 := d.flatMap fun c => ofl c.toNat 8
def preL (f : Fr) : List UInt8 := [48] ++ idL f ++ [rb f.remote, 48, 48] ++ ofl f.dlc 4
def headL (f : Fr) : List UInt8 := preL f ++ dataL f.data
def base (f : Fr) : Nat := if f.ext then 39 else 19

theorem dataL_length (d : List UInt8) : (dataL d).length = 8 * d.length := by
  induction d with
  | nil => rfl
  | cons c d ih =>
    have e : dataL (c :: d) = ofl c.toNat 8 ++ dataL d := by simp [dataL]
    rw [e, List.length_append, ofl_length, ih, List.length_cons]; omega
theorem idL_length (f : Fr) : (idL f).length = if f.ext then 31 else 11 := by
  unfold idL; split <;> simp [ofl_length]
theorem preL_length (f : Fr) : (preL f).length = base f := by
  unfold preL base
  simp only [List.length_append, idL_length, ofl_length, List.length_cons, List.length_nil]
  split <;> rfl
theorem headL_length (f : Fr) : (headL f).length = base f + 8 * f.data.length := by
  unfold headL; rw [List.length_append, preL_length, dataL_length]
theorem dataL_all (d : List UInt8) : (dataL d).all okc = true := by
  rw [List.all_eq_true]; intro c hc
  obtain ⟨x, _, hx⟩ := List.mem_flatMap.1 hc
  exact List.all_eq_true.1 (ofl_all _ _) c hx
theorem idL_all (f : Fr) : (idL f).all okc = true := by
  unfold idL
  have h := ofl_all f.id 29
  split
  · rw [List.all_append, List.all_append, all_take h]
    have : ((ofl f.id 29).drop 11).all okc = true := by
      rw [List.all_eq_true] at *; intro x hx; exact h x (List.mem_of_mem_drop hx)
    rw [this]; rfl
  · exact ofl_all _ _
theorem headL_all (f : Fr) : (headL f).all okc = true := by
  unfold headL preL
  simp only [List.all_append, idL_all, ofl_all, dataL_all, List.all_cons, List.all_nil, rb_okc]
  rfl
theorem headL_head (f : Fr) (q : List UInt8) : (headL f ++ q).head? = some 48 := rfl

/-- places in rows that are put together -/
theorem bitAt_right {a : List UInt8} {i : Nat} (h : a.length ≤ i) (b : List UInt8) : bitAt (a ++ b) i = bitAt b (i - a.length) := by
  unfold bitAt; rw [List.getD_eq_getElem?_getD, List.getD_eq_getElem?_getD, List.getElem?_append_right h]
theorem cutL_right {a : List UInt8} {i j : Nat} (h : a.length ≤ i) (b : List UInt8) : cutL (a ++ b) i j = cutL b (i - a.length) (j - a.length) := by
  unfold cutL
  rw [List.drop_take, List.drop_append, List.drop_of_length_le h, List.nil_append, List.drop_take]
  congr 1; omega
theorem cutL_whole (a b : List UInt8) : cutL (a ++ b) 0 a.length = a := by
  unfold cutL; rw [List.drop_zero, List.take_left]
theorem cutL_at (a b c : List UInt8) (i j : Nat) (hi : i = a.length) (hj : j = a.length + b.length) : cutL (a ++ (b ++ c)) i j = b := by
  subst hi hj
  rw [cutL_right (Nat.le_refl _), Nat.sub_self, show a.length + b.length - a.length = b.length from by omega, cutL_whole]

theorem head_13 (f : Fr) (q : List UInt8) : bitAt (headL f ++ q) 13 = if f.ext then 49 else 48 := by
  have e : headL f ++ q = ([48] ++ idL f) ++ ([rb f.remote, 48, 48] ++ (ofl f.dlc 4 ++ (dataL f.data ++ q))) := by unfold headL preL; simp
  rw [e]
  cases he : f.ext
  · have hl : ([48] ++ idL f : List UInt8).length = 12 := by rw [List.length_append, idL_length, he]; rfl
    rw [bitAt_right (by omega), hl]; rfl
  · have hl : ((ofl f.id 29).take 11).length = 11 := by simp [ofl_length]
    have e2 : [48] ++ idL f = ([48] ++ (ofl f.id 29).take 11) ++ ([49, 49] ++ (ofl f.id 29).drop 11) := by unfold idL; rw [he]; simp
    have hl2 : ([48] ++ (ofl f.id 29).take 11 : List UInt8).length = 12 := by rw [List.length_append, hl]; rfl
    rw [e2, List.append_assoc, bitAt_right (by omega), hl2]; rfl
theorem head_base (f : Fr) (q : List UInt8) : baseL (headL f ++ q) = base f := by
  unfold baseL base; rw [head_13]; cases f.ext <;> rfl
theorem head_r (f : Fr) (q : List UInt8) : bitAt (headL f ++ q) (base f - 7) = rb f.remote := by
  have e : headL f ++ q = ([48] ++ idL f) ++ ([rb f.remote, 48, 48] ++ (ofl f.dlc 4 ++ (dataL f.data ++ q))) := by unfold headL preL; simp
  have hl : ([48] ++ idL f : List UInt8).length = base f - 7 := by rw [List.length_append, idL_length]; unfold base; split <;> rfl
  rw [e, bitAt_right (by omega), hl, Nat.sub_self]; rfl
theorem head_dlc (f : Fr) (q : List UInt8) : cutL (headL f ++ q) (base f - 4) (base f) = ofl f.dlc 4 := by
  have e : headL f ++ q = ([48] ++ idL f ++ [rb f.remote, 48, 48]) ++ (ofl f.dlc 4 ++ (dataL f.data ++ q)) := by unfold headL preL; simp
  have hl : ([48] ++ idL f ++ [rb f.remote, 48, 48] : List UInt8).length = base f - 4 := by
    rw [List.length_append, List.length_append, idL_length]; unfold base; split <;> rfl
  have hb : 19 ≤ base f := by unfold base; split <;> omega
  rw [e, cutL_at _ _ _ _ _ hl.symm (by rw [hl, ofl_length]; omega)]
theorem head_size {f : Fr} (h : FrR f) (q : List UInt8) : sizeL (headL f ++ q) = ((headL f).length, 0) := by
  obtain ⟨h8, hd, _⟩ := h
  have hb : base f = 19 ∨ base f = 39 := by unfold base; split <;> simp
  have hl := headL_length f
  unfold sizeL
  rw [head_base, head_dlc, head_r, num_ofl f.dlc 4 (by omega), List.length_append, if_neg (by omega), if_neg (by omega), if_neg (by omega), hl]
  congr 2
  cases hr : f.remote
  · rw [hr] at hd; simp only [Bool.false_eq_true, if_false] at hd
    rw [if_neg (by decide), hd]
  · rw [hr] at hd; simp only [if_true] at hd
    rw [if_pos (by decide), hd]; rfl

/-- the bytes of a row of bits -/
def bytesL : Nat → List UInt8 → List UInt8
  | 0, _ => []
  | k + 1, l => UInt8.ofNat (num (l.take 8)) :: bytesL k (l.drop 8)
theorem bytesL_dataL (d : List UInt8) : bytesL d.length (dataL d) = d := by
  induction d with
  | nil => rfl
  | cons c d ih =>
    have e : dataL (c :: d) = ofl c.toNat 8 ++ dataL d := by simp [dataL]
    have h8 : (ofl c.toNat 8).length = 8 := ofl_length _ _
    have h1 : (ofl c.toNat 8 ++ dataL d).take 8 = ofl c.toNat 8 := by rw [List.take_append_of_le_length (by omega), List.take_of_length_le (by omega)]
    have h2 : (ofl c.toNat 8 ++ dataL d).drop 8 = dataL d := by rw [List.drop_append, List.drop_of_length_le (by omega), h8]; simp
    rw [e, List.length_cons, bytesL, h1, h2, ih, num_ofl _ _ (by have := c.toNat_lt; omega)]
    simp
def decode (l : List UInt8) : Fr where
  id := if bitAt l 13 = 49 then num (cutL l 1 12) * 262144 + num (cutL l 14 32) else num (cutL l 1 12)
  ext := bitAt l 13 == 49
  remote := bitAt l (baseL l - 7) == 49
  dlc := num (cutL l (baseL l - 4) (baseL l))
  data := bytesL ((l.length - baseL l) / 8) (l.drop (baseL l))
theorem head_id {f : Fr} (h : FrR f) : (if bitAt (headL f) 13 = 49 then num (cutL (headL f) 1 12) * 262144 + num (cutL (headL f) 14 32) else num (cutL (headL f) 1 12)) = f.id := by
  obtain ⟨_, _, hid⟩ := h
  have h13 := head_13 f []
  rw [List.append_nil] at h13
  rw [h13]
  cases he : f.ext
  · rw [he] at hid; simp only [Bool.false_eq_true, if_false] at hid
    rw [if_neg (by decide)]
    have e : headL f = [48] ++ (ofl f.id 11 ++ ([rb f.remote, 48, 48] ++ (ofl f.dlc 4 ++ dataL f.data))) := by unfold headL preL idL; rw [he]; simp
    have c1 : cutL (headL f) 1 12 = ofl f.id 11 := by rw [e]; exact cutL_at _ _ _ _ _ rfl (by rw [ofl_length]; rfl)
    rw [c1, num_ofl _ _ (by omega)]
  · rw [he] at hid; simp only [if_true] at hid
    rw [if_pos (by decide)]
    have hl : ((ofl f.id 29).take 11).length = 11 := by simp [ofl_length]
    have hl2 : ((ofl f.id 29).drop 11).length = 18 := by simp [ofl_length]
    have e : headL f = [48] ++ ((ofl f.id 29).take 11 ++ ([49, 49] ++ (ofl f.id 29).drop 11 ++ ([rb f.remote, 48, 48] ++ (ofl f.dlc 4 ++ dataL f.data)))) := by unfold headL preL idL; rw [he]; simp
    have e2 : headL f = ([48] ++ (ofl f.id 29).take 11 ++ [49, 49]) ++ ((ofl f.id 29).drop 11 ++ ([rb f.remote, 48, 48] ++ (ofl f.dlc 4 ++ dataL f.data))) := by rw [e]; simp
    have c1 : cutL (headL f) 1 12 = (ofl f.id 29).take 11 := by rw [e]; exact cutL_at _ _ _ _ _ rfl (by rw [hl]; rfl)
    have c2 : cutL (headL f) 14 32 = (ofl f.id 29).drop 11 := by
      rw [e2]
      exact cutL_at _ _ _ _ _ (by rw [List.length_append, List.length_append, hl]; rfl) (by rw [List.length_append, List.length_append, hl, hl2]; rfl)
    have hn := num_append ((ofl f.id 29).take 11) ((ofl f.id 29).drop 11)
    rw [List.take_append_drop, num_ofl _ _ (by omega), hl2] at hn
    have h18 : (2 : Nat) ^ 18 = 262144 := rfl
    rw [h18] at hn
    rw [c1, c2, ← hn]
/-- a head's frame -/
theorem decode_head {f : Fr} (h : FrR f) : decode (headL f) = f := by
  have h13 := head_13 f []
  have hb := head_base f []
  have hr := head_r f []
  have hd := head_dlc f []
  rw [List.append_nil] at h13 hb hr hd
  obtain ⟨h8, hdd, hid⟩ := id h
  apply Fr.same
  · exact head_id h
  · show (bitAt (headL f) 13 == 49) = f.ext
    rw [h13]; cases f.ext <;> rfl
  · show (bitAt (headL f) (baseL (headL f) - 7) == 49) = f.remote
    rw [hb, hr, rb_iff]
  · show num (cutL (headL f) (baseL (headL f) - 4) (baseL (headL f))) = f.dlc
    rw [hb, hd, num_ofl _ _ (by omega)]
  · show bytesL (((headL f).length - baseL (headL f)) / 8) ((headL f).drop (baseL (headL f))) = f.data
    rw [hb, headL_length, show (base f + 8 * f.data.length - base f) / 8 = f.data.length from by omega]
    unfold headL
    rw [List.drop_append, List.drop_of_length_le (by rw [preL_length]; exact Nat.le_refl _), preL_length, Nat.sub_self, List.drop_zero, List.nil_append, bytesL_dataL]
end Go.Proofs.YtcaeobkaoebndaaGreat.B

namespace Go.Proofs.YtcaeobkaoebndaaGreat.B

/-- what a sum becomes by a bit -/
def stepN (s : Nat) (b : Bool) : Nat := (2 * s % 32768) ^^^ (if s.testBit 14 != b then 17817 else 0)
theorem stepN_lt (s : Nat) (b : Bool) : stepN s b < 32768 := by
  unfold stepN
  refine Nat.xor_lt_two_pow (n := 15) (Nat.mod_lt _ (by omega)) ?_
  split <;> omega
theorem stepN_bit (s : Nat) (b : Bool) (i : Nat) (hi : i < 15) : (stepN s b).testBit i = ((decide (1 ≤ i) && s.testBit (i - 1)) != ((s.testBit 14 != b) && Nat.testBit 17817 i)) := by
  unfold stepN
  rw [Nat.testBit_xor]
  have h1 : (2 * s % 32768).testBit i = (decide (1 ≤ i) && s.testBit (i - 1)) := by
    rw [show (32768 : Nat) = 2 ^ 15 from rfl, Nat.testBit_mod_two_pow, Nat.mul_comm, show s * 2 = s * 2 ^ 1 from by simp, Nat.testBit_mul_two_pow]
    simp [hi]
  rw [h1]
  cases s.testBit 14 != b <;> simp
theorem nat_eq_15 {a b : Nat} (ha : a < 32768) (hb : b < 32768) (h : ∀ i, i < 15 → a.testBit i = b.testBit i) : a = b := by
  apply Nat.eq_of_testBit_eq
  intro i
  by_cases hi : i < 15
  · exact h i hi
  · have hp : 2 ^ 15 ≤ 2 ^ i := Nat.pow_le_pow_right (by omega) (by omega)
    rw [Nat.testBit_lt_two_pow (Nat.lt_of_lt_of_le ha hp), Nat.testBit_lt_two_pow (Nat.lt_of_lt_of_le hb hp)]
/-- a step is linear -/
theorem stepN_xor (s t : Nat) (b c : Bool) : stepN (s ^^^ t) (b != c) = stepN s b ^^^ stepN t c := by
  apply nat_eq_15 (stepN_lt _ _) (Nat.xor_lt_two_pow (n := 15) (stepN_lt _ _) (stepN_lt _ _))
  intro i hi
  rw [Nat.testBit_xor, stepN_bit _ _ _ hi, stepN_bit _ _ _ hi, stepN_bit _ _ _ hi, Nat.testBit_xor, Nat.testBit_xor]
  cases s.testBit 14 <;> cases t.testBit 14 <;> cases s.testBit (i - 1) <;> cases t.testBit (i - 1) <;> cases b <;> cases c <;> cases decide (1 ≤ i) <;> cases Nat.testBit 17817 i <;> rfl

/-- the sum that bits make of s -/
def sumB (s : Nat) (l : List Bool) : Nat := l.foldl stepN s
theorem sumB_append (s : Nat) (a b : List Bool) : sumB s (a ++ b) = sumB (sumB s a) b := by simp [sumB]
theorem sumB_snoc (s : Nat) (a : List Bool) (c : Bool) : sumB s (a ++ [c]) = stepN (sumB s a) c := by simp [sumB]
theorem sumB_lt (l : List Bool) : sumB 0 l < 32768 := by
  rcases List.eq_nil_or_concat l with rfl | ⟨a, c, rfl⟩
  · simp [sumB]
  · rw [List.concat_eq_append, sumB_snoc]; exact stepN_lt _ _
def xorB (a b : List Bool) : List Bool := List.zipWith (fun x y => x != y) a b
theorem sumB_xor (s t : Nat) (a b : List Bool) (h : a.length = b.length) : sumB (s ^^^ t) (xorB a b) = sumB s a ^^^ sumB t b := by
  induction a generalizing b s t with
  | nil => cases b with | nil => rfl | cons _ _ => simp at h
  | cons x a ih =>
    cases b with
    | nil => simp at h
    | cons y b =>
      simp only [xorB, List.zipWith_cons_cons, sumB, List.foldl_cons]
      rw [stepN_xor]
      exact ih _ _ b (by simpa using h)
theorem stepN_zero : stepN 0 false = 0 := by decide
theorem stepN_one : stepN 0 true = 17817 := by decide
theorem sumB_zeros (n : Nat) : sumB 0 (List.replicate n false) = 0 := by
  induction n with
  | zero => rfl
  | succ n ih => rw [List.replicate_succ', sumB_snoc, ih, stepN_zero]

/-- one step back: what ends in m zeros began in m - 1, and its highest bit was the bit -/
theorem stepN_back {s : Nat} {b : Bool} {m : Nat} (hm : 1 ≤ m) (hm2 : m ≤ 15) (h : stepN s b % 2 ^ m = 0) : s.testBit 14 = b ∧ s % 2 ^ (m - 1) = 0 := by
  have hbit : ∀ i, i < m → (stepN s b).testBit i = false := by
    intro i hi
    have : (stepN s b % 2 ^ m).testBit i = (stepN s b).testBit i := by rw [Nat.testBit_mod_two_pow]; simp [hi]
    rw [← this, h]; simp
  have h0 := hbit 0 (by omega)
  rw [stepN_bit s b 0 (by omega)] at h0
  have hd : (s.testBit 14 != b) = false := by
    cases hx : s.testBit 14 != b
    · rfl
    · have hp : Nat.testBit 17817 0 = true := by decide
      rw [hx, hp] at h0
      simp at h0
  refine ⟨by simpa using hd, ?_⟩
  apply Nat.eq_of_testBit_eq
  intro i
  rw [Nat.testBit_mod_two_pow, Nat.zero_testBit]
  by_cases hi : i < m - 1
  · have := hbit (i + 1) (by omega)
    rw [stepN_bit s b (i + 1) (by omega), hd] at this
    simp at this
    simp [this]
  · simp [hi]
theorem sumB_back (l : List Bool) : ∀ {s m : Nat}, m ≤ 15 → l.length ≤ m → sumB s l % 2 ^ m = 0 → s % 2 ^ (m - l.length) = 0 := by
  induction l with
  | nil => intro s m _ _ h; simpa [sumB] using h
  | cons b l ih =>
    intro s m h15 hl h
    have h1 : stepN s b % 2 ^ (m - l.length) = 0 := ih (s := stepN s b) h15 (by simp at hl; omega) h
    have h2 := (stepN_back (by simp at hl; omega) (by omega) h1).2
    rwa [show m - l.length - 1 = m - (b :: l).length from by simp; omega] at h2
/-- a zero behind it makes nothing of what is something -/
theorem stepN_ne {s : Nat} (hs : s < 32768) (h : s ≠ 0) : stepN s false ≠ 0 := by
  intro e
  have := stepN_back (s := s) (b := false) (m := 15) (by omega) (by omega) (by rw [e])
  apply h
  apply nat_eq_15 hs (by omega)
  intro i hi
  rw [Nat.zero_testBit]
  by_cases h14 : i = 14
  · rw [h14]; exact this.1
  · have h2 : (s % 2 ^ 14).testBit i = s.testBit i := by rw [Nat.testBit_mod_two_pow]; simp; omega
    rw [← h2, show s % 2 ^ 14 = 0 from this.2, Nat.zero_testBit]
theorem sumB_ne {s : Nat} (hs : s < 32768) (h : s ≠ 0) (n : Nat) : sumB s (List.replicate n false) ≠ 0 ∧ sumB s (List.replicate n false) < 32768 := by
  induction n with
  | zero => exact ⟨h, hs⟩
  | succ n ih => rw [List.replicate_succ', sumB_snoc]; exact ⟨stepN_ne ih.2 ih.1, stepN_lt _ _⟩
/-- fifteen bits or fewer, not all zero, leave something -/
theorem burst_ne (l : List Bool) (hl : l.length ≤ 15) (h : true ∈ l) : sumB 0 l ≠ 0 := by
  intro e
  induction l with
  | nil => simp at h
  | cons b l ih =>
    cases b with
    | false =>
      refine ih (by simp at hl; omega) (by simpa using h) ?_
      simpa [sumB, stepN_zero] using e
    | true =>
      have e1 : sumB 17817 l = 0 := by simpa [sumB, stepN_one] using e
      have := sumB_back l (s := 17817) (m := 15) (by omega) (by simp at hl; omega) (by rw [e1])
      simp at hl
      have h2 : (17817 % 2 ^ (15 - l.length)) % 2 = 0 := by rw [this]
      rw [Nat.mod_mod_of_dvd _ (show 2 ∣ 2 ^ (15 - l.length) from by rw [show 15 - l.length = (14 - l.length) + 1 from by omega, Nat.pow_succ]; exact Nat.dvd_mul_left _ _)] at h2
      omega
/-- so do they between zeros -/
theorem burst_between (a b : Nat) (l : List Bool) (hl : l.length ≤ 15) : sumB 0 (List.replicate a false ++ l ++ List.replicate b false) = 0 ↔ ¬ true ∈ l := by
  rw [sumB_append, sumB_append, sumB_zeros]
  constructor
  · intro e h
    exact (sumB_ne (sumB_lt l) (burst_ne l hl h) b).1 e
  · intro h
    have : l = List.replicate l.length false := by
      rw [List.eq_replicate_iff]
      refine ⟨rfl, fun x hx => ?_⟩
      cases x
      · rfl
      · exact absurd hx h
    rw [this, sumB_zeros, sumB_zeros]

/-! ### dividing on paper -/
/-- the digits while they are divided: i are done, r is what the sum is by them -/
def win (msg : Nat → Bool) (i r j : Nat) : Bool := if j < i then false else (msg j != (decide (j < i + 15) && r.testBit (14 - (j - i))))
/-- the divisor's digits -/
def divisor (k : Nat) : Bool := Nat.testBit 50585 (15 - k)
theorem win_top (msg : Nat → Bool) (i r : Nat) : win msg i r i = (msg i != r.testBit 14) := by simp [win]
theorem divisor_low (m : Nat) (h : m < 15) : Nat.testBit 50585 m = Nat.testBit 17817 m := by
  rw [show (50585 : Nat) = 2 ^ 15 + 17817 from rfl, Nat.testBit_two_pow_add_gt h]
theorem win_step (msg : Nat → Bool) (i r j : Nat) : win msg (i + 1) (stepN r (msg i)) j = (win msg i r j != (decide (i ≤ j ∧ j ≤ i + 15) && (win msg i r i && divisor (j - i)))) := by
  rw [win_top]
  by_cases h0 : j < i
  · simp [win, h0, show j < i + 1 from by omega, show ¬ i ≤ j from by omega]
  · by_cases h1 : j = i
    · subst h1
      simp only [win, if_pos (show j < j + 1 from by omega), if_neg (show ¬ j < j from by omega), Nat.sub_self]
      have : divisor 0 = true := by decide
      simp [this]
    · obtain ⟨k, rfl⟩ : ∃ k, j = i + k := ⟨j - i, by omega⟩
      have hk : 1 ≤ k := by omega
      simp only [win, if_neg (show ¬ i + k < i + 1 from by omega), if_neg (show ¬ i + k < i from by omega)]
      rw [show i + k - i = k from by omega, show i + k - (i + 1) = k - 1 from by omega]
      by_cases h15 : k ≤ 15
      · have hd : decide (i ≤ i + k ∧ i + k ≤ i + 15) = true := by simp; omega
        have hs : decide (i + k < i + 1 + 15) = true := by simp; omega
        have hdiv : divisor k = Nat.testBit 17817 (15 - k) := by unfold divisor; exact divisor_low _ (by omega)
        rw [hd, hs, hdiv, show 14 - (k - 1) = 15 - k from by omega, stepN_bit _ _ _ (by omega)]
        have hx : (decide (1 ≤ 15 - k) && r.testBit (15 - k - 1)) = (decide (i + k < i + 15) && r.testBit (14 - k)) := by
          rw [show 15 - k - 1 = 14 - k from by omega]
          congr 1
          rw [decide_eq_decide]; omega
        rw [hx]
        cases msg (i + k) <;> cases msg i <;> cases r.testBit 14 <;> cases decide (i + k < i + 15) && r.testBit (14 - k) <;> cases Nat.testBit 17817 (15 - k) <;> rfl
      · have hd : decide (i ≤ i + k ∧ i + k ≤ i + 15) = false := by simp; omega
        have hs : decide (i + k < i + 1 + 15) = false := by simp; omega
        have hs2 : decide (i + k < i + 15) = false := by simp; omega
        rw [hd, hs, hs2]; simp

end Go.Proofs.YtcaeobkaoebndaaGreat.B

namespace Go.Proofs.YtcaeobkaoebndaaGreat.B
open Go.RowKit

theorem u32_in (a : Nat) (ha : a < 4294967296) : (BitVec.ofInt 32 (a : Int)).toNat = a := by
  rw [BitVec.ofInt_natCast, BitVec.toNat_ofNat]; exact Nat.mod_eq_of_lt (by omega)
theorem and_u32 (a b : Nat) (ha : a < 4294967296) (hb : b < 4294967296) : bits BinOp.and IntKind.u32 (a : Int) (b : Int) = ((a &&& b : Nat) : Int) := by
  have hx : a &&& b < 2 ^ 32 := Nat.and_lt_two_pow _ (by omega)
  show IntKind.u32.wrap ((BitVec.ofInt 32 (a : Int) &&& BitVec.ofInt 32 (b : Int)).toNat : Int) = _
  rw [BitVec.toNat_and, u32_in a ha, u32_in b hb, IntKind.wrap_u32]
  omega
theorem xor_u32 (a b : Nat) (ha : a < 4294967296) (hb : b < 4294967296) : bits BinOp.xor IntKind.u32 (a : Int) (b : Int) = ((a ^^^ b : Nat) : Int) := by
  have hx : a ^^^ b < 2 ^ 32 := Nat.xor_lt_two_pow (by omega) (by omega)
  show IntKind.u32.wrap ((BitVec.ofInt 32 (a : Int) ^^^ BitVec.ofInt 32 (b : Int)).toNat : Int) = _
  rw [BitVec.toNat_xor, u32_in a ha, u32_in b hb, IntKind.wrap_u32]
  omega
theorem top_bit (n : Nat) : (n &&& 16384 != 0) = n.testBit 14 := by
  have hb : ∀ i, (n &&& 16384).testBit i = (n.testBit i && decide (14 = i)) := fun i => by
    rw [Nat.testBit_and, show (16384 : Nat) = 2 ^ 14 from rfl, Nat.testBit_two_pow]
  cases h : n.testBit 14
  · have : n &&& 16384 = 0 := Nat.eq_of_testBit_eq fun i => by
      rw [hb, Nat.zero_testBit]
      by_cases hi : 14 = i
      · subst hi; simp [h]
      · simp [hi]
    rw [this]; rfl
  · have h2 := hb 14
    rw [h] at h2
    rw [bne_iff_ne]
    intro e
    rw [e] at h2
    simp at h2
theorem top_high (n : Nat) : ((n % 32768 / 16384 : Nat) = 1) ↔ n.testBit 14 = true := by
  rw [Nat.testBit_eq_decide_div_mod_eq]
  simp
  omega
theorem low_15 (n : Nat) : n &&& 32767 = n % 32768 := Nat.and_two_pow_sub_one_eq_mod n 15

theorem up_u32 (n : Nat) : bits BinOp.and IntKind.u32 ((n : Int) * 2 % 4294967296) 32767 = ((2 * n % 32768 : Nat) : Int) := by
  have h := and_u32 (2 * n % 4294967296) 32767 (by omega) (by omega)
  rw [low_15] at h
  have e : ((n : Int) * 2 % 4294967296) = ((2 * n % 4294967296 : Nat) : Int) := by omega
  rw [e]
  refine h.trans ?_
  omega
theorem xor_turns (m : Nat) (h : m < 32768) : bits BinOp.xor IntKind.u32 (m : Int) 17817 = ((m ^^^ 17817 : Nat) : Int) := xor_u32 m 17817 (by omega) (by omega)
theorem top_u32 (n : Nat) (h : n < 4294967296) : (bits BinOp.and IntKind.u32 (n : Int) 16384 != 0) = n.testBit 14 := by
  rw [show (16384 : Int) = ((16384 : Nat) : Int) from rfl, and_u32 n 16384 h (by omega), ← top_bit]
  rw [Bool.eq_iff_iff, bne_iff_ne, bne_iff_ne]
  omega
theorem int_dec (c d : Nat) : ((c : Int) == (d : Int)) = decide (c = d) := by
  rw [Bool.eq_iff_iff, beq_iff_eq, decide_eq_true_iff]; omega
theorem step_yes (n c : Nat) (hn : n < 4294967296) (h : (!(bits BinOp.and IntKind.u32 (n : Int) 16384 != 0) == ((c : Int) == 49)) = true) :
    bits BinOp.xor IntKind.u32 (bits BinOp.and IntKind.u32 ((n : Int) * 2 % 4294967296) 32767) 17817 = ((stepN n (decide (c = 49)) : Nat) : Int) := by
  rw [top_u32 n hn, show ((49 : Int)) = ((49 : Nat) : Int) from rfl, int_dec] at h
  rw [up_u32, xor_turns _ (by omega)]
  unfold stepN
  have h' : (n.testBit 14 != decide (c = 49)) = true := h
  rw [h']; rfl
theorem step_no (n c : Nat) (hn : n < 4294967296) (h : (!(bits BinOp.and IntKind.u32 (n : Int) 16384 != 0) == ((c : Int) == 49)) = false) :
    bits BinOp.and IntKind.u32 ((n : Int) * 2 % 4294967296) 32767 = ((stepN n (decide (c = 49)) : Nat) : Int) := by
  rw [top_u32 n hn, show ((49 : Int)) = ((49 : Nat) : Int) from rfl, int_dec] at h
  rw [up_u32]
  unfold stepN
  have h' : (n.testBit 14 != decide (c = 49)) = false := h
  rw [h']; simp

theorem high_15 (n : Nat) (b : Bool) : (((n : Int) % 32768 / 16384) != (if b then 1 else 0)) = (n.testBit 14 != b) := by
  have h := top_high n
  have h2 : n % 32768 / 16384 ≤ 1 := by omega
  cases hb : n.testBit 14
  · have h3 : n % 32768 / 16384 = 0 := by
      rw [hb] at h
      have : ¬ n % 32768 / 16384 = 1 := fun e => by have := h.1 e; cases this
      omega
    have e : (n : Int) % 32768 / 16384 = 0 := by omega
    rw [e]; cases b <;> rfl
  · have h3 := h.2 hb
    have e : (n : Int) % 32768 / 16384 = 1 := by omega
    rw [e]; cases b <;> rfl
theorem ref_yes {n c : Nat} {b : Bool} (h1 : ((c : Int) == 49) = b) (h2 : (((n : Int) % 32768 / 16384) != (if b then 1 else 0)) = true) :
    bits BinOp.xor IntKind.u32 (2 * ((n : Int) % 32768) % 32768) 17817 = ((stepN n (decide (c = 49)) : Nat) : Int) := by
  rw [show ((49 : Int)) = ((49 : Nat) : Int) from rfl, int_dec] at h1
  rw [high_15] at h2
  have e : (2 * ((n : Int) % 32768) % 32768) = ((2 * n % 32768 : Nat) : Int) := by omega
  rw [e, xor_turns _ (by omega)]
  unfold stepN
  rw [h1, h2]; rfl
theorem ref_no {n c : Nat} {b : Bool} (h1 : ((c : Int) == 49) = b) (h2 : (((n : Int) % 32768 / 16384) != (if b then 1 else 0)) = false) :
    (2 * ((n : Int) % 32768) % 32768) = ((stepN n (decide (c = 49)) : Nat) : Int) := by
  rw [show ((49 : Int)) = ((49 : Nat) : Int) from rfl, int_dec] at h1
  rw [high_15] at h2
  have e : (2 * ((n : Int) % 32768) % 32768) = ((2 * n % 32768 : Nat) : Int) := by omega
  rw [e]
  unfold stepN
  rw [h1, h2]; simp

/-- a bit of a row -/
def one (c : UInt8) : Bool := c == 49
theorem one_iff (c : UInt8) : one c = true ↔ c.toNat = 49 := by
  unfold one
  rw [beq_iff_eq]
  exact ⟨fun h => by rw [h]; rfl, fun h => UInt8.toNat_inj.1 h⟩
theorem one_dec (c : UInt8) : one c = decide (c.toNat = 49) := by
  rw [Bool.eq_iff_iff, one_iff]; simp
/-- what a row's bytes make of s -/
def crc (s : Nat) (l : List UInt8) : Nat := sumB s (l.map one)
theorem crc_nil (s : Nat) : crc s [] = s := rfl
theorem crc_append (s : Nat) (a b : List UInt8) : crc s (a ++ b) = crc (crc s a) b := by unfold crc; rw [List.map_append, sumB_append]
theorem crc_snoc (s : Nat) (a : List UInt8) (c : UInt8) : crc s (a ++ [c]) = stepN (crc s a) (one c) := by unfold crc; rw [List.map_append, List.map_singleton, sumB_snoc]
theorem crc_lt (l : List UInt8) : crc 0 l < 32768 := sumB_lt _
/-- a row's sum -/
def sum (s : ByteArray) : Nat := crc 0 s.data.toList
theorem sum_lt (s : ByteArray) : sum s < 32768 := crc_lt _
theorem crc_take_succ (m : Nat) (s : ByteArray) (k : Nat) (h : k < s.size) : crc m (s.data.toList.take (k + 1)) = stepN (crc m (s.data.toList.take k)) (one s[k]) := by
  rw [take_snoc s k h, crc_snoc]
theorem crc_lt32 (n : Nat) (hn : n < 4294967296) (l : List UInt8) : crc n l < 4294967296 := by
  rcases List.eq_nil_or_concat l with rfl | ⟨a, c, rfl⟩
  · exact hn
  · rw [List.concat_eq_append, crc_snoc]
    have := stepN_lt (crc n a) (one c)
    omega
/-- what tells whether a row ends with its sum -/
def check (s : ByteArray) : Bool := decide (15 ≤ s.size) && right s && (sum s == 0)
/-- a row with its sum behind it -/
def framed (s : ByteArray) : ByteArray := s ++ ofn (sum s) 15
theorem check_short {s : ByteArray} (h : s.size < 15) : check s = false := by unfold check; simp; omega
theorem check_bad {s : ByteArray} (h : right s = false) : check s = false := by unfold check; simp [h]
theorem check_good {s : ByteArray} (h : 15 ≤ s.size) (hr : right s = true) : (((sum s : Nat) : Int) == 0) = check s := by
  unfold check
  rw [hr, Bool.eq_iff_iff, beq_iff_eq]
  simp [h]
end Go.Proofs.YtcaeobkaoebndaaGreat.B

namespace Go.Proofs.YtcaeobkaoebndaaGreat.B

/-- a bit turned -/
def turn (c : UInt8) : UInt8 := c ^^^ 1
theorem okc_turn {c : UInt8} (h : okc c = true) : okc (turn c) = true := by
  rcases (okc_iff c).1 h with e | e
  · rw [UInt8.toNat_inj.1 (show c.toNat = (48 : UInt8).toNat from e)]; rfl
  · rw [UInt8.toNat_inj.1 (show c.toNat = (49 : UInt8).toNat from e)]; rfl
theorem turn_turn (c : UInt8) : turn (turn c) = c := by
  unfold turn; rw [UInt8.xor_assoc, UInt8.xor_self, UInt8.xor_zero]
theorem turn_ne (c : UInt8) : turn c ≠ c := by
  intro h
  have : c ^^^ (c ^^^ 1) = c ^^^ c := congrArg (c ^^^ ·) h
  rw [← UInt8.xor_assoc, UInt8.xor_self, UInt8.zero_xor] at this
  exact absurd this (by decide)
theorem turn_step {c : UInt8} (h : okc c = true) : bits BinOp.xor IntKind.u8 (c.toNat : Int) 1 = ((turn c).toNat : Int) := by
  rcases (okc_iff c).1 h with e | e
  · rw [UInt8.toNat_inj.1 (show c.toNat = (48 : UInt8).toNat from e)]; decide
  · rw [UInt8.toNat_inj.1 (show c.toNat = (49 : UInt8).toNat from e)]; decide

/-- a row with the bits at these places turned, one behind the other -/
def flips (l : List UInt8) (zs : List Int) : List UInt8 := zs.foldl (fun l z => l.modify z.toNat turn) l
theorem flips_snoc (l : List UInt8) (zs : List Int) (z : Int) : flips l (zs ++ [z]) = (flips l zs).modify z.toNat turn := by simp [flips]
theorem flips_length (l : List UInt8) (zs : List Int) : (flips l zs).length = l.length := by
  unfold flips
  induction zs generalizing l with
  | nil => rfl
  | cons z zs ih => rw [List.foldl_cons, ih, List.length_modify]
theorem all_modify {l : List UInt8} (h : l.all okc = true) (i : Nat) : (l.modify i turn).all okc = true := by
  rw [List.all_eq_true] at *
  intro c hc
  obtain ⟨j, hj, rfl⟩ := List.getElem_of_mem hc
  rw [List.getElem_modify]
  split
  · exact okc_turn (h _ (List.getElem_mem _))
  · exact h _ (List.getElem_mem _)
theorem flips_all {l : List UInt8} (h : l.all okc = true) (zs : List Int) : (flips l zs).all okc = true := by
  unfold flips
  induction zs generalizing l with
  | nil => exact h
  | cons z zs ih => rw [List.foldl_cons]; exact ih (all_modify h _)
/-- are all of these places of a row of n bits -/
def places (n : Nat) (zs : List Int) : Bool := zs.all fun z => decide (0 ≤ z ∧ z < n)
theorem take_succ_getD (zs : List Int) (k : Nat) (h : k < zs.length) : zs.take (k + 1) = zs.take k ++ [zs.getD k 0] := by
  rw [List.take_succ_eq_append_getElem h, List.getD_eq_getElem?_getD, List.getElem?_eq_getElem h]; rfl
theorem places_bad {n : Nat} {zs : List Int} {k : Nat} (h : k < zs.length) (hb : ¬ (0 ≤ zs.getD k 0 ∧ zs.getD k 0 < n)) : places n zs = false := by
  rw [Bool.eq_false_iff]; intro e
  have := List.all_eq_true.1 e zs[k] (List.getElem_mem _)
  rw [List.getD_eq_getElem?_getD, List.getElem?_eq_getElem h] at hb
  simp at this hb
  omega
def preP (n : Nat) (zs : List Int) (k : Nat) : Prop := places n (zs.take k) = true
theorem preP_zero (n : Nat) (zs : List Int) : preP n zs 0 := by simp [preP, places]
theorem preP_succ {n : Nat} {zs : List Int} {k : Nat} (hk : k < zs.length) (h : preP n zs k) (h1 : 0 ≤ zs.getD k 0) (h2 : zs.getD k 0 < n) : preP n zs (k + 1) := by
  unfold preP places at *
  rw [take_succ_getD _ _ hk, List.all_append, h]
  generalize zs.getD k 0 = z at *
  simp; omega
theorem preP_full {n : Nat} {zs : List Int} (h : preP n zs zs.length) : places n zs = true := by
  unfold preP at h; rwa [List.take_length] at h
theorem flips_succ (l : List UInt8) (zs : List Int) (k : Nat) (h : k < zs.length) : flips l (zs.take (k + 1)) = (flips l (zs.take k)).modify (zs.getD k 0).toNat turn := by
  rw [take_succ_getD _ _ h, flips_snoc]
theorem modify_set {l : List UInt8} {i : Nat} (h : i < l.length) : l.modify i turn = l.set i (turn l[i]) := by
  apply List.ext_getElem?
  intro j
  rw [List.getElem?_modify, List.getElem?_set]
  by_cases e : i = j
  · subst e; simp [h]
  · simp [e]
theorem flips_two (l : List UInt8) (i : Nat) : flips l [(i : Int), (i : Int)] = l := by
  apply List.ext_getElem?
  intro j
  simp only [flips, List.foldl_cons, List.foldl_nil, Int.toNat_natCast, List.getElem?_modify]
  by_cases e : i = j
  · subst e; simp; cases l[i]? <;> simp [turn_turn]
  · simp [e]
theorem flips_one_ne (l : List UInt8) (i : Nat) (h : i < l.length) : flips l [(i : Int)] ≠ l := by
  intro e
  have := congrArg (·[i]?) e
  simp [flips, h] at this
  exact turn_ne _ this

end Go.Proofs.YtcaeobkaoebndaaGreat.B

namespace Go.Proofs.YtcaeobkaoebndaaGreat.B

/-- a bit turned by cutting -/
def turnB (s : ByteArray) (i : Nat) : ByteArray := ⟨(s.data.toList.modify i turn).toArray⟩

theorem turnB_eq {s : ByteArray} {i : Nat} (h : i < s.size) (c : UInt8) (hc : turn s[i] = c) : s.extract 0 i ++ ⟨#[c]⟩ ++ s.extract (i + 1) s.size = turnB s i := by
  apply ByteArray.ext; apply Array.ext'
  rw [ByteArray.data_append, Array.toList_append, ByteArray.data_append, Array.toList_append]
  have hl : i < s.data.toList.length := by rw [size_len]; exact h
  have e1 : (s.extract 0 i).data.toList = s.data.toList.take i := by rw [Lib.extract_data]; simp
  have e2 : (s.extract (i + 1) s.size).data.toList = s.data.toList.drop (i + 1) := by
    rw [Lib.extract_data, List.take_of_length_le (by rw [List.length_drop, size_len]; omega)]
  rw [e1, e2]
  show s.data.toList.take i ++ [c] ++ s.data.toList.drop (i + 1) = s.data.toList.modify i turn
  rw [List.modify_eq_take_cons_drop hl, ← hc]
  simp
  rfl

end Go.Proofs.YtcaeobkaoebndaaGreat.B

namespace Go.Proofs.YtcaeobkaoebndaaGreat.B
open Go.RowKit

theorem stepN_same (s : Nat) : stepN s (s.testBit 14) = 2 * s % 32768 := by unfold stepN; simp
theorem crc_cons (s : Nat) (c : UInt8) (l : List UInt8) : crc s (c :: l) = crc (stepN s (one c)) l := rfl
/-- a sum's own bits take it to 0 -/
theorem crc_self (m : Nat) : ∀ k, k ≤ 15 → crc (m * 2 ^ (15 - k) % 32768) (ofl m k) = 0 := by
  intro k
  induction k with
  | zero => intro _; simp [ofl, crc_nil]
  | succ k ih =>
    intro hk
    rw [ofl_cons, crc_cons]
    have h1 : one (UInt8.ofNat (48 + m / 2 ^ k % 2)) = m.testBit k := by
      rw [one_dec, Nat.testBit_eq_decide_div_mod_eq, UInt8.toNat_ofNat_of_lt' (by show _ < 2 ^ 8; omega), decide_eq_decide]
      omega
    have h2 : (m * 2 ^ (15 - (k + 1)) % 32768).testBit 14 = m.testBit k := by
      rw [show (32768 : Nat) = 2 ^ 15 from rfl, Nat.testBit_mod_two_pow, Nat.testBit_mul_two_pow, show 14 - (15 - (k + 1)) = k from by omega]
      simp
    rw [h1, ← h2, stepN_same]
    rw [show 2 * (m * 2 ^ (15 - (k + 1)) % 32768) % 32768 = m * 2 ^ (15 - k) % 32768 from by
      rw [show 15 - k = (15 - (k + 1)) + 1 from by omega, Nat.pow_succ, ← Nat.mul_assoc, Nat.mul_comm 2, Nat.mod_mul_mod]]
    exact ih (by omega)
theorem sum_framed (s : ByteArray) : sum (framed s) = 0 := by
  unfold framed sum
  rw [cat_list, crc_append, ofn_list]
  have h := crc_self (crc 0 s.data.toList) 15 (by omega)
  have hl := crc_lt s.data.toList
  rwa [show crc 0 s.data.toList * 2 ^ (15 - 15) % 32768 = crc 0 s.data.toList from by simp; omega] at h
theorem framed_size (s : ByteArray) : (framed s).size = s.size + 15 := by unfold framed; rw [ByteArray.size_append, ofn_size]
theorem framed_right {s : ByteArray} (hr : right s = true) (h : s.size ≤ 3985) : right (framed s) = true := by
  unfold right
  rw [framed_size]
  have h1 := right_all hr
  unfold framed
  rw [cat_list, List.all_append, h1, ofn_list, ofl_all]
  simp; omega
theorem framed_check {s : ByteArray} (hr : right s = true) (h : s.size ≤ 3985) : check (framed s) = true := by
  unfold check
  rw [framed_right hr h, framed_size, sum_framed]
  simp

/-! ### turned bits -/
theorem one_turn {c : UInt8} (h : okc c = true) : one (turn c) = !one c := by
  rcases (okc_iff c).1 h with e | e
  · rw [UInt8.toNat_inj.1 (show c.toNat = (48 : UInt8).toNat from e)]; rfl
  · rw [UInt8.toNat_inj.1 (show c.toNat = (49 : UInt8).toNat from e)]; rfl
theorem one_inj {c d : UInt8} (hc : okc c = true) (hd : okc d = true) (h : one c = one d) : c = d := by
  rw [one_dec, one_dec, decide_eq_decide] at h
  apply UInt8.toNat_inj.1
  rcases (okc_iff c).1 hc with e | e <;> rcases (okc_iff d).1 hd with f | f <;> omega
theorem map_one_inj {a b : List UInt8} (ha : a.all okc = true) (hb : b.all okc = true) (h : a.map one = b.map one) : a = b := by
  induction a generalizing b with
  | nil => cases b with | nil => rfl | cons _ _ => simp at h
  | cons x a ih =>
    cases b with
    | nil => simp at h
    | cons y b =>
      simp only [List.all_cons, Bool.and_eq_true] at ha hb
      simp only [List.map_cons, List.cons.injEq] at h
      rw [one_inj ha.1 hb.1 h.1, ih ha.2 hb.2 h.2]

/-- which bits are turned: those of the pattern's first i that are within the row -/
def err (p pat i j : Nat) : Bool := decide (p ≤ j) && decide (j < p + i) && pat.testBit (j - p)
def errs (p pat i n : Nat) : List Bool := (List.range n).map (err p pat i)
def hit (t : ByteArray) (p pat : Nat) : Nat → ByteArray
  | 0 => t
  | i + 1 => if p + i < t.size ∧ pat.testBit i = true then turnB (hit t p pat i) (p + i) else hit t p pat i
theorem turnB_size (s : ByteArray) (i : Nat) : (turnB s i).size = s.size := by
  show (s.data.toList.modify i turn).length = s.size
  rw [List.length_modify, size_len]
theorem turnB_right {s : ByteArray} (i : Nat) (h : right s = true) : right (turnB s i) = true := by
  unfold right
  rw [turnB_size, show (turnB s i).data.toList = s.data.toList.modify i turn from rfl, all_modify (right_all h)]
  have := right_size h
  simp [this]
theorem hit_size (t : ByteArray) (p pat i : Nat) : (hit t p pat i).size = t.size := by
  induction i with
  | zero => rfl
  | succ i ih => unfold hit; split; rw [turnB_size, ih]; exact ih
theorem hit_right {t : ByteArray} (p pat i : Nat) (h : right t = true) : right (hit t p pat i) = true := by
  induction i with
  | zero => exact h
  | succ i ih => unfold hit; split; exact turnB_right _ ih; exact ih
theorem err_succ (p pat i j : Nat) : err p pat (i + 1) j = if j = p + i then pat.testBit i else err p pat i j := by
  unfold err
  by_cases h : j = p + i
  · subst h; simp
  · rw [if_neg h]
    by_cases h2 : p ≤ j
    · by_cases h3 : j < p + i
      · simp [h2, h3, show j < p + (i + 1) from by omega]
      · simp [h3, show ¬ j < p + (i + 1) from by omega]
    · simp [h2]
theorem err_at (p pat i : Nat) : err p pat i (p + i) = false := by unfold err; simp
theorem hit_bits {t : ByteArray} (p pat i : Nat) (h : right t = true) : (hit t p pat i).data.toList.map one = xorB (t.data.toList.map one) (errs p pat i t.size) := by
  induction i with
  | zero =>
    apply List.ext_getElem
    · simp [xorB, errs, hit]
    · intro j h1 h2
      have hf : err p pat 0 j = false := by
        unfold err
        by_cases h3 : p ≤ j
        · simp [show ¬ j < p from by omega]
        · simp [h3]
      simp only [xorB, errs, List.getElem_zipWith, List.getElem_map, List.getElem_range, hf]
      simp [hit]
  | succ i ih =>
    apply List.ext_getElem
    · rw [List.length_map, size_len, hit_size]; simp [xorB, errs]
    · intro j h1 h2
      rw [List.length_map, size_len, hit_size] at h1
      have hj : ((hit t p pat i).data.toList.map one)[j]'(by rw [List.length_map, size_len, hit_size]; exact h1) = (xorB (t.data.toList.map one) (errs p pat i t.size))[j]'(by simp [xorB, errs]; exact h1) := by simp only [ih]
      simp only [xorB, errs, List.getElem_zipWith, List.getElem_map, List.getElem_range] at hj ⊢
      rw [err_succ]
      have hok : okc ((hit t p pat i).data.toList[j]'(by rw [size_len, hit_size]; exact h1)) = true := List.all_eq_true.1 (right_all (hit_right p pat i h)) _ (List.getElem_mem _)
      by_cases hc : p + i < t.size ∧ pat.testBit i = true
      · have e : (hit t p pat (i + 1)).data.toList = (hit t p pat i).data.toList.modify (p + i) turn := by
          show (if p + i < t.size ∧ pat.testBit i = true then turnB (hit t p pat i) (p + i) else hit t p pat i).data.toList = _
          rw [if_pos hc]; rfl
        simp only [e, List.getElem_modify]
        by_cases hji : p + i = j
        · subst hji
          rw [if_pos rfl, if_pos rfl, one_turn hok, hj, err_at, hc.2]
          cases one t.data.toList[p + i] <;> rfl
        · rw [if_neg hji, if_neg (fun e => hji e.symm)]
          exact hj
      · have e : (hit t p pat (i + 1)).data.toList = (hit t p pat i).data.toList := by
          show (if p + i < t.size ∧ pat.testBit i = true then turnB (hit t p pat i) (p + i) else hit t p pat i).data.toList = _
          rw [if_neg hc]
        simp only [e]
        by_cases hji : j = p + i
        · subst hji
          rw [if_pos rfl, hj, err_at]
          have : pat.testBit i = false := by
            cases hp : pat.testBit i
            · rfl
            · exact absurd ⟨h1, hp⟩ hc
          rw [this]
        · rw [if_neg hji]
          exact hj
theorem errs_form (p pat n : Nat) (h : p ≤ n) : ∃ m b, ∃ l : List Bool, l.length ≤ 15 ∧ errs p pat 15 n = List.replicate p false ++ l ++ List.replicate b false ∧ m = l.length := by
  obtain ⟨m, hm⟩ : ∃ m, m = min 15 (n - p) := ⟨_, rfl⟩
  obtain ⟨b, hb⟩ : ∃ b, b = n - p - m := ⟨_, rfl⟩
  refine ⟨_, b, (List.range m).map (fun x => err p pat 15 (p + x)), by simp; omega, ?_, rfl⟩
  unfold errs
  rw [show n = p + m + b from by omega, List.range_add, List.range_add, List.map_append, List.map_append, List.map_map, List.map_map]
  congr 1
  · congr 1
    rw [List.eq_replicate_iff]
    refine ⟨by simp, fun x hx => ?_⟩
    simp only [List.mem_map, List.mem_range] at hx
    obtain ⟨j, hj, rfl⟩ := hx
    unfold err
    simp; omega
  · rw [List.eq_replicate_iff]
    refine ⟨by simp, fun x hx => ?_⟩
    simp only [List.mem_map, List.mem_range, Function.comp] at hx
    obtain ⟨j, hj, rfl⟩ := hx
    unfold err
    simp; omega
theorem xorB_false (l : List Bool) : xorB l (List.replicate l.length false) = l := by
  induction l with
  | nil => rfl
  | cons x l ih => simp only [xorB, List.length_cons, List.replicate_succ, List.zipWith_cons_cons] at ih ⊢; rw [ih]; simp
theorem xorB_self {l e : List Bool} (hl : l.length = e.length) (h : xorB l e = l) : ¬ true ∈ e := by
  induction l generalizing e with
  | nil => cases e with | nil => simp | cons _ _ => simp at hl
  | cons x l ih =>
    cases e with
    | nil => simp at hl
    | cons y e =>
      simp only [xorB, List.zipWith_cons_cons, List.cons.injEq] at h
      have h1 : y = false := by cases x <;> cases y <;> simp_all
      have h2 := ih (by simpa using hl) h.2
      simp [h1, h2]
/-- bits turned within fifteen are told by the sum -/
theorem burst_told {t : ByteArray} (p pat : Nat) (h : right t = true) (h0 : sum t = 0) (hp : p ≤ t.size) : sum (hit t p pat 15) = 0 ↔ hit t p pat 15 = t := by
  obtain ⟨m, b, l, hl, hE, _⟩ := errs_form p pat t.size hp
  have hlen : (t.data.toList.map one).length = (errs p pat 15 t.size).length := by simp [errs]
  have hs : sum (hit t p pat 15) = sumB 0 (errs p pat 15 t.size) := by
    unfold sum crc
    rw [hit_bits p pat 15 h]
    have := sumB_xor 0 0 _ _ hlen
    rw [Nat.xor_self] at this
    rw [this, show sumB 0 (t.data.toList.map one) = 0 from h0, Nat.zero_xor]
  rw [hs, hE, burst_between p b l hl]
  have hmem : true ∈ errs p pat 15 t.size ↔ true ∈ l := by
    rw [hE]; simp
  rw [← hmem]
  constructor
  · intro hn
    have hrep : errs p pat 15 t.size = List.replicate (t.data.toList.map one).length false := by
      rw [List.eq_replicate_iff]
      refine ⟨by rw [hlen], fun x hx => ?_⟩
      cases x
      · rfl
      · exact absurd hx hn
    apply ByteArray.ext; apply Array.ext'
    apply map_one_inj (right_all (hit_right p pat 15 h)) (right_all h)
    rw [hit_bits p pat 15 h, hrep, xorB_false]
  · intro e
    have := hit_bits p pat 15 h
    rw [e] at this
    exact xorB_self hlen this.symm
theorem burst_check {t : ByteArray} (p pat : Nat) (h : right t = true) (h0 : sum t = 0) (h15 : 15 ≤ t.size) (hp : p ≤ t.size) : check (hit t p pat 15) = decide (hit t p pat 15 = t) := by
  unfold check
  rw [hit_size, hit_right p pat 15 h, Bool.eq_iff_iff]
  have := burst_told p pat h h0 hp
  simp [h15, this]
theorem pat_bit (pat k : Nat) (h : pat < 4294967296) : (bits BinOp.and IntKind.u32 ((pat : Int) / 2 ^ k) 1 == 1) = pat.testBit k := by
  have hd := Nat.div_le_self pat (2 ^ k)
  have e : ((pat : Int) / 2 ^ k) = ((pat / 2 ^ k : Nat) : Int) := by simp
  rw [e, show (1 : Int) = ((1 : Nat) : Int) from rfl, and_u32 _ _ (by omega) (by omega), Nat.and_one_is_mod, int_dec, Nat.testBit_eq_decide_div_mod_eq]
theorem hit_yes {t : ByteArray} {p pat i : Nat} (h : p + i < t.size) (hb : pat.testBit i = true) : hit t p pat (i + 1) = turnB (hit t p pat i) (p + i) := by
  show (if p + i < t.size ∧ pat.testBit i = true then turnB (hit t p pat i) (p + i) else hit t p pat i) = _
  rw [if_pos ⟨h, hb⟩]
theorem hit_no {t : ByteArray} {p pat i : Nat} (h : ¬ (p + i < t.size ∧ pat.testBit i = true)) : hit t p pat (i + 1) = hit t p pat i := by
  show (if p + i < t.size ∧ pat.testBit i = true then turnB (hit t p pat i) (p + i) else hit t p pat i) = _
  rw [if_neg h]
end Go.Proofs.YtcaeobkaoebndaaGreat.B

namespace Go.Proofs.YtcaeobkaoebndaaGreat.B

def frB (f : Fr) : Bool := decide (f.dlc ≤ 8) && (if f.remote then f.data.isEmpty else f.data.length == f.dlc) && decide (f.id < if f.ext then 536870912 else 2048)
theorem frB_iff (f : Fr) : frB f = true ↔ FrR f := by
  unfold frB FrR
  rw [Bool.and_eq_true, Bool.and_eq_true, decide_eq_true_eq, decide_eq_true_eq, and_assoc]
  cases f.remote <;> simp
def sumL (h : List UInt8) : List UInt8 := h ++ ofl (crc 0 h) 15
def bitsL (f : Fr) : List UInt8 := (stf (sumL (headL f))).2 ++ List.replicate 10 49
theorem sumL_length (h : List UInt8) : (sumL h).length = h.length + 15 := by unfold sumL; rw [List.length_append, ofl_length]
theorem sumL_all {h : List UInt8} (ha : h.all okc = true) : (sumL h).all okc = true := by unfold sumL; rw [List.all_append, ha, ofl_all]; rfl
theorem good_sum {f : Fr} (h : FrR f) : Good (sumL (headL f)) := by
  refine ⟨sumL_all (headL_all f), by rw [sumL_length]; omega, ?_, rfl⟩
  rw [sumL_length, show (headL f).length + 15 - 15 = (headL f).length from by omega]
  exact head_size h _
theorem base_or (f : Fr) : base f = 19 ∨ base f = 39 := by unfold base; split <;> simp
/-- a frame has at least 44 bits, at most 160 -/
theorem bits_length {f : Fr} (h : FrR f) : 44 ≤ (bitsL f).length ∧ (bitsL f).length ≤ 160 := by
  have hl := stf_length (sumL_all (headL_all f))
  have hb := base_or f
  have hd : f.data.length ≤ 8 := by
    obtain ⟨h8, hd, _⟩ := h
    split at hd
    · rw [hd]; simp
    · omega
  rw [sumL_length, headL_length] at hl
  unfold bitsL
  rw [List.length_append, List.length_replicate]
  omega

/-- fifteen bits are a head's sum just if the whole is left without rest -/
theorem crc_check {h t : List UInt8} (_hh : h.all okc = true) (ht : t.all okc = true) (hl : t.length = 15) : crc 0 (h ++ t) = 0 ↔ t = ofl (crc 0 h) 15 := by
  have hs := crc_lt h
  have hself : crc (crc 0 h) (ofl (crc 0 h) 15) = 0 := by
    have := crc_self (crc 0 h) 15 (Nat.le_refl _)
    rwa [Nat.sub_self, Nat.pow_zero, Nat.mul_one, Nat.mod_eq_of_lt (by omega)] at this
  rw [crc_append]
  constructor
  · intro h0
    apply map_one_inj ht (ofl_all _ _)
    have hlen : (t.map one).length = ((ofl (crc 0 h) 15).map one).length := by simp [hl, ofl_length]
    have hx := sumB_xor (crc 0 h) (crc 0 h) (t.map one) ((ofl (crc 0 h) 15).map one) hlen
    rw [Nat.xor_self] at hx
    have h1 : sumB (crc 0 h) (t.map one) = 0 := h0
    have h2 : sumB (crc 0 h) ((ofl (crc 0 h) 15).map one) = 0 := hself
    rw [h1, h2, Nat.xor_self] at hx
    have hno : ¬ true ∈ xorB (t.map one) ((ofl (crc 0 h) 15).map one) := by
      intro hm
      exact burst_ne _ (by unfold xorB; simp [hl, ofl_length]) hm hx
    apply List.ext_getElem hlen
    intro i h1 h2
    have hi : i < (xorB (t.map one) ((ofl (crc 0 h) 15).map one)).length := by unfold xorB; rw [List.length_zipWith]; omega
    have hg : (xorB (t.map one) ((ofl (crc 0 h) 15).map one))[i] = ((t.map one)[i] != ((ofl (crc 0 h) 15).map one)[i]) := by unfold xorB; simp
    have hf : ((t.map one)[i] != ((ofl (crc 0 h) 15).map one)[i]) = false := by
      rw [Bool.eq_false_iff]; intro e
      exact hno (by rw [← e, ← hg]; exact List.getElem_mem hi)
    simpa using hf
  · intro e; rw [e]; exact hself

/-- what stands behind the sum: a one, any bit, eight ones -/
def tailL (i : Nat) : List UInt8 → Nat
  | [] => if i < 10 then 3 else 0
  | c :: r => if i < 10 then (if i ≠ 1 ∧ c ≠ 49 then 12 else tailL (i + 1) r) else 0
/-- what a row is as a frame: the frame, how many bits, the error -/
def noFr : Fr := ⟨0, false, false, 0, []⟩
def parseL (s : List UInt8) : Fr × Nat × Nat :=
  if (goL (0, 0) [] 0 s).2.2 ≠ 0 then (noFr, 0, (goL (0, 0) [] 0 s).2.2)
  else if crc 0 (goL (0, 0) [] 0 s).1 ≠ 0 then (noFr, 0, 11)
  else if tailL 0 (s.drop (goL (0, 0) [] 0 s).2.1) ≠ 0 then (noFr, 0, tailL 0 (s.drop (goL (0, 0) [] 0 s).2.1))
  else if frB (decode ((goL (0, 0) [] 0 s).1.take ((goL (0, 0) [] 0 s).1.length - 15))) = true ∧ headL (decode ((goL (0, 0) [] 0 s).1.take ((goL (0, 0) [] 0 s).1.length - 15))) = (goL (0, 0) [] 0 s).1.take ((goL (0, 0) [] 0 s).1.length - 15) then
    (decode ((goL (0, 0) [] 0 s).1.take ((goL (0, 0) [] 0 s).1.length - 15)), (goL (0, 0) [] 0 s).2.1 + 10, 0)
  else (noFr, 0, 12)

theorem crc_sumL (h : List UInt8) (ha : h.all okc = true) : crc 0 (sumL h) = 0 := (crc_check ha (ofl_all _ _) (ofl_length _ _)).2 rfl
theorem sumL_head (h : List UInt8) : (sumL h).take ((sumL h).length - 15) = h := by
  rw [sumL_length, show h.length + 15 - 15 = h.length from by omega]
  unfold sumL; rw [List.take_left]
/-- a row that begins with a frame's stuffed bits -/
theorem parse_front {f : Fr} (h : FrR f) (r : List UInt8) :
    parseL ((stf (sumL (headL f))).2 ++ r) = if tailL 0 r ≠ 0 then (noFr, 0, tailL 0 r) else (f, (stf (sumL (headL f))).2.length + 10, 0) := by
  have hg := go_good (good_sum h) r
  unfold parseL
  rw [hg]
  simp only [ne_eq, not_true_eq_false, if_false]
  rw [crc_sumL _ (headL_all f), List.drop_left, sumL_head, decode_head h]
  simp only [not_true_eq_false, if_false, (frB_iff f).2 h, and_self, if_true]
theorem tail_good (b : UInt8) (r : List UInt8) : tailL 0 ([49, b, 49, 49, 49, 49, 49, 49, 49, 49] ++ r) = 0 := by
  simp only [List.cons_append, List.nil_append, tailL]
  cases r <;> simp [tailL]
/-- frames and their bits lead to one another, whatever stands behind, whichever bit stands where it is told that they came -/
theorem parse_bits {f : Fr} (h : FrR f) (b : UInt8) (r : List UInt8) :
    parseL ((stf (sumL (headL f))).2 ++ ([49, b, 49, 49, 49, 49, 49, 49, 49, 49] ++ r)) = (f, (stf (sumL (headL f))).2.length + 10, 0) := by
  rw [parse_front h, tail_good]; simp
theorem tail_short : ∀ (r : List UInt8) (i : Nat), i + r.length < 10 → (∀ c ∈ r, c = 49) → tailL i r = 3 := by
  intro r
  induction r with
  | nil => intro i h _; unfold tailL; rw [if_pos (by simpa using h)]
  | cons c r ih =>
    intro i h ho
    simp only [List.length_cons] at h
    have hc := ho c (by simp)
    unfold tailL
    rw [if_pos (by omega), if_neg (by rw [hc]; simp)]
    exact ih (i + 1) (by omega) (fun d hd => ho d (List.mem_cons_of_mem _ hd))
/-- a frame that breaks off is too short -/
theorem parse_short {f : Fr} (h : FrR f) (cut : Nat) (hc : cut < (bitsL f).length) : parseL ((bitsL f).take cut) = (noFr, 0, 3) := by
  unfold bitsL at hc ⊢
  rw [List.length_append, List.length_replicate] at hc
  by_cases h1 : cut < (stf (sumL (headL f))).2.length
  · have hg := go_good (good_sum h) []
    rw [List.append_nil, ← List.take_append_drop cut (stf (sumL (headL f))).2] at hg
    have := go_short _ hg (by simp; omega)
    rw [List.take_append_of_le_length (by omega)]
    unfold parseL
    rw [this]; rfl
  · rw [List.take_append, List.take_of_length_le (by omega), parse_front h]
    have := tail_short ((List.replicate 10 (49 : UInt8)).take (cut - (stf (sumL (headL f))).2.length)) 0 (by simp; omega) (fun c hc => by
      have := List.mem_of_mem_take hc
      exact (List.mem_replicate.1 this).2)
    rw [this]; simp
/-- a row that is read as the frame begins with the frame's stuffed bits -/
theorem parse_back {f : Fr} {s : List UInt8} {n : Nat} (hs : s.all okc = true) (h : parseL s = (f, n, 0)) :
    FrR f ∧ n = (stf (sumL (headL f))).2.length + 10 ∧ s.take (stf (sumL (headL f))).2.length = (stf (sumL (headL f))).2 := by
  unfold parseL at h
  rcases hg : goL (0, 0) [] 0 s with ⟨bits, m, e⟩
  rw [hg] at h
  simp only at h
  split at h
  · rename_i he
    simp only [Prod.mk.injEq] at h
    exact absurd h.2.2 he
  · rename_i he
    have he0 : e = 0 := by omega
    subst he0
    split at h
    · simp at h
    · rename_i hcrc
      split at h
      · rename_i ht
        simp only [Prod.mk.injEq] at h
        exact absurd h.2.2 ht
      · split at h
        · rename_i hd
          simp only [Prod.mk.injEq] at h
          obtain ⟨rfl, rfl, _⟩ := h
          obtain ⟨hfr, hhd⟩ := hd
          have hcrc0 : crc 0 bits = 0 := by omega
          obtain ⟨_, hm, y, hy, hst⟩ := go_ok s (p := []) ust_nil hg
          simp only [List.nil_append] at hy hm
          have hall : (s.take m).all okc = true := all_take hs m
          obtain ⟨hba, _⟩ := ust_all hall _ _ hy
          unfold stopB at hst
          rw [decide_eq_true_eq] at hst
          obtain ⟨_, hbl, hy5⟩ := hst
          have h15 : 15 ≤ bits.length := by omega
          have hb := (List.take_append_drop (bits.length - 15) bits).symm
          have hsum : bits = sumL (bits.take (bits.length - 15)) := by
            have hba' := hba
            rw [hb, List.all_append, Bool.and_eq_true] at hba'
            have hc := hcrc0
            rw [hb] at hc
            have := (crc_check hba'.1 hba'.2 (by rw [List.length_drop]; omega)).1 hc
            unfold sumL
            rw [← this]; exact hb
          rw [hhd, ← hsum]
          have hss := (stf_ust hall _ _ hy).1 (by omega)
          rw [hss]
          have hml : (s.take m).length = m := by rw [List.length_take]; simp at hm; omega
          exact ⟨(frB_iff _).1 hfr, by rw [hml], by rw [hml]⟩
        · simp at h
end Go.Proofs.YtcaeobkaoebndaaGreat.B

namespace Go.Proofs.YtcaeobkaoebndaaGreat.B

theorem kind_two {x : St} {c : Nat} (h : x.2 ≠ 5) : kind x c = 1 := by
  unfold kind; simp [h]
theorem kind_five {x : St} {c : Nat} (h : x.2 = 5) : kind x c ≠ 1 := by
  unfold kind; simp only [h, if_true]; split <;> omega
theorem size_ge {b : List UInt8} (h : (sizeL b).2 = 0) : 14 ≤ b.length ∧ baseL b ≤ b.length ∧ baseL b ≤ (sizeL b).1 := by
  unfold sizeL at h ⊢
  split at h
  · simp at h
  · split at h
    · simp at h
    · split at h
      · simp at h
      · rename_i h1 h2 h3
        rw [if_neg h1, if_neg h2, if_neg h3]
        exact ⟨by omega, by omega, by simp⟩
theorem size_le (q : List UInt8) : (sizeL q).1 ≤ 103 := by
  have hb := baseL_or q
  unfold sizeL
  split
  · simp
  · split
    · simp
    · split
      · simp
      · simp only; split <;> omega
theorem size_lt {b : List UInt8} (h : (sizeL b).2 = 3) : b.length < 14 ∨ b.length < baseL b := by
  unfold sizeL at h
  split at h
  · left; assumption
  · split at h
    · right; assumption
    · split at h <;> simp at h

/-- the reader stands at place k of the row L, knows x, has b -/
structure At4 (L : List UInt8) (k : Nat) (x : St) (b : List UInt8) : Prop where
  go : goL (0, 0) [] 0 L = goL x b k (L.drop k)
  us : ust (L.take k) = some (x, b)
  no : stopB x b = false
  bad : (sizeL b).2 ≠ 12
  zero : b = [] → x = (0, 0)
  fit : (sizeL b).2 = 0 → b.length ≤ (sizeL b).1 + 15 ∧ (b.length = (sizeL b).1 + 15 → x.2 = 5)
theorem at_start (L : List UInt8) : At4 L 0 (0, 0) [] :=
  ⟨by simp, ust_nil, by unfold stopB sizeL; simp, by unfold sizeL; simp, fun _ => rfl, fun h => by unfold sizeL at h; simp at h⟩

variable {L : List UInt8} {k : Nat} {x : St} {b : List UInt8}
theorem At4.short (h : At4 L k x b) (hk : L.length ≤ k) : goL (0, 0) [] 0 L = ([], 0, 3) := by
  rw [h.go, List.drop_of_length_le hk]
  unfold goL; rw [if_neg (by rw [h.no]; simp)]
theorem At4.cons (h : At4 L k x b) (hk : k < L.length) : goL (0, 0) [] 0 L = if kind x L[k].toNat = 3 then ([], 0, 10) else if badB (nextB x b L[k]) then ([], 0, 12) else goL (kn x L[k].toNat) (nextB x b L[k]) (k + 1) (L.drop (k + 1)) := by
  rw [h.go, List.drop_eq_getElem_cons hk]
  rw [goL, if_neg (by rw [h.no]; simp)]
theorem At4.err (h : At4 L k x b) (hk : k < L.length) (h3 : kind x L[k].toNat = 3) : goL (0, 0) [] 0 L = ([], 0, 10) := by
  rw [h.cons hk, if_pos h3]
theorem At4.isBad (h : At4 L k x b) (hk : k < L.length) (h3 : kind x L[k].toNat ≠ 3) (hb : badB (nextB x b L[k]) = true) : goL (0, 0) [] 0 L = ([], 0, 12) := by
  rw [h.cons hk, if_neg h3, if_pos hb]
theorem At4.stop (h : At4 L k x b) (hk : k < L.length) (h3 : kind x L[k].toNat ≠ 3) (hb : badB (nextB x b L[k]) = false) (hs : stopB (kn x L[k].toNat) (nextB x b L[k]) = true) :
    goL (0, 0) [] 0 L = (nextB x b L[k], k + 1, 0) := by
  rw [h.cons hk, if_neg h3, if_neg (by rw [hb]; simp), go_stop hs]
theorem At4.ne (h : At4 L k x b) (c : UInt8) : nextB x b c ≠ [] := by
  by_cases hb : b = []
  · have hx := h.zero hb
    subst hx
    unfold nextB
    rw [if_pos (kind_two (by simp))]
    simp
  · unfold nextB; split
    · simp
    · exact hb
theorem nextB_all (hb : b.all okc = true) {c : UInt8} (hc : okc c = true) : (nextB x b c).all okc = true := by
  unfold nextB; split
  · rw [List.all_append, hb, List.all_cons, hc]; rfl
  · exact hb
theorem nextB_length (c : UInt8) : (nextB x b c).length ≤ b.length + 1 := by unfold nextB; split <;> simp
theorem badB_iff {q : List UInt8} (hq : q.all okc = true) (hn : 0 < q.length) : badB q = (decide (q[0] ≠ 48) || decide ((sizeL q).2 = 12)) := by
  have hc : okc q[0] = true := List.all_eq_true.1 hq _ (List.getElem_mem hn)
  have hh : q.head? = some q[0] := by rw [List.head?_eq_getElem?, List.getElem?_eq_getElem hn]
  unfold badB
  rw [hh, Bool.eq_iff_iff]
  simp only [decide_eq_true_eq, Option.some.injEq, Bool.or_eq_true, ne_eq]
  rcases okc_cases hc with e | e <;> rw [e] <;> simp
/-- what is known of the next state, when it is told how long the head is -/
theorem At4.fits (h : At4 L k x b) {c : UInt8} (hz : (sizeL (nextB x b c)).2 = 0) : (nextB x b c).length ≤ (sizeL (nextB x b c)).1 + 15 := by
  unfold nextB at hz ⊢
  split
  · rename_i h1
    rw [if_pos h1] at hz
    have hx5 : x.2 ≠ 5 := fun e => kind_five e h1
    rcases size_err b with e | e | e
    · rw [size_append (by omega)]
      have hf := h.fit e
      have : b.length ≠ (sizeL b).1 + 15 := fun e2 => hx5 (hf.2 e2)
      rw [List.length_append]; simp only [List.length_cons, List.length_nil]; omega
    · obtain ⟨g1, g2, g3⟩ := size_ge hz
      have hb := baseL_or (b ++ [c])
      rw [List.length_append] at *
      simp only [List.length_cons, List.length_nil] at *
      rcases size_lt (by rw [e]) with hl | hl
      · omega
      · by_cases h14 : b.length < 14
        · omega
        · rw [baseL_append (by omega)] at g2 g3; omega
    · exact absurd (by rw [e]) h.bad
  · rename_i h1
    rw [if_neg h1] at hz
    exact (h.fit hz).1
theorem stop_iff {y : St} {q : List UInt8} (hy : y.2 ≤ 5) (hf : (sizeL q).2 = 0 → q.length ≤ (sizeL q).1 + 15) : stopB y q = decide ((sizeL q).2 = 0 ∧ (sizeL q).1 + 15 ≤ q.length ∧ y.2 ≠ 5) := by
  unfold stopB
  rw [Bool.eq_iff_iff, decide_eq_true_eq, decide_eq_true_eq]
  constructor
  · rintro ⟨h1, h2, h3⟩; exact ⟨h1, by omega, by omega⟩
  · rintro ⟨h1, h2, h3⟩; have := hf h1; exact ⟨h1, by omega, by omega⟩
theorem At4.next (h : At4 L k x b) (hk : k < L.length) (h3 : kind x L[k].toNat ≠ 3) (hb : badB (nextB x b L[k]) = false) (hs : stopB (kn x L[k].toNat) (nextB x b L[k]) = false) (hx : x.2 ≤ 5) :
    At4 L (k + 1) (kn x L[k].toNat) (nextB x b L[k]) := by
  refine ⟨?_, ?_, hs, ?_, fun e => absurd e (h.ne _), ?_⟩
  · rw [h.cons hk, if_neg h3, if_neg (by rw [hb]; simp)]
  · have e : L.take (k + 1) = L.take k ++ [L[k]] := by simp
    rw [e, ust_snoc, h.us]
    unfold uStep nextB
    simp only
    rw [if_neg h3]
  · intro e
    unfold badB at hb
    simp [e] at hb
  · intro hz
    refine ⟨h.fits hz, fun e => ?_⟩
    unfold stopB at hs
    simp only [decide_eq_false_iff_not, not_and] at hs
    have := hs hz e
    have := kn_le (c := L[k].toNat) hx
    omega
end Go.Proofs.YtcaeobkaoebndaaGreat.B

namespace Go.Proofs.YtcaeobkaoebndaaGreat.B

/-- the first place at which two rows are unlike -/
def firstD : List UInt8 → List UInt8 → Option Nat
  | a :: as, b :: bs => if a = b then (firstD as bs).map (· + 1) else some 0
  | _, _ => none
theorem firstD_append : ∀ (p a b : List UInt8), firstD (p ++ a) (p ++ b) = (firstD a b).map (· + p.length) := by
  intro p
  induction p with
  | nil => intro a b; simp
  | cons c p ih =>
    intro a b
    rw [List.cons_append, List.cons_append, firstD, if_pos rfl, ih, Option.map_map]
    congr 1
theorem firstD_self (a : List UInt8) : firstD a a = none := by
  induction a with
  | nil => rfl
  | cons c a ih => rw [firstD, if_pos rfl, ih]; rfl
/-- where they part behind k bits that are alike -/
theorem firstD_at {a b : List UInt8} {k : Nat} (ha : k < a.length) (hb : k < b.length) (h : a.take k = b.take k) (hne : a[k] ≠ b[k]) : firstD a b = some k := by
  rw [← List.take_append_drop k a, ← List.take_append_drop k b, ← h, firstD_append, List.drop_eq_getElem_cons ha, List.drop_eq_getElem_cons hb, firstD, if_neg hne]
  simp [List.length_take]; omega
theorem firstD_none {a b : List UInt8} {k : Nat} (h : a.take k = b.take k) (hk : a.length ≤ k ∨ b.length ≤ k) : firstD a b = none := by
  rw [← List.take_append_drop k a, ← List.take_append_drop k b, ← h, firstD_append]
  rcases hk with hk | hk
  · rw [List.drop_of_length_le hk]; simp [firstD]
  · rw [List.drop_of_length_le hk]; cases a.drop k <;> simp [firstD]
theorem firstD_some {a b : List UInt8} {k : Nat} (h : firstD a b = some k) : ∃ (ha : k < a.length) (hb : k < b.length), a.take k = b.take k ∧ a[k] ≠ b[k] := by
  induction a generalizing b k with
  | nil => cases b <;> simp [firstD] at h
  | cons x a ih =>
    cases b with
    | nil => simp [firstD] at h
    | cons y b =>
      rw [firstD] at h
      split at h
      · rename_i e
        cases hf : firstD a b with
        | none => rw [hf] at h; cases h
        | some i =>
          rw [hf] at h
          simp only [Option.map_some, Option.some.injEq] at h
          subst h
          obtain ⟨h1, h2, h3, h4⟩ := ih hf
          exact ⟨by simp; omega, by simp; omega, by simp [e, h3], by simpa using h4⟩
      · rename_i e
        simp only [Option.some.injEq] at h
        subst h
        exact ⟨by simp, by simp, by simp, by simpa using e⟩
theorem firstD_symm (a b : List UInt8) : firstD a b = firstD b a := by
  induction a generalizing b with
  | nil => cases b <;> simp [firstD]
  | cons x a ih =>
    cases b with
    | nil => simp [firstD]
    | cons y b =>
      rw [firstD, firstD, ih]
      by_cases e : x = y
      · rw [if_pos e, if_pos e.symm]
      · rw [if_neg e, if_neg (fun h => e h.symm)]
/-- a wins against b -/
def lessL (a b : List UInt8) : Bool := match firstD a b with
  | some i => a.getD i 0 == 48
  | none => false
def firstI (a b : List UInt8) : Int := match firstD a b with
  | some i => i
  | none => -1
/-- a frame's field -/
def fieldL (f : Fr) : List UInt8 := cutL (headL f) 1 (if f.ext then 33 else 14)
theorem fieldL_length (f : Fr) : (fieldL f).length = if f.ext then 32 else 13 := by
  unfold fieldL cutL
  rw [List.length_drop, List.length_take, headL_length]
  unfold base
  split <;> omega
theorem fieldL_all (f : Fr) : (fieldL f).all okc = true := by
  unfold fieldL cutL
  have := all_take (headL_all f) (if f.ext then 33 else 14)
  rw [List.all_eq_true] at *; intro x hx; exact this x (List.mem_of_mem_drop hx)
theorem lessL_self (a : List UInt8) : lessL a a = false := by unfold lessL; rw [firstD_self]
/-- of two rows of bits that part, one wins -/
theorem lessL_or {a b : List UInt8} (ha : a.all okc = true) (hb : b.all okc = true) {i : Nat} (h : firstD a b = some i) : lessL a b = !lessL b a := by
  obtain ⟨h1, h2, _, h4⟩ := firstD_some h
  unfold lessL
  rw [firstD_symm b a, h]
  simp only
  rw [List.getD_eq_getElem?_getD, List.getElem?_eq_getElem h1, List.getD_eq_getElem?_getD, List.getElem?_eq_getElem h2]
  have c1 := okc_cases (List.all_eq_true.1 ha _ (List.getElem_mem h1))
  have c2 := okc_cases (List.all_eq_true.1 hb _ (List.getElem_mem h2))
  simp only [Option.getD_some]
  rcases c1 with e1 | e1
  · rcases c2 with e2 | e2
    · exact absurd (e1.trans e2.symm) h4
    · rw [e1, e2]; rfl
  · rcases c2 with e2 | e2
    · rw [e1, e2]; rfl
    · exact absurd (e1.trans e2.symm) h4
theorem lessL_trans {a b c : List UInt8} (hb : b.all okc = true) (h1 : lessL a b = true) (h2 : lessL b c = true) : lessL a c = true := by
  unfold lessL at h1 h2
  cases e1 : firstD a b with
  | none => rw [e1] at h1; cases h1
  | some i =>
    cases e2 : firstD b c with
    | none => rw [e2] at h2; cases h2
    | some j =>
      rw [e1] at h1
      rw [e2] at h2
      simp only [beq_iff_eq] at h1 h2
      obtain ⟨ai, bi, t1, n1⟩ := firstD_some e1
      obtain ⟨bj, cj, t2, n2⟩ := firstD_some e2
      rw [List.getD_eq_getElem?_getD, List.getElem?_eq_getElem ai, Option.getD_some] at h1
      rw [List.getD_eq_getElem?_getD, List.getElem?_eq_getElem bj, Option.getD_some] at h2
      have hbi : b[i] = 49 := by
        rcases okc_cases (List.all_eq_true.1 hb _ (List.getElem_mem bi)) with e | e
        · exact absurd (h1.trans e.symm) n1
        · exact e
      have hij : i ≠ j := by intro e; subst e; rw [hbi] at h2; cases h2
      rcases Nat.lt_or_gt_of_ne hij with hlt | hgt
      · have hci : i < c.length := by omega
        have hbc : b[i] = c[i] := by
          have := congrArg (fun l : List UInt8 => l[i]?) t2
          simp only [List.getElem?_take, if_pos hlt] at this
          rw [List.getElem?_eq_getElem bi, List.getElem?_eq_getElem hci] at this
          exact Option.some.inj this
        have hac : a.take i = c.take i := by
          rw [t1]
          have := congrArg (List.take i) t2
          rwa [List.take_take, List.take_take, Nat.min_eq_left (by omega)] at this
        have e3 := firstD_at ai hci hac (by rw [← hbc]; exact n1)
        unfold lessL
        rw [e3]
        simp only
        rw [List.getD_eq_getElem?_getD, List.getElem?_eq_getElem ai, Option.getD_some, h1]; rfl
      · have haj : j < a.length := by omega
        have hab : a[j] = b[j] := by
          have := congrArg (fun l : List UInt8 => l[j]?) t1
          simp only [List.getElem?_take, if_pos hgt] at this
          rw [List.getElem?_eq_getElem haj, List.getElem?_eq_getElem bj] at this
          exact Option.some.inj this
        have hac : a.take j = c.take j := by
          rw [← t2]
          have := congrArg (List.take j) t1
          rwa [List.take_take, List.take_take, Nat.min_eq_left (by omega)] at this
        have e3 := firstD_at haj cj hac (by rw [hab]; exact n2)
        unfold lessL
        rw [e3]
        simp only
        rw [List.getD_eq_getElem?_getD, List.getElem?_eq_getElem haj, Option.getD_some, hab, h2]; rfl
end Go.Proofs.YtcaeobkaoebndaaGreat.B

namespace Go.Proofs.YtcaeobkaoebndaaGreat.B

/-- what a controller counts -/
structure Cn where
  t : Nat
  r : Nat
  o : Bool
  n : Nat
deriving DecidableEq
def cn0 : Cn := ⟨0, 0, false, 0⟩
def Cn.may (c : Cn) : Prop := (c.o = false ∧ c.t ≤ 255 ∧ c.r ≤ 255 ∧ c.n = 0) ∨ (c.o = true ∧ c.t = 0 ∧ c.r = 0 ∧ 1 ≤ c.n ∧ c.n ≤ 128)
def Cn.step (c : Cn) (k : Nat) : Cn :=
  if c.o = true then (if k = 7 then (if c.n ≤ 1 then cn0 else ⟨0, 0, true, c.n - 1⟩) else c)
  else if k = 1 then ⟨c.t - 1, c.r, false, 0⟩
  else if k = 2 then ⟨c.t, if 127 < c.r then 119 else c.r - 1, false, 0⟩
  else if k = 3 ∨ k = 5 then (if 255 < c.t + 8 then ⟨0, 0, true, 128⟩ else ⟨c.t + 8, c.r, false, 0⟩)
  else if k = 4 then ⟨c.t, min (c.r + 1) 255, false, 0⟩
  else if k = 6 then ⟨c.t, min (c.r + 8) 255, false, 0⟩
  else c
def Cn.state (c : Cn) : Nat := if c.o = true then 3 else if 127 < c.t ∨ 127 < c.r then 2 else 1
theorem cn0_may : cn0.may := .inl ⟨rfl, by decide, by decide, rfl⟩
theorem Cn.may_step {c : Cn} (h : c.may) (k : Nat) : (c.step k).may := by
  obtain ⟨t, r, o, n⟩ := c
  unfold Cn.may at h
  simp only at h
  rcases h with ⟨rfl, h1, h2, rfl⟩ | ⟨rfl, rfl, rfl, h1, h2⟩
  · unfold Cn.step
    rw [if_neg (by simp)]
    simp only
    split
    · exact .inl ⟨rfl, by show t - 1 ≤ 255; omega, h2, rfl⟩
    · split
      · exact .inl ⟨rfl, h1, by show (if 127 < r then 119 else r - 1) ≤ 255; split <;> omega, rfl⟩
      · split
        · split
          · exact .inr ⟨rfl, rfl, rfl, by show 1 ≤ 128; omega, by show 128 ≤ 128; omega⟩
          · exact .inl ⟨rfl, by show t + 8 ≤ 255; omega, h2, rfl⟩
        · split
          · exact .inl ⟨rfl, h1, by show min (r + 1) 255 ≤ 255; omega, rfl⟩
          · split
            · exact .inl ⟨rfl, h1, by show min (r + 8) 255 ≤ 255; omega, rfl⟩
            · exact .inl ⟨rfl, h1, h2, rfl⟩
  · unfold Cn.step
    rw [if_pos rfl]
    simp only
    split
    · split
      · exact cn0_may
      · exact .inr ⟨rfl, rfl, rfl, by show 1 ≤ n - 1; omega, by show n - 1 ≤ 128; omega⟩
    · exact .inr ⟨rfl, rfl, rfl, h1, h2⟩

/-- a controller -/
structure Cs where
  cnt : Cn
  state : Nat
  n : Nat
  was : Bool
  hard : Bool
  has : Bool
  fr : Fr
  sends : Bool
  out : List UInt8
  at_ : Nat
  st : St
  got : List UInt8
  fin : Bool
  tail : Nat
  good : Bool
/-- what happened -/
structure Ev where
  kind : Nat
  fr : Fr
  bad : Nat
def ev0 : Ev := ⟨0, noFr, 0⟩
def cs0 : Cs := ⟨cn0, 0, 0, false, false, false, noFr, false, [], 0, (0, 0), [], false, 0, false⟩

/-- what is read of a head -/
def goodB (g : List UInt8) : Bool :=
  decide (crc 0 g = 0) && frB (decode (g.take (g.length - 15))) && decide (headL (decode (g.take (g.length - 15))) = g.take (g.length - 15))
def flen (f : Fr) : Nat := if f.ext then 32 else 13

def Cs.drive (c : Cs) : UInt8 :=
  if c.state = 1 then (if c.has then 48 else 49)
  else if c.state = 2 then (if c.sends then c.out.getD c.at_ 49 else if c.fin = true ∧ c.tail = 1 ∧ c.good = true then 48 else 49)
  else if c.state = 3 then (if c.hard then 48 else 49)
  else 49
/-- out of a frame -/
def bareC (k : Cn) (s n : Nat) (was hard has : Bool) (fr : Fr) : Cs := ⟨k, s, n, was, hard, has, fr, false, [], 0, (0, 0), [], false, 0, false⟩
def Cs.begin_ (c : Cs) (s : Bool) : Cs := ⟨c.cnt, 2, 0, s, c.hard, c.has, c.fr, s, if s then bitsL c.fr else [], if s then 1 else 0, (48, 1), [48], false, 0, false⟩
def Cs.errCnt (c : Cs) (e : Nat) : Cn := if e = 14 ∧ c.cnt.state = 2 then c.cnt else c.cnt.step (if c.sends then 3 else 4)
def Cs.err (c : Cs) (e : Nat) : Cs × Ev :=
  (if (c.errCnt e).o = true then bareC (c.errCnt e) 8 0 c.sends c.hard c.has c.fr else bareC (c.errCnt e) 3 0 c.sends (decide ((c.errCnt e).state = 1)) c.has c.fr, ⟨3, noFr, e⟩)
def Cs.lose (c : Cs) : Cs := { c with sends := false, out := [], at_ := 0, was := false }
def Cs.stuffed (c : Cs) (lost : Bool) (b : UInt8) : Cs × Ev :=
  if kind c.st b.toNat = 3 then c.err 10
  else if (sizeL (nextB c.st c.got b)).2 = 12 then c.err 12
  else ({ c with st := kn c.st b.toNat, got := nextB c.st c.got b, at_ := if c.sends then c.at_ + 1 else c.at_, fin := stopB (kn c.st b.toNat) (nextB c.st c.got b), tail := 0, good := stopB (kn c.st b.toNat) (nextB c.st c.got b) && goodB (nextB c.st c.got b) }, if lost then ⟨4, noFr, 0⟩ else ev0)
def Cs.mid (c : Cs) (b : UInt8) : Cs × Ev :=
  if c.sends = true ∧ c.drive ≠ b then (if c.drive = 49 ∧ c.got.length ≤ flen c.fr ∧ c.st.2 < 5 then c.lose.stuffed true b else c.err 13)
  else c.stuffed false b
def Cs.adv (c : Cs) : Cs := { c with tail := c.tail + 1, at_ := if c.sends then c.at_ + 1 else c.at_ }
def Cs.late (c : Cs) (b : UInt8) : Cs × Ev :=
  if c.tail = 0 then (if b = 48 then c.err 12 else (c.adv, ev0))
  else if c.tail = 1 then (if b = 49 ∧ c.sends = true then c.err 14 else (c.adv, ev0))
  else if c.tail = 2 then (if b = 48 then c.err 12 else if c.sends = false ∧ c.good = false then c.err 11 else (c.adv, ev0))
  else if c.tail < 8 then (if b = 48 then c.err 12 else (c.adv, ev0))
  else if c.tail = 8 then (if b = 48 then c.err 12 else if c.sends = true then (c.adv, ev0) else ({ c.adv with cnt := c.cnt.step 2 }, ⟨2, decode (c.got.take (c.got.length - 15)), 0⟩))
  else if b = 48 then (if c.sends = true then c.err 12 else (bareC c.cnt 3 0 c.was true c.has c.fr, ev0))
  else if c.sends = true then (bareC (c.cnt.step 1) 6 0 c.was c.hard false noFr, ⟨1, c.fr, 0⟩) else (bareC c.cnt 6 0 c.was c.hard c.has c.fr, ev0)
def Cs.echo (c : Cs) (b : UInt8) : Cs :=
  if b = 49 then { c with state := 5, n := 1 }
  else if min (c.n + 1) 1000000000 = 1 ∧ c.was = false then { c with n := 1, cnt := c.cnt.step 6 }
  else if min (c.n + 1) 1000000000 % 8 = 0 then
    (if (c.cnt.step (if c.was then 5 else 6)).o = true then { c with cnt := c.cnt.step (if c.was then 5 else 6), state := 8, n := 0 } else { c with cnt := c.cnt.step (if c.was then 5 else 6), n := min (c.n + 1) 1000000000 })
  else { c with n := min (c.n + 1) 1000000000 }
def Cs.sample (c : Cs) (b : UInt8) : Cs × Ev :=
  if c.state = 0 then (if b = 48 then ({ c with n := 0 }, ev0) else if c.n + 1 = 11 then ({ c with state := 1, n := 0 }, ev0) else ({ c with n := c.n + 1 }, ev0))
  else if c.state = 1 then (if b = 48 then (c.begin_ c.has, ev0) else (c, ev0))
  else if c.state = 2 then (if c.fin = true then c.late b else c.mid b)
  else if c.state = 3 then (if c.n + 1 = 6 then ({ c with state := 4, n := 0 }, ev0) else ({ c with n := c.n + 1 }, ev0))
  else if c.state = 4 then (c.echo b, ev0)
  else if c.state = 5 then (if b = 48 then ({ c with state := 3, n := 0 }, ev0) else if c.n + 1 = 8 then ({ c with state := 6, n := 0 }, ev0) else ({ c with n := c.n + 1 }, ev0))
  else if c.state = 6 then (if b = 48 then (if c.n = 2 then (c.begin_ false, ev0) else ({ c with state := 3, n := 0, hard := true }, ev0)) else if c.n + 1 = 3 then ({ c with state := if c.was = true ∧ c.cnt.state = 2 then 7 else 1, n := 0 }, ev0) else ({ c with n := c.n + 1 }, ev0))
  else if c.state = 7 then (if b = 48 then (c.begin_ false, ev0) else if c.n + 1 = 8 then ({ c with state := 1, n := 0 }, ev0) else ({ c with n := c.n + 1 }, ev0))
  else (if b = 48 then ({ c with n := 0 }, ev0) else if c.n + 1 = 11 then ({ c with cnt := c.cnt.step 7, state := if (c.cnt.step 7).o = true then 8 else 1, n := 0 }, ev0) else ({ c with n := c.n + 1 }, ev0))

/-! ### a frame's own bits -/
/-- the stuffed bits of a frame -/
def stfF (f : Fr) : List UInt8 := (stf (sumL (headL f))).2
theorem bitsL_stf (f : Fr) : bitsL f = stfF f ++ List.replicate 10 49 := rfl
theorem stfF_go {f : Fr} (h : FrR f) : goL (0, 0) [] 0 (stfF f) = (sumL (headL f), (stfF f).length, 0) := by
  have := go_good (good_sum h) []
  rw [List.append_nil] at this
  exact this
theorem fed_at {f : Fr} (h : FrR f) : ∀ i, i < (stfF f).length → ∃ x d, At4 (stfF f) i x d ∧ x.2 ≤ 5 := by
  intro i
  induction i with
  | zero => intro _; exact ⟨_, _, at_start _, by simp⟩
  | succ i ih =>
    intro hi
    obtain ⟨x, d, ha, hx⟩ := ih (by omega)
    have hk : i < (stfF f).length := by omega
    have hg := stfF_go h
    have h3 : kind x (stfF f)[i].toNat ≠ 3 := fun e => by rw [ha.err hk e] at hg; simp at hg
    have hb : badB (nextB x d (stfF f)[i]) = false := by
      cases hb : badB (nextB x d (stfF f)[i])
      · rfl
      · rw [ha.isBad hk h3 hb] at hg; simp at hg
    have hs : stopB (kn x (stfF f)[i].toNat) (nextB x d (stfF f)[i]) = false := by
      cases hs : stopB (kn x (stfF f)[i].toNat) (nextB x d (stfF f)[i])
      · rfl
      · rw [ha.stop hk h3 hb hs] at hg
        simp only [Prod.mk.injEq] at hg
        omega
    exact ⟨_, _, ha.next hk h3 hb hs hx, kn_le hx⟩
/-- what is known, and unstuffed, behind the first i of a frame's stuffed bits -/
def stA (f : Fr) (i : Nat) : St × List UInt8 := (ust ((stfF f).take i)).getD ((0, 0), [])
theorem stA_us {f : Fr} (h : FrR f) (i : Nat) : ust ((stfF f).take i) = some (stA f i) := by
  have : ∃ z, ust ((stfF f).take i) = some z := by
    rcases Nat.lt_or_ge i (stfF f).length with h' | h'
    · obtain ⟨x, d, ha, _⟩ := fed_at h i h'
      exact ⟨_, ha.us⟩
    · rw [List.take_of_length_le h']
      have := ust_stf (sumL_all (headL_all f))
      exact ⟨_, this⟩
  obtain ⟨z, hz⟩ := this
  unfold stA; rw [hz]; rfl
theorem stA_zero (f : Fr) : stA f 0 = ((0, 0), []) := rfl
theorem stA_end {f : Fr} (h : FrR f) : (stA f (stfF f).length).2 = sumL (headL f) := by
  have := stA_us h (stfF f).length
  rw [List.take_length, show ust (stfF f) = _ from ust_stf (sumL_all (headL_all f))] at this
  rw [← Option.some.inj this]
structure NextF (f : Fr) (i : Nat) : Prop where
  hi : i < (stfF f).length
  ok : kind (stA f i).1 ((stfF f)[i]).toNat ≠ 3
  st : (stA f (i + 1)).1 = kn (stA f i).1 ((stfF f)[i]).toNat
  got : (stA f (i + 1)).2 = nextB (stA f i).1 (stA f i).2 ((stfF f)[i])
  size : (sizeL (stA f (i + 1)).2).2 ≠ 12
  stop : stopB (stA f (i + 1)).1 (stA f (i + 1)).2 = decide (i + 1 = (stfF f).length)
theorem next_f {f : Fr} (h : FrR f) {i : Nat} (hi : i < (stfF f).length) : NextF f i := by
  obtain ⟨x, d, ha, hx⟩ := fed_at h i hi
  have he : stA f i = (x, d) := by
    have := stA_us h i
    rw [ha.us] at this
    exact (Option.some.inj this).symm
  have hg := stfF_go h
  have h3 : kind x (stfF f)[i].toNat ≠ 3 := fun e => by rw [ha.err hi e] at hg; simp at hg
  have hb : badB (nextB x d (stfF f)[i]) = false := by
    cases hb : badB (nextB x d (stfF f)[i])
    · rfl
    · rw [ha.isBad hi h3 hb] at hg; simp at hg
  have hn : stA f (i + 1) = (kn x (stfF f)[i].toNat, nextB x d (stfF f)[i]) := by
    have := stA_us h (i + 1)
    have e : (stfF f).take (i + 1) = (stfF f).take i ++ [(stfF f)[i]] := by simp
    rw [e, ust_snoc, ha.us] at this
    unfold uStep at this
    simp only [if_neg h3] at this
    rw [← Option.some.inj this]; rfl
  refine ⟨hi, by rw [he]; exact h3, by rw [hn, he], by rw [hn, he], ?_, ?_⟩
  · rw [hn]
    intro e
    unfold badB at hb
    simp [e] at hb
  · rw [hn]
    rw [Bool.eq_iff_iff, decide_eq_true_eq]
    constructor
    · intro hs
      rw [ha.stop hi h3 hb hs] at hg
      simp only [Prod.mk.injEq] at hg
      omega
    · intro e
      cases hs : stopB (kn x (stfF f)[i].toNat) (nextB x d (stfF f)[i])
      · have := (ha.next hi h3 hb hs hx).short (by omega)
        rw [this] at hg; simp at hg
      · rfl
theorem good_f {f : Fr} (h : FrR f) : goodB (sumL (headL f)) = true := by
  unfold goodB
  rw [sumL_head, decode_head h, crc_sumL _ (headL_all f), (frB_iff f).2 h]
  simp
theorem stfF_length {f : Fr} (h : FrR f) : 34 ≤ (stfF f).length ∧ (stfF f).length ≤ 150 := by
  have := bits_length h
  rw [bitsL_stf, List.length_append, List.length_replicate] at this
  omega
end Go.Proofs.YtcaeobkaoebndaaGreat.B

namespace Go.Proofs.YtcaeobkaoebndaaGreat.B

def NOk (s n : Nat) : Prop :=
  (s = 0 ∨ s = 8 → n ≤ 10) ∧ (s = 1 ∨ s = 2 → n = 0) ∧ (s = 3 → n ≤ 5) ∧ (s = 4 → n ≤ 1000000000) ∧ (s = 5 → 1 ≤ n ∧ n ≤ 7) ∧ (s = 6 → n ≤ 2) ∧ (s = 7 → n ≤ 7)
/-- not in a frame -/
def BareM (c : Cs) : Prop := c.sends = false ∧ c.out = [] ∧ c.at_ = 0 ∧ c.st = (0, 0) ∧ c.got = [] ∧ c.fin = false ∧ c.tail = 0 ∧ c.good = false
/-- in a frame (those that bits lead to: where it does not send, and its place is 3 or more behind the stuffed bits, it is good) -/
structure FrameM (c : Cs) : Prop where
  all : c.got.all okc = true
  head : c.got.head? = some 48
  fit : (sizeL c.got).2 = 0 → c.got.length ≤ (sizeL c.got).1 + 15
  size : (sizeL c.got).2 ≠ 12
  may : may c.st
  one : 1 ≤ c.st.2
  fin : c.fin = stopB c.st c.got
  good : c.good = (c.fin && goodB c.got)
  tail : c.tail ≤ 9
  tail0 : c.fin = false → c.tail = 0
  late : 3 ≤ c.tail → c.sends = false → c.good = true
  sendsN : c.sends = false → c.out = [] ∧ c.at_ = 0
  sendsY : c.sends = true → c.has = true ∧ c.out = bitsL c.fr
  going : c.sends = true → c.fin = false → 1 ≤ c.at_ ∧ c.at_ < (stfF c.fr).length ∧ stA c.fr c.at_ = (c.st, c.got)
  gone : c.sends = true → c.fin = true → c.at_ = (stfF c.fr).length + c.tail ∧ stA c.fr (stfF c.fr).length = (c.st, c.got)
structure RightM (c : Cs) : Prop where
  cnt : c.cnt.may
  st8 : c.state ≤ 8
  off : c.state = 8 ↔ c.cnt.o = true
  num : NOk c.state c.n
  has : c.has = true → FrR c.fr
  hasn : c.has = false → c.fr = noFr
  bare : c.state ≠ 2 → BareM c
  frm : c.state = 2 → FrameM c

theorem may_le5 {x : St} (h : may x) : x.2 ≤ 5 := by rcases h with ⟨_, h⟩ | ⟨_, _, h⟩ <;> omega
theorem got_len {g : List UInt8} (hf : (sizeL g).2 = 0 → g.length ≤ (sizeL g).1 + 15) (hs : (sizeL g).2 ≠ 12) : g.length ≤ 118 := by
  rcases size_err g with e | e | e
  · have := hf e; have := size_le g; omega
  · rcases size_lt (by rw [e]) with h | h
    · omega
    · have := baseL_or g; omega
  · exact absurd (by rw [e]) hs
theorem fits_of {x : St} {b : List UInt8} (hbad : (sizeL b).2 ≠ 12) (hfit : (sizeL b).2 = 0 → b.length ≤ (sizeL b).1 + 15) (hns : stopB x b = false) (hx : x.2 ≤ 5) {c : UInt8} (hz : (sizeL (nextB x b c)).2 = 0) :
    (nextB x b c).length ≤ (sizeL (nextB x b c)).1 + 15 := by
  unfold nextB at hz ⊢
  split
  · rename_i h1
    rw [if_pos h1] at hz
    have hx5 : x.2 ≠ 5 := fun e => kind_five e h1
    rcases size_err b with e | e | e
    · rw [size_append (by omega)]
      have hf := hfit e
      have : b.length ≠ (sizeL b).1 + 15 := fun e2 => by
        unfold stopB at hns
        simp only [decide_eq_false_iff_not, not_and] at hns
        have := hns e e2; omega
      rw [List.length_append]; simp only [List.length_cons, List.length_nil]; omega
    · obtain ⟨g1, g2, g3⟩ := size_ge hz
      have hb := baseL_or (b ++ [c])
      rw [List.length_append] at *
      simp only [List.length_cons, List.length_nil] at *
      rcases size_lt (by rw [e]) with hl | hl
      · omega
      · by_cases h14 : b.length < 14
        · omega
        · rw [baseL_append (by omega)] at g2 g3; omega
    · exact absurd (by rw [e]) hbad
  · rename_i h1
    rw [if_neg h1] at hz
    exact hfit hz
theorem next_head {x : St} {b : List UInt8} {c : UInt8} (h : b.head? = some 48) : (nextB x b c).head? = some 48 := by
  cases b with
  | nil => simp at h
  | cons a r => unfold nextB; split <;> simpa using h

theorem bare_eq {c : Cs} (h : BareM c) : c = bareC c.cnt c.state c.n c.was c.hard c.has c.fr := by
  obtain ⟨h1, h2, h3, h4, h5, h6, h7, h8⟩ := h
  obtain ⟨cnt, state, n, was, hard, has, fr, sends, out, at_, st, got, fin, tail, good⟩ := c
  simp only at h1 h2 h3 h4 h5 h6 h7 h8
  subst h1 h2 h3 h4 h5 h6 h7 h8
  rfl
theorem bareC_right {k : Cn} {s n : Nat} {was hard has : Bool} {fr : Fr} (hk : k.may) (h8 : s ≤ 8) (h2 : s ≠ 2) (ho : s = 8 ↔ k.o = true) (hn : NOk s n) (hf : has = true → FrR fr) (hf0 : has = false → fr = noFr) : RightM (bareC k s n was hard has fr) :=
  ⟨hk, h8, ho, hn, hf, hf0, fun _ => ⟨rfl, rfl, rfl, rfl, rfl, rfl, rfl, rfl⟩, fun h => absurd h h2⟩
theorem stfF_head {f : Fr} : (stfF f).take 1 = [48] ∧ ∃ r, stfF f = 48 :: r := by
  have : ∃ q, sumL (headL f) = [48] ++ q := ⟨_, by unfold sumL headL preL; simp only [List.append_assoc]; rfl⟩
  obtain ⟨q, hq⟩ := this
  have := stf_front q [48]
  unfold stfF
  rw [hq, this]
  exact ⟨rfl, ⟨_, rfl⟩⟩
theorem stA_one {f : Fr} (h : FrR f) : stA f 1 = ((48, 1), [48]) := by
  have := stA_us h 1
  rw [stfF_head.1] at this
  exact (Option.some.inj this).symm
theorem begin_right {c : Cs} (h : RightM c) (ho : c.cnt.o = false) (s : Bool) (hs : s = true → c.has = true) : RightM (c.begin_ s) := by
  refine ⟨h.cnt, by show 2 ≤ 8; omega, ⟨fun e => by have : (2 : Nat) = 8 := e; omega, fun e => by have : c.cnt.o = true := e; rw [ho] at this; cases this⟩, ?_, h.has, h.hasn, fun e => absurd rfl e, fun _ => ?_⟩
  · unfold NOk; show (2 = 0 ∨ 2 = 8 → 0 ≤ 10) ∧ (2 = 1 ∨ 2 = 2 → 0 = 0) ∧ (2 = 3 → 0 ≤ 5) ∧ (2 = 4 → 0 ≤ 1000000000) ∧ (2 = 5 → 1 ≤ 0 ∧ 0 ≤ 7) ∧ (2 = 6 → 0 ≤ 2) ∧ (2 = 7 → 0 ≤ 7)
    refine ⟨fun _ => by omega, fun _ => rfl, by omega, by omega, by omega, by omega, by omega⟩
  · refine ⟨rfl, rfl, fun e => ?_, ?_, .inr ⟨.inl rfl, by show 1 ≤ 1; omega, by show 1 ≤ 5; omega⟩, by show 1 ≤ 1; omega, rfl, rfl, by show 0 ≤ 9; omega, fun _ => rfl, fun e => by have : 3 ≤ 0 := e; omega, fun e => ?_, fun e => ?_, fun e _ => ?_, fun _ e => by cases (show false = true from e)⟩
    · have : (sizeL [48]).2 = 0 := e
      exact absurd this (by decide)
    · show (sizeL [48]).2 ≠ 12
      decide
    · have : s = false := e
      subst this; exact ⟨rfl, rfl⟩
    · have : s = true := e
      subst this; exact ⟨hs rfl, rfl⟩
    · have : s = true := e
      subst this
      have hf := h.has (hs rfl)
      have hl := stfF_length hf
      exact ⟨by show 1 ≤ 1; omega, by show 1 < (stfF c.fr).length; omega, stA_one hf⟩
theorem err_right {c : Cs} (h : RightM c) (e : Nat) : RightM (c.err e).1 := by
  have hk : (c.errCnt e).may := by unfold Cs.errCnt; split; exact h.cnt; exact Cn.may_step h.cnt _
  unfold Cs.err
  simp only
  split
  · rename_i ho
    exact bareC_right hk (Nat.le_refl _) (by omega) (by simp [ho]) (by unfold NOk; omega) h.has h.hasn
  · rename_i ho
    exact bareC_right hk (by omega) (by omega) ⟨by omega, fun e => absurd e ho⟩ (by unfold NOk; omega) h.has h.hasn
theorem err_ev (c : Cs) (e : Nat) : (c.err e).2 = ⟨3, noFr, e⟩ := rfl
theorem RightM.on {c : Cs} (h : RightM c) (h2 : c.state ≠ 8) : c.cnt.o = false := by
  cases ho : c.cnt.o
  · rfl
  · exact absurd (h.off.2 ho) h2
theorem bitsL_at {f : Fr} {i : Nat} (hi : i < (stfF f).length) : (bitsL f).getD i 49 = (stfF f)[i] := by
  rw [bitsL_stf, List.getD_eq_getElem?_getD, List.getElem?_append_left hi, List.getElem?_eq_getElem hi]; rfl
theorem bitsL_late {f : Fr} {i : Nat} (hi : (stfF f).length ≤ i) : (bitsL f).getD i 49 = 49 := by
  rw [bitsL_stf, List.getD_eq_getElem?_getD, List.getElem?_append_right hi]
  cases hq : (List.replicate 10 (49 : UInt8))[i - (stfF f).length]? with
  | none => rfl
  | some v =>
    obtain ⟨h1, h2⟩ := List.getElem?_eq_some_iff.1 hq
    rw [List.getElem_replicate] at h2
    rw [← h2]; rfl
theorem lose_frame {c : Cs} (h : FrameM c) (hf : c.fin = false) : FrameM c.lose :=
  ⟨h.all, h.head, h.fit, h.size, h.may, h.one, h.fin, h.good, h.tail, h.tail0, fun e => by have h0 := h.tail0 hf; have : 3 ≤ c.tail := e; omega, fun _ => ⟨rfl, rfl⟩, (fun e => by cases (show false = true from e)), (fun e => by cases (show false = true from e)), (fun e => by cases (show false = true from e))⟩
theorem lose_right {c : Cs} (h : RightM c) (h2 : c.state = 2) (hf : c.fin = false) : RightM c.lose :=
  ⟨h.cnt, h.st8, h.off, h.num, h.has, h.hasn, fun e => absurd h2 e, fun _ => lose_frame (h.frm h2) hf⟩
theorem stuffed_right {c : Cs} (h : RightM c) (h2 : c.state = 2) (hf : c.fin = false) (l : Bool) {b : UInt8} (hb : okc b = true) (hs : c.sends = true → c.drive = b) : RightM (c.stuffed l b).1 := by
  have F := h.frm h2
  have hns : stopB c.st c.got = false := by rw [← F.fin]; exact hf
  unfold Cs.stuffed
  split
  · exact err_right h 10
  · rename_i h3
    split
    · exact err_right h 12
    · rename_i h12
      refine ⟨h.cnt, h.st8, h.off, h.num, h.has, h.hasn, fun e => absurd h2 e, fun _ => ?_⟩
      have hb2 : b.toNat = 48 ∨ b.toNat = 49 := by rcases okc_cases hb with e | e <;> rw [e] <;> simp
      have key : c.sends = true → c.at_ < (stfF c.fr).length ∧ stA c.fr (c.at_ + 1) = (kn c.st b.toNat, nextB c.st c.got b) ∧ (stopB (kn c.st b.toNat) (nextB c.st c.got b) = decide (c.at_ + 1 = (stfF c.fr).length)) := by
        intro e
        obtain ⟨g1, g2, g3⟩ := F.going e hf
        obtain ⟨g4, g5⟩ := F.sendsY e
        have hd := hs e
        unfold Cs.drive at hd
        rw [if_neg (by omega), if_pos h2, if_pos e, g5, bitsL_at g2] at hd
        have N := next_f (h.has g4) g2
        have n1 := N.st
        have n2 := N.got
        have n3 := N.stop
        rw [g3, hd] at n1 n2
        simp only at n1 n2
        rw [n1, n2] at n3
        exact ⟨g2, by rw [← n1, ← n2], n3⟩
      refine ⟨nextB_all F.all hb, next_head F.head, fits_of F.size F.fit hns (may_le5 F.may), h12, may_kn F.may hb2, ?_, rfl, rfl, by show 0 ≤ 9; omega, fun _ => rfl, fun e => by have : 3 ≤ 0 := e; omega, fun e => ?_, fun e => ?_, fun e hf' => ?_, fun e hf' => ?_⟩
      · show 1 ≤ (kn c.st b.toNat).2
        have := F.one
        unfold kn
        split
        · split
          · omega
          · show 1 ≤ c.st.2 + 1; omega
        · show 1 ≤ 1; omega
      · have e' : c.sends = false := e
        obtain ⟨o1, o2⟩ := F.sendsN e'
        refine ⟨o1, ?_⟩
        show (if c.sends = true then c.at_ + 1 else c.at_) = 0
        rw [e', if_neg (by simp), o2]
      · exact F.sendsY e
      · have e' : c.sends = true := e
        obtain ⟨k1, k2, k3⟩ := key e'
        have hf2 : stopB (kn c.st b.toNat) (nextB c.st c.got b) = false := hf'
        rw [k3] at hf2
        have k4 : c.at_ + 1 ≠ (stfF c.fr).length := by simpa using hf2
        show 1 ≤ (if c.sends = true then c.at_ + 1 else c.at_) ∧ (if c.sends = true then c.at_ + 1 else c.at_) < (stfF c.fr).length ∧ stA c.fr (if c.sends = true then c.at_ + 1 else c.at_) = (kn c.st b.toNat, nextB c.st c.got b)
        rw [if_pos e']
        exact ⟨by omega, by omega, k2⟩
      · have e' : c.sends = true := e
        obtain ⟨k1, k2, k3⟩ := key e'
        have hf2 : stopB (kn c.st b.toNat) (nextB c.st c.got b) = true := hf'
        rw [k3] at hf2
        have k4 : c.at_ + 1 = (stfF c.fr).length := by simpa using hf2
        show (if c.sends = true then c.at_ + 1 else c.at_) = (stfF c.fr).length + 0 ∧ stA c.fr (stfF c.fr).length = (kn c.st b.toNat, nextB c.st c.got b)
        rw [if_pos e']
        exact ⟨by omega, by rw [← k4]; exact k2⟩
theorem mid_right {c : Cs} (h : RightM c) (h2 : c.state = 2) (hf : c.fin = false) {b : UInt8} (hb : okc b = true) : RightM (c.mid b).1 := by
  unfold Cs.mid
  split
  · split
    · exact stuffed_right (lose_right h h2 hf) h2 hf true hb (fun e => by cases (show false = true from e))
    · exact err_right h 13
  · rename_i hc
    refine stuffed_right h h2 hf false hb (fun e => ?_)
    by_cases hd : c.drive = b
    · exact hd
    · exact absurd ⟨e, hd⟩ hc
theorem adv_right {c : Cs} (h : RightM c) (h2 : c.state = 2) (hf : c.fin = true) (h9 : c.tail < 9) (hg : 2 ≤ c.tail → c.sends = false → c.good = true) : RightM c.adv := by
  have F := h.frm h2
  refine ⟨h.cnt, h.st8, h.off, h.num, h.has, h.hasn, fun e => absurd h2 e, fun _ => ?_⟩
  refine ⟨F.all, F.head, F.fit, F.size, F.may, F.one, F.fin, F.good, by show c.tail + 1 ≤ 9; omega, (fun e => by rw [show c.adv.fin = c.fin from rfl, hf] at e; cases e), fun e e2 => hg (by have : 3 ≤ c.tail + 1 := e; omega) e2, fun e => ?_, F.sendsY, (fun _ e => by rw [show c.adv.fin = c.fin from rfl, hf] at e; cases e), fun e _ => ?_⟩
  · have e' : c.sends = false := e
    obtain ⟨o1, o2⟩ := F.sendsN e'
    refine ⟨o1, ?_⟩
    show (if c.sends = true then c.at_ + 1 else c.at_) = 0
    rw [e', if_neg (by simp), o2]
  · have e' : c.sends = true := e
    obtain ⟨o1, o2⟩ := F.gone e' hf
    refine ⟨?_, o2⟩
    show (if c.sends = true then c.at_ + 1 else c.at_) = (stfF c.fr).length + (c.tail + 1)
    rw [if_pos e', o1]; omega
theorem goodB_fr {g : List UInt8} (h : goodB g = true) : FrR (decode (g.take (g.length - 15))) := by
  unfold goodB at h
  simp only [Bool.and_eq_true] at h
  exact (frB_iff _).1 h.1.2
/-- what may happen -/
def EvOk (v : Ev) : Prop := v.kind ≤ 4 ∧ (v.kind = 3 ↔ v.bad ≠ 0) ∧ (v.kind = 1 ∨ v.kind = 2 → FrR v.fr)
theorem ev0_ok : EvOk ev0 := ⟨by decide, by decide, fun h => by rcases h with h | h <;> cases h⟩
theorem evErr_ok (e : Nat) (he : e ≠ 0) : EvOk ⟨3, noFr, e⟩ := ⟨by show 3 ≤ 4; omega, by simp [he], fun h => by rcases h with h | h <;> cases h⟩
theorem late_right {c : Cs} (h : RightM c) (h2 : c.state = 2) (hf : c.fin = true) (b : UInt8) : RightM (c.late b).1 ∧ EvOk (c.late b).2 := by
  have F := h.frm h2
  have ho := h.on (by omega)
  have h9 := F.tail
  unfold Cs.late
  split
  · split
    · exact ⟨err_right h 12, evErr_ok 12 (by omega)⟩
    · exact ⟨adv_right h h2 hf (by omega) (fun e => by omega), ev0_ok⟩
  · split
    · split
      · exact ⟨err_right h 14, evErr_ok 14 (by omega)⟩
      · exact ⟨adv_right h h2 hf (by omega) (fun e => by omega), ev0_ok⟩
    · split
      · split
        · exact ⟨err_right h 12, evErr_ok 12 (by omega)⟩
        · split
          · exact ⟨err_right h 11, evErr_ok 11 (by omega)⟩
          · rename_i hn
            refine ⟨adv_right h h2 hf (by omega) (fun _ e => ?_), ev0_ok⟩
            cases hg : c.good
            · exact absurd ⟨e, hg⟩ hn
            · rfl
      · split
        · split
          · exact ⟨err_right h 12, evErr_ok 12 (by omega)⟩
          · exact ⟨adv_right h h2 hf (by omega) (fun _ e => F.late (by omega) e), ev0_ok⟩
        · split
          · rename_i h8
            split
            · exact ⟨err_right h 12, evErr_ok 12 (by omega)⟩
            · split
              · exact ⟨adv_right h h2 hf (by omega) (fun _ e => F.late (by omega) e), ev0_ok⟩
              · rename_i hs
                have hs' : c.sends = false := by simpa using hs
                have ha := adv_right h h2 hf (by omega) (fun _ e => F.late (by omega) e)
                have hg := F.late (by omega) hs'
                rw [F.good, hf, Bool.true_and] at hg
                have hck : (c.cnt.step 2).o = false := by
                  unfold Cn.step; rw [if_neg (by rw [ho]; simp)]; rfl
                refine ⟨⟨Cn.may_step h.cnt 2, ha.st8, ⟨fun e => absurd (show c.state = 8 from e) (by omega), fun e => by rw [show (c.cnt.step 2).o = true from e] at hck; cases hck⟩, ha.num, ha.has, ha.hasn, ha.bare, fun _ => ?_⟩, ?_⟩
                · have G := ha.frm h2
                  exact ⟨G.all, G.head, G.fit, G.size, G.may, G.one, G.fin, G.good, G.tail, G.tail0, G.late, G.sendsN, G.sendsY, G.going, G.gone⟩
                · exact ⟨by show 2 ≤ 4; omega, by simp, fun _ => goodB_fr hg⟩
          · split
            · split
              · exact ⟨err_right h 12, evErr_ok 12 (by omega)⟩
              · exact ⟨bareC_right h.cnt (by omega) (by omega) ⟨by omega, fun e => by rw [ho] at e; cases e⟩ (by unfold NOk; omega) h.has h.hasn, ev0_ok⟩
            · split
              · rename_i hs
                have hck : (c.cnt.step 1).o = false := by
                  unfold Cn.step; rw [if_neg (by rw [ho]; simp)]; rfl
                exact ⟨bareC_right (Cn.may_step h.cnt 1) (by omega) (by omega) ⟨by omega, fun e => by rw [hck] at e; cases e⟩ (by unfold NOk; omega) (fun e => by cases e) (fun _ => rfl), ⟨by show 1 ≤ 4; omega, by simp, fun _ => h.has (F.sendsY hs).1⟩⟩
              · exact ⟨bareC_right h.cnt (by omega) (by omega) ⟨by omega, fun e => by rw [ho] at e; cases e⟩ (by unfold NOk; omega) h.has h.hasn, ev0_ok⟩
theorem stuffed_ev (c : Cs) (l : Bool) (b : UInt8) : EvOk (c.stuffed l b).2 := by
  unfold Cs.stuffed
  split
  · exact evErr_ok 10 (by omega)
  · split
    · exact evErr_ok 12 (by omega)
    · cases l
      · exact ev0_ok
      · exact ⟨by show 4 ≤ 4; omega, by simp, fun h => by rcases h with h | h <;> cases h⟩
theorem mid_ev (c : Cs) (b : UInt8) : EvOk (c.mid b).2 := by
  unfold Cs.mid
  split
  · split
    · exact stuffed_ev _ _ _
    · exact evErr_ok 13 (by omega)
  · exact stuffed_ev _ _ _
theorem sample_bare {k : Cn} {s n : Nat} {was hard has : Bool} {fr : Fr} (h : RightM (bareC k s n was hard has fr)) (h2 : s ≠ 2) (b : UInt8) :
    RightM ((bareC k s n was hard has fr).sample b).1 ∧ EvOk ((bareC k s n was hard has fr).sample b).2 := by
  have h8 : s ≤ 8 := h.st8
  have hk : k.may := h.cnt
  have hoff : s = 8 ↔ k.o = true := h.off
  obtain ⟨n0, n1, n3, n4, n5, n6, n7⟩ : NOk s n := h.num
  have hmk : ∀ (k' : Cn) (s' n' : Nat) (was' hard' : Bool), k'.may → s' ≤ 8 → s' ≠ 2 → (s' = 8 ↔ k'.o = true) → NOk s' n' → RightM (bareC k' s' n' was' hard' has fr) := fun k' s' n' was' hard' a1 a2 a3 a4 a5 => bareC_right a1 a2 a3 a4 a5 h.has h.hasn
  by_cases h88 : s = 8
  · subst h88
    have ho : k.o = true := hoff.1 rfl
    unfold Cs.sample
    rw [if_neg (by show ¬ 8 = 0; omega), if_neg (by show ¬ 8 = 1; omega), if_neg (by show ¬ 8 = 2; omega), if_neg (by show ¬ 8 = 3; omega), if_neg (by show ¬ 8 = 4; omega), if_neg (by show ¬ 8 = 5; omega), if_neg (by show ¬ 8 = 6; omega), if_neg (by show ¬ 8 = 7; omega)]
    split
    · exact ⟨hmk k 8 0 was hard hk (by omega) (by omega) hoff (by unfold NOk; omega), ev0_ok⟩
    · split
      · refine ⟨?_, ev0_ok⟩
        show RightM (bareC (k.step 7) (if (k.step 7).o = true then 8 else 1) 0 was hard has fr)
        split
        · rename_i ho7
          exact hmk _ 8 0 was hard (Cn.may_step hk 7) (by omega) (by omega) (by simp [ho7]) (by unfold NOk; omega)
        · rename_i ho7
          exact hmk _ 1 0 was hard (Cn.may_step hk 7) (by omega) (by omega) ⟨by omega, fun e => absurd e ho7⟩ (by unfold NOk; omega)
      · rename_i h11
        have h11' : ¬ n + 1 = 11 := h11
        exact ⟨hmk k 8 (n + 1) was hard hk (by omega) (by omega) hoff (by unfold NOk; omega), ev0_ok⟩
  · have ho : ¬ k.o = true := fun e => h88 (hoff.2 e)
    have ho' : k.o = false := by simpa using ho
    have hs : s = 0 ∨ s = 1 ∨ s = 3 ∨ s = 4 ∨ s = 5 ∨ s = 6 ∨ s = 7 := by omega
    have hmk' : ∀ (s' n' : Nat) (was' hard' : Bool), s' < 8 → s' ≠ 2 → NOk s' n' → RightM (bareC k s' n' was' hard' has fr) := fun s' n' was' hard' a2 a3 a5 => hmk k s' n' was' hard' hk (by omega) a3 ⟨by omega, fun e => absurd e ho⟩ a5
    unfold Cs.sample
    rcases hs with rfl | rfl | rfl | rfl | rfl | rfl | rfl
    · rw [if_pos (by show 0 = _; rfl)]
      split
      · exact ⟨hmk' 0 0 was hard (by omega) (by omega) (by unfold NOk; omega), ev0_ok⟩
      · split
        · exact ⟨hmk' 1 0 was hard (by omega) (by omega) (by unfold NOk; omega), ev0_ok⟩
        · rename_i h11
          have h11' : ¬ n + 1 = 11 := h11
          exact ⟨hmk' 0 (n + 1) was hard (by omega) (by omega) (by unfold NOk; omega), ev0_ok⟩
    · rw [if_neg (by show ¬ 1 = 0; omega), if_pos (by show 1 = _; rfl)]
      split
      · exact ⟨begin_right h ho' has (fun e => e), ev0_ok⟩
      · exact ⟨h, ev0_ok⟩
    · rw [if_neg (by show ¬ 3 = 0; omega), if_neg (by show ¬ 3 = 1; omega), if_neg (by show ¬ 3 = 2; omega), if_pos (by show 3 = _; rfl)]
      split
      · exact ⟨hmk' 4 0 was hard (by omega) (by omega) (by unfold NOk; omega), ev0_ok⟩
      · rename_i h6
        have h6' : ¬ n + 1 = 6 := h6
        exact ⟨hmk' 3 (n + 1) was hard (by omega) (by omega) (by unfold NOk; omega), ev0_ok⟩
    · rw [if_neg (by show ¬ 4 = 0; omega), if_neg (by show ¬ 4 = 1; omega), if_neg (by show ¬ 4 = 2; omega), if_neg (by show ¬ 4 = 3; omega), if_pos (by show 4 = _; rfl)]
      refine ⟨?_, ev0_ok⟩
      show RightM (Cs.echo (bareC k 4 n was hard has fr) b)
      unfold Cs.echo
      split
      · exact hmk' 5 1 was hard (by omega) (by omega) (by unfold NOk; omega)
      · split
        · have h6 : (k.step 6).o = false := by unfold Cn.step; rw [if_neg ho]; rfl
          exact hmk (k.step 6) 4 1 was hard (Cn.may_step hk 6) (by omega) (by omega) ⟨by omega, fun e => by rw [h6] at e; cases e⟩ (by unfold NOk; omega)
        · split
          · generalize (if (bareC k 4 n was hard has fr).was = true then 5 else 6) = j
            split
            · rename_i hq
              exact hmk _ 8 0 was hard (Cn.may_step hk _) (by omega) (by omega) ⟨fun _ => hq, fun _ => rfl⟩ (by unfold NOk; omega)
            · rename_i hq
              exact hmk _ 4 (min (n + 1) 1000000000) was hard (Cn.may_step hk _) (by omega) (by omega) ⟨by omega, fun e => absurd e hq⟩ (by unfold NOk; omega)
          · exact hmk' 4 (min (n + 1) 1000000000) was hard (by omega) (by omega) (by unfold NOk; omega)
    · rw [if_neg (by show ¬ 5 = 0; omega), if_neg (by show ¬ 5 = 1; omega), if_neg (by show ¬ 5 = 2; omega), if_neg (by show ¬ 5 = 3; omega), if_neg (by show ¬ 5 = 4; omega), if_pos (by show 5 = _; rfl)]
      split
      · exact ⟨hmk' 3 0 was hard (by omega) (by omega) (by unfold NOk; omega), ev0_ok⟩
      · split
        · exact ⟨hmk' 6 0 was hard (by omega) (by omega) (by unfold NOk; omega), ev0_ok⟩
        · rename_i h8'
          have h8'' : ¬ n + 1 = 8 := h8'
          exact ⟨hmk' 5 (n + 1) was hard (by omega) (by omega) (by unfold NOk; omega), ev0_ok⟩
    · rw [if_neg (by show ¬ 6 = 0; omega), if_neg (by show ¬ 6 = 1; omega), if_neg (by show ¬ 6 = 2; omega), if_neg (by show ¬ 6 = 3; omega), if_neg (by show ¬ 6 = 4; omega), if_neg (by show ¬ 6 = 5; omega), if_pos (by show 6 = _; rfl)]
      split
      · split
        · exact ⟨begin_right h ho' false (fun e => by cases e), ev0_ok⟩
        · exact ⟨hmk' 3 0 was true (by omega) (by omega) (by unfold NOk; omega), ev0_ok⟩
      · split
        · refine ⟨?_, ev0_ok⟩
          show RightM (bareC k (if was = true ∧ k.state = 2 then 7 else 1) 0 was hard has fr)
          split
          · exact hmk' 7 0 was hard (by omega) (by omega) (by unfold NOk; omega)
          · exact hmk' 1 0 was hard (by omega) (by omega) (by unfold NOk; omega)
        · rename_i h3
          have h3' : ¬ n + 1 = 3 := h3
          exact ⟨hmk' 6 (n + 1) was hard (by omega) (by omega) (by unfold NOk; omega), ev0_ok⟩
    · rw [if_neg (by show ¬ 7 = 0; omega), if_neg (by show ¬ 7 = 1; omega), if_neg (by show ¬ 7 = 2; omega), if_neg (by show ¬ 7 = 3; omega), if_neg (by show ¬ 7 = 4; omega), if_neg (by show ¬ 7 = 5; omega), if_neg (by show ¬ 7 = 6; omega), if_pos (by show 7 = _; rfl)]
      split
      · exact ⟨begin_right h ho' false (fun e => by cases e), ev0_ok⟩
      · split
        · exact ⟨hmk' 1 0 was hard (by omega) (by omega) (by unfold NOk; omega), ev0_ok⟩
        · rename_i h8'
          have h8'' : ¬ n + 1 = 8 := h8'
          exact ⟨hmk' 7 (n + 1) was hard (by omega) (by omega) (by unfold NOk; omega), ev0_ok⟩
/-- what may be stays such, at either bit -/
theorem sample_right {c : Cs} (h : RightM c) {b : UInt8} (hb : okc b = true) : RightM (c.sample b).1 ∧ EvOk (c.sample b).2 := by
  by_cases h2 : c.state = 2
  · unfold Cs.sample
    rw [if_neg (by omega), if_neg (by omega), if_pos h2]
    split
    · rename_i hf
      exact late_right h h2 hf b
    · rename_i hf
      have hf' : c.fin = false := by simpa using hf
      exact ⟨mid_right h h2 hf' hb, mid_ev c b⟩
  · have e := bare_eq (h.bare h2)
    rw [e] at h ⊢
    exact sample_bare h h2 b
theorem cs0_right : RightM cs0 := bareC_right cn0_may (by omega) (by omega) ⟨by omega, fun e => by cases e⟩ (by unfold NOk; omega) (fun e => by cases e) (fun _ => rfl)
theorem submit_right {c : Cs} (h : RightM c) {f : Fr} (hf : FrR f) (hh : c.has = false) : RightM { c with has := true, fr := f } := by
  refine ⟨h.cnt, h.st8, h.off, h.num, fun _ => hf, (fun e => by cases e), h.bare, fun e => ?_⟩
  have F := h.frm e
  have hs : c.sends = false := by
    cases hs : c.sends
    · rfl
    · have := (F.sendsY hs).1; rw [hh] at this; cases this
  exact ⟨F.all, F.head, F.fit, F.size, F.may, F.one, F.fin, F.good, F.tail, F.tail0, F.late, F.sendsN, (fun e => by rw [show c.sends = true from e] at hs; cases hs), (fun e => by rw [show c.sends = true from e] at hs; cases hs), (fun e => by rw [show c.sends = true from e] at hs; cases hs)⟩
theorem cancel_right {c : Cs} (h : RightM c) (hs : c.sends = false) : RightM { c with has := false, fr := noFr } := by
  refine ⟨h.cnt, h.st8, h.off, h.num, (fun e => by cases e), fun _ => rfl, h.bare, fun e => ?_⟩
  have F := h.frm e
  exact ⟨F.all, F.head, F.fit, F.size, F.may, F.one, F.fin, F.good, F.tail, F.tail0, F.late, F.sendsN, (fun e => by rw [show c.sends = true from e] at hs; cases hs), (fun e => by rw [show c.sends = true from e] at hs; cases hs), (fun e => by rw [show c.sends = true from e] at hs; cases hs)⟩
theorem drive_bit {c : Cs} (h : RightM c) : c.drive = 48 ∨ c.drive = 49 := by
  unfold Cs.drive
  split
  · split <;> simp
  · split
    · rename_i h2
      split
      · rename_i hs
        have F := h.frm h2
        rw [(F.sendsY hs).2]
        by_cases hl : c.at_ < (stfF c.fr).length
        · rw [bitsL_at hl]
          exact okc_cases (List.all_eq_true.1 (stf_all (sumL_all (headL_all c.fr))) _ (List.getElem_mem hl))
        · rw [bitsL_late (by omega)]; simp
      · split <;> simp
    · split
      · split <;> simp
      · simp
end Go.Proofs.YtcaeobkaoebndaaGreat.B

namespace Go.Proofs.YtcaeobkaoebndaaGreat.B

/-- idle -/
def idleC (k : Cn) (was hard has : Bool) (fr : Fr) : Cs := bareC k 1 0 was hard has fr
def runC (c : Cs) (l : List UInt8) : Cs := l.foldl (fun c b => (c.sample b).1) c
theorem runC_snoc (c : Cs) (l : List UInt8) (b : UInt8) : runC c (l ++ [b]) = ((runC c l).sample b).1 := by simp [runC]
theorem runC_right {c : Cs} (h : RightM c) : ∀ l : List UInt8, l.all okc = true → RightM (runC c l) := by
  refine snoc_ind ?_ ?_
  · intro _; exact h
  · intro l b ih hl
    obtain ⟨h1, h2⟩ := all_snoc.1 hl
    rw [runC_snoc]
    exact (sample_right (ih h1) h2).1
theorem joined : runC cs0 (List.replicate 11 49) = idleC cn0 false false false noFr := rfl
/-- in a frame -/
def frC (k : Cn) (was hard has : Bool) (fr : Fr) (sends : Bool) (f : Fr) (i : Nat) : Cs :=
  ⟨k, 2, 0, was, hard, has, fr, sends, if sends then bitsL fr else [], if sends then i else 0, (stA f i).1, (stA f i).2, decide (i = (stfF f).length), 0, decide (i = (stfF f).length)⟩
/-- behind a frame's stuffed bits -/
def tlC (k : Cn) (was hard has : Bool) (fr : Fr) (sends : Bool) (f : Fr) (t : Nat) : Cs :=
  ⟨k, 2, 0, was, hard, has, fr, sends, if sends then bitsL fr else [], if sends then (stfF f).length + t else 0, (stA f (stfF f).length).1, (stA f (stfF f).length).2, true, t, true⟩
theorem frC_end (k : Cn) (was hard has : Bool) (fr : Fr) (sends : Bool) (f : Fr) : frC k was hard has fr sends f (stfF f).length = tlC k was hard has fr sends f 0 := by
  unfold frC tlC
  simp
theorem stfF_zero (f : Fr) (h : 0 < (stfF f).length) : (stfF f)[0] = 48 := by
  obtain ⟨r, hr⟩ := (stfF_head (f := f)).2
  have : (stfF f)[0]? = some 48 := by rw [hr]; rfl
  rw [List.getElem?_eq_getElem h] at this
  exact Option.some.inj this
/-- a frame begins -/
theorem begin_f {k : Cn} {was hard has : Bool} {fr : Fr} (f : Fr) (hf : FrR f) : (idleC k was hard has fr).sample 48 = (frC k has hard has fr has f 1, ev0) := by
  have hl := stfF_length hf
  have h1 := stA_one hf
  unfold idleC Cs.sample
  rw [if_neg (by show ¬ 1 = 0; omega), if_pos (by show 1 = _; rfl), if_pos rfl]
  unfold Cs.begin_ frC bareC
  simp only [h1]
  have e : decide (1 = (stfF f).length) = false := by simp; omega
  rw [e]
theorem gap_f {k : Cn} {was hard has : Bool} {fr : Fr} (f : Fr) (hf : FrR f) : (bareC k 6 2 was hard has fr).sample 48 = (frC k false hard has fr false f 1, ev0) := by
  have hl := stfF_length hf
  have h1 := stA_one hf
  unfold Cs.sample
  rw [if_neg (by show ¬ 6 = 0; omega), if_neg (by show ¬ 6 = 1; omega), if_neg (by show ¬ 6 = 2; omega), if_neg (by show ¬ 6 = 3; omega), if_neg (by show ¬ 6 = 4; omega), if_neg (by show ¬ 6 = 5; omega), if_pos (by show 6 = _; rfl), if_pos rfl, if_pos (by show 2 = _; rfl)]
  unfold Cs.begin_ frC bareC
  simp only [h1]
  have e : decide (1 = (stfF f).length) = false := by simp; omega
  rw [e]
theorem frC_stuffed {k : Cn} {was hard has : Bool} {fr : Fr} {sends : Bool} {f : Fr} (hf : FrR f) {i : Nat} (hi : i < (stfF f).length) (l : Bool) :
    (frC k was hard has fr sends f i).stuffed l (stfF f)[i] = (frC k was hard has fr sends f (i + 1), if l then ⟨4, noFr, 0⟩ else ev0) := by
  have N := next_f hf hi
  unfold Cs.stuffed
  rw [if_neg (by show ¬ kind (stA f i).1 ((stfF f)[i]).toNat = 3; exact N.ok)]
  have hz : (sizeL (nextB (stA f i).1 (stA f i).2 ((stfF f)[i]))).2 ≠ 12 := by rw [← N.got]; exact N.size
  rw [if_neg (by show ¬ (sizeL (nextB (stA f i).1 (stA f i).2 ((stfF f)[i]))).2 = 12; exact hz)]
  have hst := N.stop
  have hgd : (decide (i + 1 = (stfF f).length) && goodB (stA f (i + 1)).2) = decide (i + 1 = (stfF f).length) := by
    by_cases e : i + 1 = (stfF f).length
    · rw [e, stA_end hf, good_f hf]; simp
    · rw [decide_eq_false e]; rfl
  unfold frC
  simp only [← N.st, ← N.got, hst, hgd]
  cases sends <;> rfl
/-- it goes on, bit by bit -/
theorem frC_next {k : Cn} {was hard has : Bool} {fr : Fr} {sends : Bool} {f : Fr} (hf : FrR f) (hs : sends = true → f = fr) {i : Nat} (hi : i < (stfF f).length) :
    (frC k was hard has fr sends f i).sample (stfF f)[i] = (frC k was hard has fr sends f (i + 1), ev0) := by
  have hne : decide (i = (stfF f).length) = false := by simp; omega
  unfold Cs.sample
  rw [if_neg (by show ¬ 2 = 0; omega), if_neg (by show ¬ 2 = 1; omega), if_pos (by show 2 = _; rfl), if_neg (by show ¬ decide (i = (stfF f).length) = true; rw [hne]; simp)]
  unfold Cs.mid
  rw [if_neg (by
    rintro ⟨h1, h2⟩
    have h1' : sends = true := h1
    have e := hs h1'
    subst h1' e
    refine h2 ?_
    unfold Cs.drive
    rw [if_neg (by show ¬ 2 = 1; omega), if_pos (by show 2 = _; rfl), if_pos h1]
    exact bitsL_at hi)]
  exact frC_stuffed hf hi false
/-- .. behind the stuffed bits -/
theorem tlC_next {k : Cn} {was hard has : Bool} {fr : Fr} {sends : Bool} {f : Fr} {t : Nat} (ht : t < 8 ∨ t = 8 ∧ sends = true) {b : UInt8} (hb : t ≠ 1 → b = 49) (hb1 : t = 1 → sends = true → b = 48) :
    (tlC k was hard has fr sends f t).sample b = (tlC k was hard has fr sends f (t + 1), ev0) := by
  have hadv : (tlC k was hard has fr sends f t).adv = tlC k was hard has fr sends f (t + 1) := by
    unfold tlC Cs.adv
    cases sends <;> rfl
  unfold Cs.sample
  rw [if_neg (by show ¬ 2 = 0; omega), if_neg (by show ¬ 2 = 1; omega), if_pos (by show 2 = _; rfl), if_pos (by show true = true; rfl)]
  unfold Cs.late
  rw [hadv]
  show (if t = 0 then _ else if t = 1 then _ else if t = 2 then _ else if t < 8 then _ else if t = 8 then _ else _) = _
  have h48 : t ≠ 1 → b ≠ 48 := fun e => by rw [hb e]; decide
  by_cases e0 : t = 0
  · rw [if_pos e0, if_neg (h48 (by omega))]
  · rw [if_neg e0]
    by_cases e1 : t = 1
    · rw [if_pos e1, if_neg (by rintro ⟨h1, h2⟩; rw [hb1 e1 h2] at h1; exact absurd h1 (by decide))]
    · rw [if_neg e1]
      by_cases e2 : t = 2
      · rw [if_pos e2, if_neg (h48 (by omega)), if_neg (by rintro ⟨_, h2⟩; exact absurd (show true = false from h2) (by decide))]
      · rw [if_neg e2]
        by_cases e8 : t < 8
        · rw [if_pos e8, if_neg (h48 (by omega))]
        · rw [if_neg e8, if_pos (by omega), if_neg (h48 (by omega)), if_pos (by rcases ht with h | h; omega; exact h.2)]
theorem late_8 {c : Cs} (h : c.tail = 8) : c.late 49 = if c.sends = true then (c.adv, ev0) else ({ c.adv with cnt := c.cnt.step 2 }, ⟨2, decode (c.got.take (c.got.length - 15)), 0⟩) := by
  unfold Cs.late
  rw [if_neg (by omega), if_neg (by omega), if_neg (by omega), if_neg (by omega), if_pos h, if_neg (by decide)]
theorem late_9 {c : Cs} (h : c.tail = 9) : c.late 49 = if c.sends = true then (bareC (c.cnt.step 1) 6 0 c.was c.hard false noFr, ⟨1, c.fr, 0⟩) else (bareC c.cnt 6 0 c.was c.hard c.has c.fr, ev0) := by
  unfold Cs.late
  rw [if_neg (by omega), if_neg (by omega), if_neg (by omega), if_neg (by omega), if_neg (by omega), if_neg (by decide)]
theorem sample_late {c : Cs} (h2 : c.state = 2) (hf : c.fin = true) (b : UInt8) : c.sample b = c.late b := by
  unfold Cs.sample
  rw [if_neg (by omega), if_neg (by omega), if_pos h2, if_pos hf]
theorem sample_mid {c : Cs} (h2 : c.state = 2) (hf : c.fin = false) (b : UInt8) : c.sample b = c.mid b := by
  unfold Cs.sample
  rw [if_neg (by omega), if_neg (by omega), if_pos h2, if_neg (by rw [hf]; simp)]
theorem came_f {k : Cn} {was hard has : Bool} {fr f : Fr} (hf : FrR f) : (tlC k was hard has fr false f 8).sample 49 = (tlC (k.step 2) was hard has fr false f 9, ⟨2, f, 0⟩) := by
  rw [sample_late rfl rfl, late_8 rfl, if_neg (by show ¬ false = true; simp)]
  have : (tlC k was hard has fr false f 8).got = sumL (headL f) := stA_end hf
  rw [this, sumL_head, decode_head hf]
  rfl
theorem end_came {k : Cn} {was hard has : Bool} {fr f : Fr} : (tlC k was hard has fr false f 9).sample 49 = (bareC k 6 0 was hard has fr, ev0) := by
  rw [sample_late rfl rfl, late_9 rfl, if_neg (by show ¬ false = true; simp)]
  rfl
theorem end_sent {k : Cn} {was hard has : Bool} {f : Fr} : (tlC k was hard has f true f 9).sample 49 = (bareC (k.step 1) 6 0 was hard false noFr, ⟨1, f, 0⟩) := by
  rw [sample_late rfl rfl, late_9 rfl, if_pos (by show true = true; rfl)]
  rfl
theorem drive_idle (k : Cn) (was hard has : Bool) (fr : Fr) : (idleC k was hard has fr).drive = if has then 48 else 49 := rfl
theorem drive_fr {k : Cn} {was hard has : Bool} {fr f : Fr} {i : Nat} (hi : i < (stfF f).length) : (frC k was hard has fr false f i).drive = 49 := by
  unfold Cs.drive
  rw [if_neg (by show ¬ 2 = 1; omega), if_pos (by show 2 = _; rfl), if_neg (by show ¬ false = true; simp)]
  rw [if_neg (by rintro ⟨h, _⟩; have h' : decide (i = (stfF f).length) = true := h; simp at h'; omega)]
theorem drive_tl {k : Cn} {was hard has : Bool} {fr f : Fr} {t : Nat} : (tlC k was hard has fr false f t).drive = if t = 1 then 48 else 49 := by
  unfold Cs.drive
  rw [if_neg (by show ¬ 2 = 1; omega), if_pos (by show 2 = _; rfl), if_neg (by show ¬ false = true; simp)]
  by_cases e : t = 1
  · rw [if_pos e, if_pos ⟨rfl, e, rfl⟩]
  · rw [if_neg e, if_neg (by rintro ⟨_, h, _⟩; exact e h)]
theorem drive_frS {k : Cn} {was hard has : Bool} {f : Fr} {i : Nat} (hi : i < (stfF f).length) : (frC k was hard has f true f i).drive = (stfF f)[i] := by
  unfold Cs.drive
  rw [if_neg (by show ¬ 2 = 1; omega), if_pos (by show 2 = _; rfl), if_pos (by show true = true; rfl)]
  exact bitsL_at hi
theorem drive_tlS {k : Cn} {was hard has : Bool} {f : Fr} {t : Nat} : (tlC k was hard has f true f t).drive = 49 := by
  unfold Cs.drive
  rw [if_neg (by show ¬ 2 = 1; omega), if_pos (by show 2 = _; rfl), if_pos (by show true = true; rfl)]
  exact bitsL_late (by show (stfF f).length ≤ (stfF f).length + t; omega)

/-! ### a frame that comes (CtlComes) -/
/-- a frame's bits, told that they came -/
def ackL (f : Fr) : List UInt8 := stfF f ++ [49, 48, 49, 49, 49, 49, 49, 49, 49, 49]
theorem ackL_length (f : Fr) : (ackL f).length = (stfF f).length + 10 := by unfold ackL; rw [List.length_append]; rfl
theorem ackL_at {f : Fr} {i : Nat} (hi : i < (stfF f).length) : (ackL f)[i]'(by rw [ackL_length]; omega) = (stfF f)[i] := by
  unfold ackL; rw [List.getElem_append_left hi]
theorem ackL_tail {f : Fr} {t : Nat} (ht : t < 10) : (ackL f)[(stfF f).length + t]'(by rw [ackL_length]; omega) = if t = 1 then 48 else 49 := by
  unfold ackL
  rw [List.getElem_append_right (by omega)]
  have : (stfF f).length + t - (stfF f).length = t := by omega
  simp only [this]
  have : t = 0 ∨ t = 1 ∨ t = 2 ∨ t = 3 ∨ t = 4 ∨ t = 5 ∨ t = 6 ∨ t = 7 ∨ t = 8 ∨ t = 9 := by omega
  rcases this with rfl | rfl | rfl | rfl | rfl | rfl | rfl | rfl | rfl | rfl <;> rfl
/-- behind i bits of a frame that comes -/
def comeC (k : Cn) (was hard has : Bool) (fr f : Fr) (i : Nat) : Cs :=
  if i = 0 then idleC k was hard false fr
  else if i < (stfF f).length then frC k false hard has fr false f i
  else if i < (stfF f).length + 9 then tlC k false hard has fr false f (i - (stfF f).length)
  else if i = (stfF f).length + 9 then tlC (k.step 2) false hard has fr false f 9
  else bareC (k.step 2) 6 0 false hard has fr
theorem comeC_fr {k : Cn} {was hard has : Bool} {fr f : Fr} {i : Nat} (h1 : 1 ≤ i) (hi : i < (stfF f).length) : comeC k was hard has fr f i = frC k false hard has fr false f i := by
  unfold comeC; rw [if_neg (by omega), if_pos hi]
theorem comeC_tl {k : Cn} {was hard has : Bool} {fr f : Fr} (hf : FrR f) {t : Nat} (ht : t ≤ 8) : comeC k was hard has fr f ((stfF f).length + t) = tlC k false hard has fr false f t := by
  have hl := stfF_length hf
  unfold comeC; rw [if_neg (by omega), if_neg (by omega), if_pos (by omega), show (stfF f).length + t - (stfF f).length = t by omega]
theorem comeC_9 {k : Cn} {was hard has : Bool} {fr f : Fr} (hf : FrR f) : comeC k was hard has fr f ((stfF f).length + 9) = tlC (k.step 2) false hard has fr false f 9 := by
  have hl := stfF_length hf
  unfold comeC; rw [if_neg (by omega), if_neg (by omega), if_neg (by omega), if_pos rfl]
theorem comeC_end {k : Cn} {was hard has : Bool} {fr f : Fr} (hf : FrR f) : comeC k was hard has fr f ((stfF f).length + 10) = bareC (k.step 2) 6 0 false hard has fr := by
  have hl := stfF_length hf
  unfold comeC; rw [if_neg (by omega), if_neg (by omega), if_neg (by omega), if_neg (by omega)]
/-- from the second bit on (whoever began) -/
theorem come_next {k : Cn} {was hard has : Bool} {fr f : Fr} (hf : FrR f) {i : Nat} (h1 : 1 ≤ i) (hi : i < (stfF f).length + 10) :
    (comeC k was hard has fr f i).sample ((ackL f)[i]'(by rw [ackL_length]; omega)) = (comeC k was hard has fr f (i + 1), if i = (stfF f).length + 8 then ⟨2, f, 0⟩ else ev0) := by
  have hl := stfF_length hf
  by_cases hi1 : i < (stfF f).length
  · rw [comeC_fr h1 hi1, if_neg (show ¬ i = (stfF f).length + 8 by omega), ackL_at hi1, frC_next hf (fun e => by cases e) hi1]
    by_cases hi2 : i + 1 < (stfF f).length
    · rw [comeC_fr (by omega) hi2]
    · have e : i + 1 = (stfF f).length + 0 := by omega
      rw [e, comeC_tl hf (by omega), Nat.add_zero, frC_end]
  · obtain ⟨t, rfl⟩ : ∃ t, i = (stfF f).length + t := ⟨i - (stfF f).length, by omega⟩
    rw [ackL_tail (by omega)]
    by_cases h8 : t < 8
    · rw [comeC_tl hf (by omega), if_neg (show ¬ (stfF f).length + t = (stfF f).length + 8 by omega), show (stfF f).length + t + 1 = (stfF f).length + (t + 1) by omega, comeC_tl hf (by omega)]
      exact tlC_next (.inl h8) (fun e => by rw [if_neg e]) (fun _ e => by cases e)
    · by_cases e8 : t = 8
      · subst e8
        rw [comeC_tl hf (by omega), show (stfF f).length + 8 + 1 = (stfF f).length + 9 by omega, comeC_9 hf, if_neg (show ¬ 8 = 1 by omega), if_pos rfl]
        exact came_f hf
      · have e9 : t = 9 := by omega
        subst e9
        rw [comeC_9 hf, show (stfF f).length + 9 + 1 = (stfF f).length + 10 by omega, comeC_end hf, if_neg (show ¬ 9 = 1 by omega), if_neg (show ¬ (stfF f).length + 9 = (stfF f).length + 8 by omega)]
        exact end_came
theorem come_first {k : Cn} {was hard : Bool} {fr f : Fr} (hf : FrR f) : (idleC k was hard false fr).sample 48 = (comeC k was hard false fr f 1, ev0) := by
  have hl := stfF_length hf
  rw [begin_f f hf]
  unfold comeC
  rw [if_neg (by omega), if_pos (by omega)]
theorem come_drive {k : Cn} {was hard has : Bool} {fr f : Fr} (hf : FrR f) {i : Nat} (hi : i < (stfF f).length + 10) : (comeC k was hard has fr f i).drive = if i = (stfF f).length + 1 then 48 else 49 := by
  have hl := stfF_length hf
  unfold comeC
  by_cases h0 : i = 0
  · rw [if_pos h0, if_neg (by omega)]; rfl
  · rw [if_neg h0]
    by_cases hi1 : i < (stfF f).length
    · rw [if_pos hi1, if_neg (by omega)]; exact drive_fr hi1
    · rw [if_neg hi1]
      by_cases hi2 : i < (stfF f).length + 9
      · rw [if_pos hi2, drive_tl]
        by_cases e : i = (stfF f).length + 1
        · rw [if_pos (by omega), if_pos e]
        · rw [if_neg (by omega), if_neg e]
      · rw [if_neg hi2, if_pos (by omega), drive_tl, if_neg (by omega), if_neg (by omega)]
/-- the gap behind a frame that came -/
theorem gap3 (k : Cn) (hard has : Bool) (fr : Fr) : runC (bareC k 6 0 false hard has fr) [49, 49, 49] = idleC k false hard has fr := rfl

/-! ### one's own frame (CtlSends) -/
def sendC (k : Cn) (was hard : Bool) (f : Fr) (i : Nat) : Cs :=
  if i = 0 then idleC k was hard true f
  else if i < (stfF f).length then frC k true hard true f true f i
  else if i < (stfF f).length + 10 then tlC k true hard true f true f (i - (stfF f).length)
  else bareC (k.step 1) 6 0 true hard false noFr
theorem send_drive {k : Cn} {was hard : Bool} {f : Fr} (hf : FrR f) {i : Nat} (hi : i < (stfF f).length + 10) : (sendC k was hard f i).drive = (bitsL f).getD i 49 := by
  have hl := stfF_length hf
  unfold sendC
  by_cases h0 : i = 0
  · subst h0
    rw [if_pos rfl, bitsL_at (by omega), stfF_zero f (by omega)]; rfl
  · rw [if_neg h0]
    by_cases hi1 : i < (stfF f).length
    · rw [if_pos hi1, bitsL_at hi1]; exact drive_frS hi1
    · rw [if_neg hi1, if_pos hi, bitsL_late (by omega)]; exact drive_tlS
theorem sendC_fr {k : Cn} {was hard : Bool} {f : Fr} {i : Nat} (h1 : 1 ≤ i) (hi : i < (stfF f).length) : sendC k was hard f i = frC k true hard true f true f i := by
  unfold sendC; rw [if_neg (by omega), if_pos hi]
theorem sendC_tl {k : Cn} {was hard : Bool} {f : Fr} (hf : FrR f) {t : Nat} (ht : t ≤ 9) : sendC k was hard f ((stfF f).length + t) = tlC k true hard true f true f t := by
  have hl := stfF_length hf
  unfold sendC; rw [if_neg (by omega), if_neg (by omega), if_pos (by omega), show (stfF f).length + t - (stfF f).length = t by omega]
theorem sendC_end {k : Cn} {was hard : Bool} {f : Fr} (hf : FrR f) : sendC k was hard f ((stfF f).length + 10) = bareC (k.step 1) 6 0 true hard false noFr := by
  have hl := stfF_length hf
  unfold sendC; rw [if_neg (by omega), if_neg (by omega), if_neg (by omega)]
/-- its own stuffed bits, as it drives them -/
theorem send_stuffed {k : Cn} {was hard : Bool} {f : Fr} (hf : FrR f) {i : Nat} (hi : i < (stfF f).length) : (sendC k was hard f i).sample (stfF f)[i] = (sendC k was hard f (i + 1), ev0) := by
  have hl := stfF_length hf
  by_cases h0 : i = 0
  · subst h0
    rw [stfF_zero f (by omega), sendC_fr (i := 0 + 1) (by omega) (by omega)]
    exact begin_f f hf
  · rw [sendC_fr (by omega) hi, frC_next hf (fun _ => rfl) hi]
    by_cases hi2 : i + 1 < (stfF f).length
    · rw [sendC_fr (by omega) hi2]
    · have e : i + 1 = (stfF f).length + 0 := by omega
      rw [e, sendC_tl hf (by omega), Nat.add_zero, frC_end]
theorem send_next {k : Cn} {was hard : Bool} {f : Fr} (hf : FrR f) {i : Nat} (hi : i < (stfF f).length + 10) :
    (sendC k was hard f i).sample ((ackL f)[i]'(by rw [ackL_length]; omega)) = (sendC k was hard f (i + 1), if i = (stfF f).length + 9 then ⟨1, f, 0⟩ else ev0) := by
  have hl := stfF_length hf
  by_cases hi1 : i < (stfF f).length
  · rw [ackL_at hi1, send_stuffed hf hi1, if_neg (show ¬ i = (stfF f).length + 9 by omega)]
  · obtain ⟨t, rfl⟩ : ∃ t, i = (stfF f).length + t := ⟨i - (stfF f).length, by omega⟩
    have ht9 : t ≤ 9 := by omega
    rw [ackL_tail (by omega), sendC_tl hf ht9]
    by_cases h9 : t < 9
    · rw [if_neg (show ¬ (stfF f).length + t = (stfF f).length + 9 by omega), show (stfF f).length + t + 1 = (stfF f).length + (t + 1) by omega, sendC_tl hf (show t + 1 ≤ 9 by omega)]
      exact tlC_next (by rcases Nat.lt_or_ge t 8 with h | h; exact .inl h; exact .inr ⟨by omega, rfl⟩) (fun e => by rw [if_neg e]) (fun e _ => by rw [if_pos e])
    · have e9 : t = 9 := by omega
      subst e9
      rw [show (stfF f).length + 9 + 1 = (stfF f).length + 10 by omega, sendC_end hf, if_pos rfl, if_neg (show ¬ 9 = 1 by omega)]
      exact end_sent
end Go.Proofs.YtcaeobkaoebndaaGreat.B

namespace Go.Proofs.YtcaeobkaoebndaaGreat.B

/-! ### errors in sending (CtlErrs, CtlOff) -/
/-- what an error in sending makes of a controller -/
def errC (k : Cn) (hard : Bool) (f : Fr) : Cs := if k.o = true then bareC k 8 0 true hard true f else bareC k 3 0 true (decide (k.state = 1)) true f
theorem send_form {k : Cn} {hard : Bool} {f : Fr} {t : Nat} (ht : t ≤ 9) (h1 : t ≠ 1) : (tlC k true hard true f true f t).sample 48 = (errC (k.step 3) hard f, ⟨3, noFr, 12⟩) := by
  rw [sample_late rfl rfl]
  have e : (tlC k true hard true f true f t).err 12 = (errC (k.step 3) hard f, ⟨3, noFr, 12⟩) := by
    unfold Cs.err Cs.errCnt errC
    rw [if_neg (show ¬ (12 = 14 ∧ (tlC k true hard true f true f t).cnt.state = 2) by omega), if_pos (show (tlC k true hard true f true f t).sends = true from rfl)]
    rfl
  rw [← e]
  have ht' : (tlC k true hard true f true f t).tail = t := rfl
  unfold Cs.late
  rw [ht']
  have : t = 0 ∨ t = 2 ∨ t = 3 ∨ t = 4 ∨ t = 5 ∨ t = 6 ∨ t = 7 ∨ t = 8 ∨ t = 9 := by omega
  rcases this with rfl | rfl | rfl | rfl | rfl | rfl | rfl | rfl | rfl <;> rfl
theorem send_ack {k : Cn} {hard : Bool} {f : Fr} : (tlC k true hard true f true f 1).sample 49 = (errC (if k.state = 2 then k else k.step 3) hard f, ⟨3, noFr, 14⟩) := by
  rw [sample_late rfl rfl]
  have e : (tlC k true hard true f true f 1).err 14 = (errC (if k.state = 2 then k else k.step 3) hard f, ⟨3, noFr, 14⟩) := by
    unfold Cs.err Cs.errCnt errC
    have : (if 14 = 14 ∧ (tlC k true hard true f true f 1).cnt.state = 2 then (tlC k true hard true f true f 1).cnt else (tlC k true hard true f true f 1).cnt.step (if (tlC k true hard true f true f 1).sends = true then 3 else 4)) = if k.state = 2 then k else k.step 3 := by
      by_cases h : k.state = 2
      · rw [if_pos ⟨rfl, h⟩, if_pos h]; rfl
      · rw [if_neg (fun e => h e.2), if_neg h, if_pos (show (tlC k true hard true f true f 1).sends = true from rfl)]; rfl
    rw [this]
    rfl
  rw [← e]
  rfl
/-- a flag, and what lies behind it: state and number -/
def flP : Nat → Nat × Nat
  | 0 => (3, 0) | 1 => (3, 1) | 2 => (3, 2) | 3 => (3, 3) | 4 => (3, 4) | 5 => (3, 5) | 6 => (4, 0) | 7 => (5, 1) | 8 => (5, 2) | 9 => (5, 3) | 10 => (5, 4) | 11 => (5, 5) | 12 => (5, 6) | 13 => (5, 7) | 14 => (6, 0) | 15 => (6, 1) | _ => (6, 2)
def flagC (k : Cn) (was h has : Bool) (fr : Fr) (j : Nat) : Cs := bareC k (flP j).1 (flP j).2 was h has fr
theorem flag_next (k : Cn) (was h has : Bool) (fr : Fr) (j : Nat) (hj : j < 16) (b : UInt8) (hb : 6 ≤ j → b = 49) : (flagC k was h has fr j).sample b = (flagC k was h has fr (j + 1), ev0) := by
  have : j = 0 ∨ j = 1 ∨ j = 2 ∨ j = 3 ∨ j = 4 ∨ j = 5 ∨ j = 6 ∨ j = 7 ∨ j = 8 ∨ j = 9 ∨ j = 10 ∨ j = 11 ∨ j = 12 ∨ j = 13 ∨ j = 14 ∨ j = 15 := by omega
  rcases this with rfl | rfl | rfl | rfl | rfl | rfl | rfl | rfl | rfl | rfl | rfl | rfl | rfl | rfl | rfl | rfl
  · rfl
  · rfl
  · rfl
  · rfl
  · rfl
  · rfl
  all_goals (rw [hb (by omega)]; rfl)
theorem flag_end (k : Cn) (was h has : Bool) (fr : Fr) : (flagC k was h has fr 16).sample 49 = (bareC k (if was = true ∧ k.state = 2 then 7 else 1) 0 was h has fr, ev0) := rfl
theorem flag_drive (k : Cn) (was h has : Bool) (fr : Fr) (j : Nat) (hj : j < 17) : (flagC k was h has fr j).drive = if j < 6 ∧ h = true then 48 else 49 := by
  have : j = 0 ∨ j = 1 ∨ j = 2 ∨ j = 3 ∨ j = 4 ∨ j = 5 ∨ j = 6 ∨ j = 7 ∨ j = 8 ∨ j = 9 ∨ j = 10 ∨ j = 11 ∨ j = 12 ∨ j = 13 ∨ j = 14 ∨ j = 15 ∨ j = 16 := by omega
  rcases this with rfl | rfl | rfl | rfl | rfl | rfl | rfl | rfl | rfl | rfl | rfl | rfl | rfl | rfl | rfl | rfl | rfl <;> cases h <;> rfl
theorem flag_state (k : Cn) (was h has : Bool) (fr : Fr) (j : Nat) : (flagC k was h has fr j).state ≠ 8 ∧ (flagC k was h has fr j).state ≠ 2 := by
  show (flP j).1 ≠ 8 ∧ (flP j).1 ≠ 2
  unfold flP; split <;> exact ⟨by decide, by decide⟩
theorem sample_7 {c : Cs} (h : c.state = 7) (b : UInt8) : c.sample b = if b = 48 then (c.begin_ false, ev0) else if c.n + 1 = 8 then ({ c with state := 1, n := 0 }, ev0) else ({ c with n := c.n + 1 }, ev0) := by
  unfold Cs.sample
  rw [if_neg (by omega), if_neg (by omega), if_neg (by omega), if_neg (by omega), if_neg (by omega), if_neg (by omega), if_neg (by omega), if_pos h]
theorem hold_next (k : Cn) (was h has : Bool) (fr : Fr) (j : Nat) : (bareC k 7 j was h has fr).sample 49 = (if j + 1 = 8 then idleC k was h has fr else bareC k 7 (j + 1) was h has fr, ev0) := by
  rw [sample_7 rfl, if_neg (by decide)]
  have hn : (bareC k 7 j was h has fr).n = j := rfl
  rw [hn]
  by_cases e : j + 1 = 8
  · rw [if_pos e, if_pos e]; rfl
  · rw [if_neg e, if_neg e]; rfl
theorem runC_ones (p : Nat → Cs) : ∀ m, (∀ j, j < m → ((p j).sample 49).1 = p (j + 1)) → runC (p 0) (List.replicate m 49) = p m := by
  intro m
  induction m with
  | zero => intro _; rfl
  | succ m ih =>
    intro h
    rw [List.replicate_succ', runC_snoc, ih (fun j hj => h j (by omega)), h m (by omega)]
/-- an error, counted when active (CtlErrs) -/
theorem err_first (f : Fr) : errC (cn0.step 3) false f = flagC ⟨8, 0, false, 0⟩ true true true f 0 := rfl
theorem err_rest (f : Fr) : runC (flagC ⟨8, 0, false, 0⟩ true true true f 6) (List.replicate 11 49) = idleC ⟨8, 0, false, 0⟩ true true true f := by
  have := runC_ones (fun j => flagC ⟨8, 0, false, 0⟩ true true true f (6 + j)) 10 (fun j hj => by rw [flag_next _ _ _ _ _ _ (by omega) _ (fun _ => rfl)]; rfl)
  rw [show List.replicate 11 (49 : UInt8) = List.replicate 10 49 ++ [49] from rfl, runC_snoc, this]
  rfl

/-! ### a quiet bus (CtlQuiet) -/
def quietC (has : Bool) (f : Fr) (i : Nat) : Cs := if i < 11 then bareC cn0 0 i false false has f else idleC cn0 false false has f
theorem quiet_next (has : Bool) (f : Fr) (i : Nat) : (quietC has f i).sample 49 = (quietC has f (i + 1), ev0) := by
  by_cases h : i < 11
  · have : i = 0 ∨ i = 1 ∨ i = 2 ∨ i = 3 ∨ i = 4 ∨ i = 5 ∨ i = 6 ∨ i = 7 ∨ i = 8 ∨ i = 9 ∨ i = 10 := by omega
    rcases this with rfl | rfl | rfl | rfl | rfl | rfl | rfl | rfl | rfl | rfl | rfl <;> rfl
  · unfold quietC
    rw [if_neg h, if_neg (by omega)]; rfl
theorem quiet_drive (has : Bool) (f : Fr) (i : Nat) : (quietC has f i).drive = if has = true ∧ 11 ≤ i then 48 else 49 := by
  unfold quietC
  by_cases h : i < 11
  · rw [if_pos h, if_neg (by omega)]; rfl
  · rw [if_neg h, drive_idle]
    cases has
    · rfl
    · show (48 : UInt8) = _
      rw [if_pos ⟨rfl, by omega⟩]
theorem quiet_state (has : Bool) (f : Fr) (i : Nat) : (quietC has f i).state = if 11 ≤ i then 1 else 0 := by
  unfold quietC
  by_cases h : i < 11
  · rw [if_pos h, if_neg (by omega)]; rfl
  · rw [if_neg h, if_pos (by omega)]; rfl

/-! ### it goes off (CtlOff) -/
/-- alone on a bus; acks: what stands behind its stuffed bits is dominant -/
def nxB (acks : Bool) (c : Cs) : UInt8 := if acks = true ∧ c.state = 2 ∧ c.fin = true then 48 else c.drive
def nx (acks : Bool) (c : Cs) : Cs × Ev := c.sample (nxB acks c)
/-- behind i bits: and how many errors there were -/
def it (acks : Bool) (c : Cs) : Nat → Cs × Nat
  | 0 => (c, 0)
  | i + 1 => ((nx acks (it acks c i).1).1, (it acks c i).2 + if (nx acks (it acks c i).1).2.kind = 3 then 1 else 0)
theorem it_add (acks : Bool) (c : Cs) (m : Nat) : ∀ i, it acks c (m + i) = ((it acks (it acks c m).1 i).1, (it acks c m).2 + (it acks (it acks c m).1 i).2) := by
  intro i
  induction i with
  | zero => rfl
  | succ i ih =>
    show ((nx acks (it acks c (m + i)).1).1, (it acks c (m + i)).2 + if (nx acks (it acks c (m + i)).1).2.kind = 3 then 1 else 0) = ((nx acks (it acks (it acks c m).1 i).1).1, (it acks c m).2 + ((it acks (it acks c m).1 i).2 + if (nx acks (it acks (it acks c m).1 i).1).2.kind = 3 then 1 else 0))
    rw [ih]
    simp only [Nat.add_assoc]
theorem it_mono (acks : Bool) (c : Cs) (m i : Nat) : (it acks c m).2 ≤ (it acks c (m + i)).2 := by rw [it_add]; exact Nat.le_add_right _ _
/-- m bits lead from c to c', with e errors; Q holds at each of them -/
structure Seg (acks : Bool) (Q : Cs → Prop) (c : Cs) (m e : Nat) (c' : Cs) : Prop where
  at_ : it acks c m = (c', e)
  all : ∀ j, j < m → Q (it acks c j).1 ∧ (nx acks (it acks c j).1).2.kind ≠ 1
theorem Seg.zero (acks : Bool) (Q : Cs → Prop) (c : Cs) : Seg acks Q c 0 0 c := ⟨rfl, fun j h => by omega⟩
theorem Seg.trans {acks : Bool} {Q : Cs → Prop} {c c' c'' : Cs} {m e m' e' : Nat} (h : Seg acks Q c m e c') (h' : Seg acks Q c' m' e' c'') : Seg acks Q c (m + m') (e + e') c'' := by
  refine ⟨?_, fun j hj => ?_⟩
  · rw [it_add, h.at_, h'.at_]
  · by_cases hm : j < m
    · exact h.all j hm
    · obtain ⟨i, rfl⟩ : ∃ i, j = m + i := ⟨j - m, by omega⟩
      rw [it_add, h.at_]
      exact h'.all i (by omega)
theorem Seg.one {acks : Bool} {Q : Cs → Prop} {c c' : Cs} {v : Ev} (hq : Q c) (h : nx acks c = (c', v)) (h1 : v.kind ≠ 1) : Seg acks Q c 1 (if v.kind = 3 then 1 else 0) c' := by
  refine ⟨?_, fun j hj => ?_⟩
  · show ((nx acks c).1, 0 + if (nx acks c).2.kind = 3 then 1 else 0) = _
    rw [h, Nat.zero_add]
  · obtain rfl : j = 0 := by omega
    exact ⟨hq, by show (nx acks c).2.kind ≠ 1; rw [h]; exact h1⟩
theorem Seg.path {acks : Bool} {Q : Cs → Prop} (p : Nat → Cs) : ∀ m, (∀ j, j < m → Q (p j) ∧ nx acks (p j) = (p (j + 1), ev0)) → Seg acks Q (p 0) m 0 (p m) := by
  intro m
  induction m with
  | zero => intro _; exact Seg.zero _ _ _
  | succ m ih =>
    intro h
    exact (ih (fun j hj => h j (by omega))).trans (Seg.one (h m (by omega)).1 (h m (by omega)).2 (by decide))
/-- one try, up to the error -/
theorem try_seg {acks : Bool} {Q : Cs → Prop} {k : Cn} {was hard : Bool} {f : Fr} (hf : FrR f) (hQ : ∀ c : Cs, c.cnt = k → c.state < 8 → Q c) :
    ∃ m, m ≤ 152 ∧ Seg acks Q (idleC k was hard true f) m 1 (errC (if acks then k.step 3 else if k.state = 2 then k else k.step 3) hard f) := by
  have hl := stfF_length hf
  have h0 : sendC k was hard f 0 = idleC k was hard true f := by unfold sendC; rw [if_pos rfl]
  have hnf : ∀ j, j < (stfF f).length → ¬ (acks = true ∧ (sendC k was hard f j).state = 2 ∧ (sendC k was hard f j).fin = true) := by
    rintro j hj ⟨_, _, h3⟩
    by_cases e : j = 0
    · subst e; rw [h0] at h3; cases h3
    · rw [sendC_fr (by omega) hj] at h3
      have h3' : decide (j = (stfF f).length) = true := h3
      simp at h3'; omega
  have s1 : Seg acks Q (idleC k was hard true f) (stfF f).length 0 (sendC k was hard f (stfF f).length) := by
    rw [← h0]
    refine Seg.path (sendC k was hard f) _ (fun j hj => ⟨?_, ?_⟩)
    · by_cases e : j = 0
      · subst e; rw [h0]; exact hQ _ rfl (by show 1 < 8; omega)
      · rw [sendC_fr (by omega) hj]; exact hQ _ rfl (by show 2 < 8; omega)
    · unfold nx nxB
      rw [if_neg (hnf j hj), send_drive hf (by omega), bitsL_at hj]
      exact send_stuffed hf hj
  have e0 : sendC k was hard f (stfF f).length = tlC k true hard true f true f 0 := sendC_tl (t := 0) hf (by omega)
  rw [e0] at s1
  have hq : ∀ t, Q (tlC k true hard true f true f t) := fun t => hQ _ rfl (by show 2 < 8; omega)
  cases acks
  · have n0 : nx false (tlC k true hard true f true f 0) = (tlC k true hard true f true f 1, ev0) := by
      unfold nx nxB
      rw [if_neg (by simp), drive_tlS]
      exact tlC_next (.inl (by omega)) (fun _ => rfl) (fun e => by omega)
    have n1 : nx false (tlC k true hard true f true f 1) = (errC (if k.state = 2 then k else k.step 3) hard f, ⟨3, noFr, 14⟩) := by
      unfold nx nxB
      rw [if_neg (by simp), drive_tlS]
      exact send_ack
    exact ⟨(stfF f).length + 1 + 1, by omega, (s1.trans (Seg.one (hq 0) n0 (by decide))).trans (Seg.one (hq 1) n1 (by show 3 ≠ 1; omega))⟩
  · have n0 : nx true (tlC k true hard true f true f 0) = (errC (k.step 3) hard f, ⟨3, noFr, 12⟩) := by
      unfold nx nxB
      rw [if_pos ⟨rfl, rfl, rfl⟩]
      exact send_form (by omega) (by omega)
    exact ⟨(stfF f).length + 1, by omega, s1.trans (Seg.one (hq 0) n0 (by show 3 ≠ 1; omega))⟩
theorem nx_bare (acks : Bool) {c : Cs} (h : c.state ≠ 2) : nx acks c = c.sample c.drive := by
  unfold nx nxB; rw [if_neg (fun e => h e.2.1)]
/-- behind the error: the flag, and what lies behind it -/
theorem flag_seg {acks : Bool} {Q : Cs → Prop} {k : Cn} {f : Fr} (h : Bool) (hQ : ∀ c : Cs, c.cnt = k → c.state < 8 → Q c) : ∃ m, m ≤ 25 ∧ Seg acks Q (bareC k 3 0 true h true f) m 0 (idleC k true h true f) := by
  have s1 : Seg acks Q (bareC k 3 0 true h true f) 16 0 (flagC k true h true f 16) := by
    refine Seg.path (flagC k true h true f) 16 (fun j hj => ⟨hQ _ rfl ?_, ?_⟩)
    · show (flP j).1 < 8
      unfold flP; split <;> decide
    · rw [nx_bare _ (flag_state _ _ _ _ _ _).2, flag_drive _ _ _ _ _ _ (by omega)]
      exact flag_next _ _ _ _ _ _ hj _ (fun e => by rw [if_neg (by omega)])
  have s2 : nx acks (flagC k true h true f 16) = (bareC k (if true = true ∧ k.state = 2 then 7 else 1) 0 true h true f, ev0) := by
    rw [nx_bare _ (flag_state _ _ _ _ _ _).2, flag_drive _ _ _ _ _ _ (by omega), if_neg (fun e => by have := e.1; omega)]
    exact flag_end _ _ _ _ _
  by_cases hp : k.state = 2
  · have s2' : nx acks (flagC k true h true f 16) = (bareC k 7 0 true h true f, ev0) := by rw [s2, if_pos ⟨rfl, hp⟩]
    have s3 : Seg acks Q (bareC k 7 0 true h true f) 7 0 (bareC k 7 7 true h true f) := by
      refine Seg.path (fun j => bareC k 7 j true h true f) 7 (fun j hj => ⟨hQ _ rfl (by show 7 < 8; omega), ?_⟩)
      rw [nx_bare _ (by show 7 ≠ 2; omega)]
      have := hold_next k true h true f j
      rw [if_neg (by omega)] at this
      exact this
    have s4 : nx acks (bareC k 7 7 true h true f) = (idleC k true h true f, ev0) := by
      rw [nx_bare _ (by show 7 ≠ 2; omega)]
      have := hold_next k true h true f 7
      rw [if_pos rfl] at this
      exact this
    exact ⟨16 + 1 + 7 + 1, by omega, ((s1.trans (Seg.one (hQ _ rfl (by show 6 < 8; omega)) s2' (by decide))).trans s3).trans (Seg.one (hQ _ rfl (by show 7 < 8; omega)) s4 (by decide))⟩
  · have s2' : nx acks (flagC k true h true f 16) = (idleC k true h true f, ev0) := by rw [s2, if_neg (fun e => hp e.2)]; rfl
    exact ⟨16 + 1, by omega, s1.trans (Seg.one (hQ _ rfl (by show 6 < 8; omega)) s2' (by decide))⟩
end Go.Proofs.YtcaeobkaoebndaaGreat.B

namespace Go.Proofs.YtcaeobkaoebndaaGreat.B

abbrev cnT (t : Nat) : Cn := ⟨t, 0, false, 0⟩
theorem cnT_step {t : Nat} (h : t + 8 ≤ 255) : (cnT t).step 3 = cnT (t + 8) := by
  unfold Cn.step
  rw [if_neg (by simp), if_neg (by omega), if_neg (by omega), if_pos (.inl rfl), if_neg (by show ¬ 255 < t + 8; omega)]
theorem cnT_off {t : Nat} (h : 255 < t + 8) : (cnT t).step 3 = ⟨0, 0, true, 128⟩ := by
  unfold Cn.step
  rw [if_neg (by simp), if_neg (by omega), if_neg (by omega), if_pos (.inl rfl), if_pos (by show 255 < t + 8; omega)]
theorem cnT_state {t : Nat} : (cnT t).state = if 127 < t then 2 else 1 := by
  unfold Cn.state
  rw [if_neg (by simp)]
  by_cases h : 127 < t
  · rw [if_pos (.inl h), if_pos h]
  · rw [if_neg (by rintro (e | e); exact h e; exact absurd (show 127 < 0 from e) (by omega)), if_neg h]
theorem errC_on {t : Nat} {hard : Bool} {f : Fr} : errC (cnT t) hard f = bareC (cnT t) 3 0 true (decide ((cnT t).state = 1)) true f := by
  unfold errC; rw [if_neg (by simp)]
theorem Seg.pos {acks : Bool} {Q : Cs → Prop} {c c' : Cs} {m e : Nat} (h : Seg acks Q c m (e + 1) c') : 1 ≤ m := by
  rcases Nat.eq_zero_or_pos m with h0 | h0
  · subst h0
    have := h.at_
    have h2 : ((c, 0) : Cs × Nat).2 = (c', e + 1).2 := congrArg (·.2) this
    simp at h2
  · exact h0
theorem cyc_acks {Q : Cs → Prop} (hQ : ∀ c : Cs, c.state < 8 → Q c) {f : Fr} (hf : FrR f) {t : Nat} (ht : t + 8 ≤ 255) (was hard : Bool) :
    ∃ m h', m ≤ 177 ∧ Seg true Q (idleC (cnT t) was hard true f) m 1 (idleC (cnT (t + 8)) true h' true f) := by
  obtain ⟨m1, hm1, s1⟩ := try_seg (acks := true) (was := was) (hard := hard) hf (fun (c : Cs) (_ : c.cnt = cnT t) h => hQ c h)
  rw [if_pos rfl, cnT_step ht, errC_on] at s1
  obtain ⟨m2, hm2, s2⟩ := flag_seg (acks := true) (k := cnT (t + 8)) (f := f) (decide ((cnT (t + 8)).state = 1)) (fun (c : Cs) _ h => hQ c h)
  exact ⟨m1 + m2, _, by omega, s1.trans s2⟩
theorem acks_run {Q : Cs → Prop} (hQ : ∀ c : Cs, c.state < 8 → Q c) {f : Fr} (hf : FrR f) : ∀ j, j ≤ 31 → ∃ m was h', m ≤ 177 * j ∧ Seg true Q (idleC cn0 false false true f) m j (idleC (cnT (8 * j)) was h' true f) := by
  intro j
  induction j with
  | zero => intro _; exact ⟨0, false, false, by omega, Seg.zero _ _ _⟩
  | succ j ih =>
    intro hj
    obtain ⟨m, was, h', hm, s⟩ := ih (by omega)
    obtain ⟨m2, h2, hm2, s2⟩ := cyc_acks hQ hf (t := 8 * j) (by omega) was h'
    exact ⟨m + m2, true, h2, by omega, s.trans s2⟩
/-- told of nothing but errors, it is off behind 32 of them -/
theorem off_acks {f : Fr} (hf : FrR f) : ∃ m h, m ≤ 5664 ∧ Seg true (fun c => c.state ≠ 8) (idleC cn0 false false true f) m 32 (bareC ⟨0, 0, true, 128⟩ 8 0 true h true f) := by
  obtain ⟨m, was, h', hm, s⟩ := acks_run (Q := fun c => c.state ≠ 8) (fun c h => by show c.state ≠ 8; omega) hf 31 (by omega)
  obtain ⟨m1, hm1, s1⟩ := try_seg (acks := true) (was := was) (hard := h') (Q := fun c => c.state ≠ 8) hf (fun (c : Cs) (_ : c.cnt = cnT (8 * 31)) h => by show c.state ≠ 8; omega)
  rw [if_pos rfl, cnT_off (by omega)] at s1
  exact ⟨m + m1, h', by omega, s.trans s1⟩
theorem cyc_no {Q : Cs → Prop} {f : Fr} (hf : FrR f) {t : Nat} (ht : t ≤ 128) (h8 : t % 8 = 0) (hQ : ∀ c : Cs, (c.cnt = cnT t ∨ c.cnt = cnT (min (t + 8) 128)) → c.state < 8 → Q c) (was hard : Bool) :
    ∃ m h', m ≤ 177 ∧ Seg false Q (idleC (cnT t) was hard true f) m 1 (idleC (cnT (min (t + 8) 128)) true h' true f) := by
  obtain ⟨m1, hm1, s1⟩ := try_seg (acks := false) (was := was) (hard := hard) hf (fun (c : Cs) (hc : c.cnt = cnT t) h => hQ c (.inl hc) h)
  have e : (if (cnT t).state = 2 then cnT t else (cnT t).step 3) = cnT (min (t + 8) 128) := by
    rw [cnT_state]
    by_cases h : 127 < t
    · rw [if_pos h, if_pos rfl]
      congr 1; omega
    · rw [if_neg h, if_neg (by omega), cnT_step (by omega)]
      congr 1; omega
  rw [if_neg (by simp), e, errC_on] at s1
  obtain ⟨m2, hm2, s2⟩ := flag_seg (acks := false) (k := cnT (min (t + 8) 128)) (f := f) (decide ((cnT (min (t + 8) 128)).state = 1)) (fun (c : Cs) hc h => hQ c (.inr hc) h)
  exact ⟨m1 + m2, _, by omega, s1.trans s2⟩
theorem no_run {f : Fr} (hf : FrR f) : ∀ j, ∃ m was h', j ≤ m ∧ m ≤ 177 * j ∧ Seg false (fun c => c.state ≠ 8) (idleC cn0 false false true f) m j (idleC (cnT (min (8 * j) 128)) was h' true f) := by
  intro j
  induction j with
  | zero => exact ⟨0, false, false, by omega, by omega, Seg.zero _ _ _⟩
  | succ j ih =>
    obtain ⟨m, was, h', hm, hm', s⟩ := ih
    obtain ⟨m2, h2, hm2, s2⟩ := cyc_no (Q := fun c => c.state ≠ 8) hf (t := min (8 * j) 128) (by omega) (by omega) (fun c _ h => by show c.state ≠ 8; omega) was h'
    have := Seg.pos s2
    rw [show min (min (8 * j) 128 + 8) 128 = min (8 * (j + 1)) 128 by omega] at s2
    exact ⟨m + m2, true, h2, by omega, by omega, s.trans s2⟩
theorem no_late {f : Fr} (hf : FrR f) (was hard : Bool) : ∀ j, ∃ m was' h', j ≤ m ∧ Seg false (fun c => c.cnt = cnT 128) (idleC (cnT 128) was hard true f) m j (idleC (cnT 128) was' h' true f) := by
  intro j
  induction j with
  | zero => exact ⟨0, was, hard, by omega, Seg.zero _ _ _⟩
  | succ j ih =>
    obtain ⟨m, was1, h1, hm, s⟩ := ih
    obtain ⟨m2, h2, hm2, s2⟩ := cyc_no (Q := fun c => c.cnt = cnT 128) hf (t := 128) (by omega) (by omega) (fun c hc _ => by rcases hc with h | h <;> exact h) was1 h1
    have := Seg.pos s2
    exact ⟨m + m2, true, h2, by omega, s.trans s2⟩
/-- nobody tells that its frames came: it stays passive -/
theorem off_no {f : Fr} (hf : FrR f) : (∀ i, (it false (idleC cn0 false false true f) i).1.state ≠ 8 ∧ (nx false (it false (idleC cn0 false false true f) i).1).2.kind ≠ 1) ∧
    32 < (it false (idleC cn0 false false true f) 16000).2 ∧ (it false (idleC cn0 false false true f) 16000).1.cnt = cnT 128 := by
  refine ⟨fun i => ?_, ?_, ?_⟩
  · obtain ⟨m, was, h', hm, _, s⟩ := no_run hf (i + 1)
    exact s.all i (by omega)
  · obtain ⟨m, was, h', hm, hm', s⟩ := no_run hf 80
    have h2 := it_mono false (idleC cn0 false false true f) m (16000 - m)
    rw [show m + (16000 - m) = 16000 by omega, s.at_] at h2
    have h2' : 80 ≤ (it false (idleC cn0 false false true f) 16000).2 := h2
    omega
  · obtain ⟨m, was, h', hm, hm', s⟩ := no_run hf 16
    have e := it_add false (idleC cn0 false false true f) m (16000 - m)
    rw [show m + (16000 - m) = 16000 by omega, s.at_] at e
    rw [e]
    obtain ⟨m2, w2, h2, hm2, s2⟩ := no_late hf was h' (16000 - m + 1)
    exact (s2.all (16000 - m) (by omega)).1
/-- off, on a bus of recessive bits -/
def restC (h : Bool) (f : Fr) (i : Nat) : Cs := if i < 1408 then bareC ⟨0, 0, true, 128 - i / 11⟩ 8 (i % 11) true h true f else idleC cn0 true h true f
theorem sample_8 {c : Cs} (h : c.state = 8) (b : UInt8) : c.sample b = if b = 48 then ({ c with n := 0 }, ev0) else if c.n + 1 = 11 then ({ c with cnt := c.cnt.step 7, state := if (c.cnt.step 7).o = true then 8 else 1, n := 0 }, ev0) else ({ c with n := c.n + 1 }, ev0) := by
  unfold Cs.sample
  rw [if_neg (by omega), if_neg (by omega), if_neg (by omega), if_neg (by omega), if_neg (by omega), if_neg (by omega), if_neg (by omega), if_neg (by omega)]
theorem rest_next (h : Bool) (f : Fr) (i : Nat) (hi : i < 1408) : (restC h f i).sample 49 = (restC h f (i + 1), ev0) := by
  have e0 : restC h f i = bareC ⟨0, 0, true, 128 - i / 11⟩ 8 (i % 11) true h true f := by unfold restC; rw [if_pos hi]
  rw [e0, sample_8 rfl, if_neg (by decide)]
  have hn : (bareC ⟨0, 0, true, 128 - i / 11⟩ 8 (i % 11) true h true f).n = i % 11 := rfl
  rw [hn]
  by_cases e : i % 11 + 1 = 11
  · rw [if_pos e]
    have hk : (bareC ⟨0, 0, true, 128 - i / 11⟩ 8 (i % 11) true h true f).cnt.step 7 = if 128 - i / 11 ≤ 1 then cn0 else ⟨0, 0, true, 128 - i / 11 - 1⟩ := rfl
    rw [hk]
    by_cases e2 : i + 1 < 1408
    · rw [if_neg (show ¬ 128 - i / 11 ≤ 1 by omega)]
      unfold restC
      rw [if_pos e2, show (i + 1) / 11 = i / 11 + 1 by omega, show (i + 1) % 11 = 0 by omega, Nat.sub_sub]
      rfl
    · rw [if_pos (show 128 - i / 11 ≤ 1 by omega)]
      unfold restC
      rw [if_neg e2]
      rfl
  · rw [if_neg e]
    unfold restC
    rw [if_pos (by omega), show (i + 1) / 11 = i / 11 by omega, show (i + 1) % 11 = i % 11 + 1 by omega]
    rfl
theorem rest_drive (h : Bool) (f : Fr) (i : Nat) (hi : i < 1408) : (restC h f i).drive = 49 ∧ (restC h f i).state = 8 := by
  unfold restC; rw [if_pos hi]; exact ⟨rfl, rfl⟩
end Go.Proofs.YtcaeobkaoebndaaGreat.B

namespace Go.Proofs.YtcaeobkaoebndaaGreat.B

theorem head_field (f : Fr) : ∃ r, headL f = 48 :: (fieldL f ++ r) := by
  obtain ⟨t, ht⟩ : ∃ t, headL f = 48 :: t := ⟨_, by unfold headL preL; simp only [List.append_assoc]; rfl⟩
  have hf : ∃ m, fieldL f = t.take m := by
    unfold fieldL cutL
    rw [ht]
    cases f.ext
    · exact ⟨13, rfl⟩
    · exact ⟨32, rfl⟩
  obtain ⟨m, hm⟩ := hf
  exact ⟨t.drop m, by rw [ht, hm, List.take_append_drop]⟩
theorem fieldL_flen (f : Fr) : (fieldL f).length = flen f := fieldL_length f
/-- where they part -/
structure Part (f g : Fr) (j : Nat) : Prop where
  one : 1 ≤ j
  jf : j < (stfF f).length
  jg : j < (stfF g).length
  take : (stfF f).take j = (stfF g).take j
  mine : (stfF f)[j] = 49
  its : (stfF g)[j] = 48
  len : (stA f j).2.length ≤ flen f
  five : (stA f j).1.2 < 5
theorem stf_part (d : List UInt8) (hd : d.all okc = true) (c : UInt8) (q : List UInt8) {f : Fr} (h : sumL (headL f) = d ++ c :: q) :
    (stf d).2.length < (stfF f).length ∧ (stfF f).take (stf d).2.length = (stf d).2 ∧ (stfF f)[(stf d).2.length]? = some c ∧ stA f (stf d).2.length = ((stf d).1, d) := by
  have e : stfF f = (stf d).2 ++ stfR (stf d).1 (c :: q) := by unfold stfF; rw [h]; exact stf_front _ _
  have e2 : ∃ r, stfR (stf d).1 (c :: q) = c :: r := by
    unfold stfR; split
    · exact ⟨_, rfl⟩
    · exact ⟨_, rfl⟩
  obtain ⟨r, e2⟩ := e2
  rw [e2] at e
  have h2 : (stfF f).take (stf d).2.length = (stf d).2 := by rw [e]; simp
  refine ⟨by rw [e]; simp, h2, by rw [e]; simp, ?_⟩
  unfold stA
  rw [h2, ust_stf hd]; rfl
theorem part_of {f g : Fr} (h : lessL (fieldL g) (fieldL f) = true) : ∃ j, Part f g j := by
  unfold lessL at h
  cases hp : firstD (fieldL g) (fieldL f) with
  | none => rw [hp] at h; simp at h
  | some p =>
    rw [hp] at h
    obtain ⟨pg, pf, ht, hne⟩ := firstD_some hp
    simp only [beq_iff_eq] at h
    rw [List.getD_eq_getElem?_getD, List.getElem?_eq_getElem pg] at h
    have hg48 : (fieldL g)[p] = 48 := h
    have hf49 : (fieldL f)[p] = 49 := by
      rcases okc_cases (List.all_eq_true.1 (fieldL_all f) _ (List.getElem_mem pf)) with e | e
      · exact absurd (hg48.trans e.symm) hne
      · exact e
    obtain ⟨rf, ef⟩ := head_field f
    obtain ⟨rg, eg⟩ := head_field g
    have sf : ∃ q, sumL (headL f) = (48 :: (fieldL f).take p) ++ 49 :: q := by
      obtain ⟨z, hz⟩ : ∃ z, sumL (headL f) = headL f ++ z := ⟨_, rfl⟩
      refine ⟨(fieldL f).drop (p + 1) ++ rf ++ z, ?_⟩
      rw [hz, ef]
      have := List.take_append_drop p (fieldL f)
      rw [List.drop_eq_getElem_cons pf, hf49] at this
      conv => lhs; rw [← this]
      simp
    have sg : ∃ q, sumL (headL g) = (48 :: (fieldL f).take p) ++ 48 :: q := by
      obtain ⟨z, hz⟩ : ∃ z, sumL (headL g) = headL g ++ z := ⟨_, rfl⟩
      refine ⟨(fieldL g).drop (p + 1) ++ rg ++ z, ?_⟩
      rw [hz, eg]
      have := List.take_append_drop p (fieldL g)
      rw [List.drop_eq_getElem_cons pg, hg48, ht] at this
      conv => lhs; rw [← this]
      simp
    obtain ⟨qf, sf⟩ := sf
    obtain ⟨qg, sg⟩ := sg
    have hd : (48 :: (fieldL f).take p).all okc = true := by
      rw [List.all_cons, all_take (fieldL_all f)]; rfl
    obtain ⟨f1, f2, f3, f4⟩ := stf_part _ hd _ _ sf
    obtain ⟨g1, g2, g3, g4⟩ := stf_part _ hd _ _ sg
    have hlen := (stf_length hd).1
    refine ⟨(stf (48 :: (fieldL f).take p)).2.length, ?_, f1, g1, f2.trans g2.symm, ?_, ?_, ?_, ?_⟩
    · simp only [List.length_cons] at hlen; omega
    · rw [List.getElem?_eq_getElem f1] at f3; exact Option.some.inj f3
    · rw [List.getElem?_eq_getElem g1] at g3; exact Option.some.inj g3
    · rw [f4]
      show (48 :: (fieldL f).take p).length ≤ flen f
      rw [List.length_cons, List.length_take, ← fieldL_flen]
      omega
    · rw [f4]
      have := stf_le hd
      show (stf (48 :: (fieldL f).take p)).1.2 < 5
      omega
theorem Part.st {f g : Fr} {j : Nat} (P : Part f g j) {i : Nat} (hi : i ≤ j) : stA f i = stA g i := by
  unfold stA
  have : (stfF f).take i = (stfF g).take i := by
    have h1 : ((stfF f).take j).take i = (stfF f).take i := by rw [List.take_take, Nat.min_eq_left hi]
    have h2 : ((stfF g).take j).take i = (stfF g).take i := by rw [List.take_take, Nat.min_eq_left hi]
    rw [← h1, ← h2, P.take]
  rw [this]
theorem Part.bit {f g : Fr} {j : Nat} (P : Part f g j) {i : Nat} (hi : i < j) : (stfF f)[i]'(by have := P.jf; omega) = (stfF g)[i]'(by have := P.jg; omega) := by
  have h1 : ((stfF f).take j)[i]? = ((stfF g).take j)[i]? := by rw [P.take]
  rw [List.getElem?_take, List.getElem?_take, if_pos hi, if_pos hi, List.getElem?_eq_getElem (by have := P.jf; omega), List.getElem?_eq_getElem (by have := P.jg; omega)] at h1
  exact Option.some.inj h1
/-- it loses there, and goes on as one that listens -/
theorem lose_at {k : Cn} {was hard : Bool} {f g : Fr} (hg : FrR g) {j : Nat} (P : Part f g j) : (sendC k was hard f j).sample 48 = (frC k false hard true f false g (j + 1), ⟨4, noFr, 0⟩) := by
  rw [sendC_fr P.one P.jf]
  have hne : decide (j = (stfF f).length) = false := by have := P.jf; simp; omega
  rw [sample_mid rfl hne]
  have hd : (frC k true hard true f true f j).drive = 49 := by rw [drive_frS P.jf]; exact P.mine
  unfold Cs.mid
  rw [hd, if_pos ⟨rfl, by decide⟩, if_pos ⟨rfl, P.len, P.five⟩]
  have e : (frC k true hard true f true f j).lose = frC k false hard true f false g j := by
    unfold frC Cs.lose
    have h1 : decide (j = (stfF g).length) = false := by have := P.jg; simp; omega
    simp only [hne, h1, P.st (Nat.le_refl j)]
    rfl
  rw [e, ← P.its]
  exact frC_stuffed hg P.jg true
/-- behind i bits -/
def loseC (k : Cn) (hard : Bool) (f g : Fr) (j i : Nat) : Cs := if i ≤ j then sendC k false hard f i else comeC k false hard true f g i
theorem lose_next {k : Cn} {hard : Bool} {f g : Fr} (hf : FrR f) (hg : FrR g) {j : Nat} (P : Part f g j) {i : Nat} (hi : i < (stfF g).length + 10) :
    (loseC k hard f g j i).sample ((ackL g)[i]'(by rw [ackL_length]; omega)) = (loseC k hard f g j (i + 1), if i = j then ⟨4, noFr, 0⟩ else if i = (stfF g).length + 8 then ⟨2, g, 0⟩ else ev0) := by
  have hj := P.jg
  unfold loseC
  by_cases h1 : i < j
  · rw [if_pos (by omega), if_pos (by omega), if_neg (by omega), if_neg (by omega), ackL_at (by omega), ← P.bit h1]
    exact send_stuffed hf (by have := P.jf; omega)
  · by_cases h2 : i = j
    · subst h2
      rw [if_pos (Nat.le_refl _), if_neg (by omega), if_pos rfl, ackL_at hj, P.its, lose_at hg P]
      by_cases h3 : i + 1 < (stfF g).length
      · rw [comeC_fr (by omega) h3]
      · have e : i + 1 = (stfF g).length + 0 := by omega
        rw [e, comeC_tl hg (by omega), Nat.add_zero, frC_end]
    · rw [if_neg (by omega), if_neg (by omega), if_neg h2]
      exact come_next hg (by omega) hi
theorem lose_drive {k : Cn} {hard : Bool} {f g : Fr} (hf : FrR f) (hg : FrR g) {j : Nat} (P : Part f g j) {i : Nat} (hi : i < (stfF g).length + 10) :
    (loseC k hard f g j i).drive = if i ≤ j then (bitsL f).getD i 49 else if i = (stfF g).length + 1 then 48 else 49 := by
  unfold loseC
  by_cases h1 : i ≤ j
  · rw [if_pos h1, if_pos h1]
    exact send_drive hf (by have := P.jf; omega)
  · rw [if_neg h1, if_neg h1]
    exact come_drive hg hi
end Go.Proofs.YtcaeobkaoebndaaGreat.B

namespace Go.Proofs.YtcaeobkaoebndaaGreat.B

/-- so many bits at least to the next frame -/
def phi (s n : Nat) : Nat := if s = 3 then 16 - n else if s = 4 then 10 else if s = 5 then 10 - n else if s = 6 then 2 - n else 0
/-- how it stands to the bits since the frame began -/
def InFr (c : Cs) (w : List UInt8) : Prop :=
  (c.fin = false → ust w = some (c.st, c.got)) ∧ (c.fin = true → ∃ p q, w = p ++ q ∧ ust p = some (c.st, c.got) ∧ q.length = c.tail)
/-- one that only listens, behind i bits of W, which came to it when it was idle -/
structure Lst (W : List UInt8) (i : Nat) (c : Cs) : Prop where
  rt : RightM c
  was : c.was = false
  has : c.has = false
  on : c.cnt.o = false
  s0 : c.state ≠ 0
  bare : c.state ≠ 2 → (i = 0 ∧ c.state = 1) ∨ 13 ≤ i + phi c.state c.n
  frm : c.state = 2 → c.sends = false ∧ ∃ b0, b0 < i ∧ (b0 = 0 ∨ 13 ≤ b0) ∧ InFr c ((W.take i).drop b0)
theorem step_on {k : Cn} (h : k.o = false) (j : Nat) (hj : j = 2 ∨ j = 4 ∨ j = 6) : (k.step j).o = false := by
  unfold Cn.step
  rw [if_neg (by rw [h]; simp)]
  rcases hj with rfl | rfl | rfl <;> rfl
theorem lst_bare {W : List UInt8} {i : Nat} {k : Cn} {s n : Nat} {hard : Bool} (hr : RightM (bareC k s n false hard false noFr)) (ho : k.o = false) (h0 : s ≠ 0) (h2 : s ≠ 2) (hp : 13 ≤ i + phi s n) : Lst W i (bareC k s n false hard false noFr) :=
  ⟨hr, rfl, rfl, ho, h0, fun _ => .inr hp, fun e => absurd e h2⟩
theorem w_next {W : List UInt8} {i b0 : Nat} (hi : i < W.length) (hb : b0 ≤ i) : (W.take (i + 1)).drop b0 = (W.take i).drop b0 ++ [W[i]] := by
  have e : W.take (i + 1) = W.take i ++ [W[i]] := by simp
  rw [e, List.drop_append_of_le_length (by rw [List.length_take]; omega)]
theorem w_length {W : List UInt8} {i b0 : Nat} (hi : i ≤ W.length) : ((W.take i).drop b0).length = i - b0 := by
  rw [List.length_drop, List.length_take]; omega
theorem err_lst {W : List UInt8} {i : Nat} {c : Cs} (h : Lst W i c) (h2 : c.state = 2) (e : Nat) : Lst W (i + 1) (c.err e).1 := by
  have hs := (h.frm h2).1
  have hr := err_right h.rt e
  have hk : (c.errCnt e).o = false := by
    unfold Cs.errCnt; split
    · exact h.on
    · rw [hs, if_neg (by simp)]; exact step_on h.on 4 (by omega)
  have hf := h.rt.hasn h.has
  unfold Cs.err at hr ⊢
  simp only [hk] at hr ⊢
  rw [if_neg (by simp)] at hr ⊢
  rw [hs, h.has, hf] at hr ⊢
  exact lst_bare hr hk (by omega) (by omega) (by unfold phi; rw [if_pos rfl]; omega)
theorem begin_lst {W : List UInt8} {i : Nat} {c : Cs} (h : Lst W i c) (h2 : c.state ≠ 2) (hp : phi c.state c.n = 0) (hi : i < W.length) (hb : W[i] = 48) : Lst W (i + 1) (c.begin_ false) := by
  refine ⟨begin_right h.rt h.on false (fun e => by cases e), rfl, h.has, h.on, (by show 2 ≠ 0; omega), fun e => absurd rfl e, fun _ => ⟨rfl, i, by omega, ?_, ?_⟩⟩
  · have := h.bare h2; rw [hp] at this; omega
  · rw [w_next hi (Nat.le_refl i), List.drop_of_length_le (by rw [List.length_take]; omega), List.nil_append, hb]
    exact ⟨fun _ => rfl, fun e => by cases (show false = true from e)⟩
theorem got_15 {c : Cs} (F : FrameM c) (hf : c.fin = true) : 15 ≤ c.got.length := by
  have := F.fin
  rw [hf] at this
  have h := this.symm
  unfold stopB at h
  simp only [decide_eq_true_eq] at h
  omega
theorem adv_lst {W : List UInt8} {i : Nat} {c : Cs} (h : Lst W i c) (h2 : c.state = 2) (hf : c.fin = true) (hi : i < W.length) (hr : RightM c.adv) (k : Cn) (hk : k.o = false) (hkm : k.may) : Lst W (i + 1) { c.adv with cnt := k } := by
  obtain ⟨hs, b0, h1, h3, h4⟩ := h.frm h2
  refine ⟨⟨hkm, hr.st8, ⟨fun e => absurd (show c.state = 8 from e) (by omega), fun e => by rw [show k.o = true from e] at hk; cases hk⟩, hr.num, hr.has, hr.hasn, hr.bare, fun _ => ?_⟩, h.was, h.has, hk, h.s0, fun e => absurd h2 e, fun _ => ⟨hs, b0, by omega, h3, ?_⟩⟩
  · have G := hr.frm h2
    exact ⟨G.all, G.head, G.fit, G.size, G.may, G.one, G.fin, G.good, G.tail, G.tail0, G.late, G.sendsN, G.sendsY, G.going, G.gone⟩
  · obtain ⟨p, q, e1, e2, e3⟩ := h4.2 hf
    refine ⟨(fun e => by rw [show c.fin = false from e] at hf; cases hf), fun _ => ⟨p, q ++ [W[i]], ?_, e2, ?_⟩⟩
    · rw [w_next hi (by omega), e1, List.append_assoc]
    · rw [List.length_append, e3]; rfl
theorem stuffed_lst {W : List UInt8} {i : Nat} {c : Cs} (h : Lst W i c) (h2 : c.state = 2) (hf : c.fin = false) (hi : i < W.length) (hb : okc W[i] = true) : Lst W (i + 1) (c.stuffed false W[i]).1 := by
  obtain ⟨hs, b0, h1, h3, h4⟩ := h.frm h2
  have hr := stuffed_right h.rt h2 hf false hb (fun e => by rw [hs] at e; cases e)
  have hu := h4.1 hf
  have hu2 : kind c.st (W[i]).toNat ≠ 3 → ust ((W.take (i + 1)).drop b0) = some (kn c.st (W[i]).toNat, nextB c.st c.got W[i]) := by
    intro h3'
    rw [w_next hi (by omega), ust_snoc, hu]
    unfold uStep nextB
    simp only
    rw [if_neg h3']
  unfold Cs.stuffed at hr ⊢
  split
  · exact err_lst h h2 10
  · rename_i k3
    rw [if_neg k3] at hr
    split
    · exact err_lst h h2 12
    · rename_i k12
      rw [if_neg k12] at hr
      refine ⟨hr, h.was, h.has, h.on, h.s0, fun e => absurd h2 e, fun _ => ⟨hs, b0, by omega, h3, fun _ => hu2 k3, fun _ => ⟨_, [], (List.append_nil _).symm, hu2 k3, rfl⟩⟩⟩
theorem late_lst {W : List UInt8} {i : Nat} {c : Cs} (h : Lst W i c) (h2 : c.state = 2) (hf : c.fin = true) (hi : i < W.length) : Lst W (i + 1) (c.late W[i]).1 := by
  obtain ⟨hs, b0, h1, h3, h4⟩ := h.frm h2
  have F := h.rt.frm h2
  have ha : ∀ hr : RightM c.adv, Lst W (i + 1) c.adv := fun hr => adv_lst h h2 hf hi hr c.cnt h.on h.rt.cnt
  have hR := (late_right h.rt h2 hf W[i]).1
  have hfn := h.rt.hasn h.has
  have hlen : 24 ≤ i ∨ c.tail ≠ 9 := by
    by_cases e : c.tail = 9
    · obtain ⟨p, q, e1, e2, e3⟩ := h4.2 hf
      have l1 := w_length (W := W) (i := i) (b0 := b0) (by omega)
      rw [e1, List.length_append, e3, e] at l1
      have := got_15 F hf
      have hp : c.got.length ≤ p.length := by
        have hpa : p.all okc = true ∨ True := .inr trivial
        clear hpa
        have : ∀ (l : List UInt8) x d, ust l = some (x, d) → d.length ≤ l.length := by
          refine snoc_ind ?_ ?_
          · intro x d e; rw [ust_nil] at e; cases e; exact Nat.le_refl _
          · intro l c' ih x d e
            rw [ust_snoc] at e
            cases hu : ust l with
            | none => rw [hu] at e; cases e
            | some z =>
              obtain ⟨x', d'⟩ := z
              rw [hu] at e
              unfold uStep at e
              simp only at e
              split at e
              · cases e
              · have hd := ih x' d' hu
                have : d = if kind x' c'.toNat = 1 then d' ++ [c'] else d' := by cases e; rfl
                rw [this, List.length_append]
                split
                · rw [List.length_append]; simp only [List.length_cons, List.length_nil]; omega
                · simp only [List.length_cons, List.length_nil]; omega
        exact this p _ _ e2
      left; omega
    · exact .inr e
  unfold Cs.late at hR ⊢
  split
  · rename_i t0
    rw [if_pos t0] at hR
    split
    · exact err_lst h h2 12
    · rename_i b1; rw [if_neg b1] at hR; exact ha hR
  · rename_i t0
    rw [if_neg t0] at hR
    split
    · rename_i t1
      rw [if_pos t1] at hR
      split
      · exact err_lst h h2 14
      · rename_i b1; rw [if_neg b1] at hR; exact ha hR
    · rename_i t1
      rw [if_neg t1] at hR
      split
      · rename_i t2
        rw [if_pos t2] at hR
        split
        · exact err_lst h h2 12
        · rename_i b1
          rw [if_neg b1] at hR
          split
          · exact err_lst h h2 11
          · rename_i b2; rw [if_neg b2] at hR; exact ha hR
      · rename_i t2
        rw [if_neg t2] at hR
        split
        · rename_i t3
          rw [if_pos t3] at hR
          split
          · exact err_lst h h2 12
          · rename_i b1; rw [if_neg b1] at hR; exact ha hR
        · rename_i t3
          rw [if_neg t3] at hR
          split
          · rename_i t8
            rw [if_pos t8] at hR
            split
            · exact err_lst h h2 12
            · rename_i b1
              rw [if_neg b1] at hR
              have hadv := adv_right h.rt h2 hf (by omega) (fun _ e => F.late (by omega) e)
              rw [if_neg (by rw [hs]; simp)]
              exact adv_lst h h2 hf hi hadv _ (step_on h.on 2 (by omega)) (Cn.may_step h.rt.cnt 2)
          · rename_i t8
            rw [if_neg t8] at hR
            have h9 : c.tail = 9 := by have := F.tail; omega
            split
            · rename_i b1
              rw [if_pos b1] at hR
              rw [if_neg (by rw [hs]; simp)] at hR ⊢
              rw [h.was, h.has, hfn] at hR ⊢
              exact lst_bare hR h.on (by omega) (by omega) (by unfold phi; rw [if_pos rfl]; omega)
            · rename_i b1
              rw [if_neg b1] at hR
              rw [if_neg (by rw [hs]; simp)] at hR ⊢
              rw [h.was, h.has, hfn] at hR ⊢
              exact lst_bare hR h.on (by omega) (by omega) (by unfold phi; omega)
theorem sample_1 {c : Cs} (h : c.state = 1) (b : UInt8) : c.sample b = if b = 48 then (c.begin_ c.has, ev0) else (c, ev0) := by
  unfold Cs.sample
  rw [if_neg (by omega), if_pos h]
theorem sample_3 {c : Cs} (h : c.state = 3) (b : UInt8) : c.sample b = if c.n + 1 = 6 then ({ c with state := 4, n := 0 }, ev0) else ({ c with n := c.n + 1 }, ev0) := by
  unfold Cs.sample
  rw [if_neg (by omega), if_neg (by omega), if_neg (by omega), if_pos h]
theorem sample_4 {c : Cs} (h : c.state = 4) (b : UInt8) : c.sample b = (c.echo b, ev0) := by
  unfold Cs.sample
  rw [if_neg (by omega), if_neg (by omega), if_neg (by omega), if_neg (by omega), if_pos h]
theorem sample_5 {c : Cs} (h : c.state = 5) (b : UInt8) : c.sample b = if b = 48 then ({ c with state := 3, n := 0 }, ev0) else if c.n + 1 = 8 then ({ c with state := 6, n := 0 }, ev0) else ({ c with n := c.n + 1 }, ev0) := by
  unfold Cs.sample
  rw [if_neg (by omega), if_neg (by omega), if_neg (by omega), if_neg (by omega), if_neg (by omega), if_pos h]
theorem sample_6 {c : Cs} (h : c.state = 6) (b : UInt8) : c.sample b = if b = 48 then (if c.n = 2 then (c.begin_ false, ev0) else ({ c with state := 3, n := 0, hard := true }, ev0)) else if c.n + 1 = 3 then ({ c with state := if c.was = true ∧ c.cnt.state = 2 then 7 else 1, n := 0 }, ev0) else ({ c with n := c.n + 1 }, ev0) := by
  unfold Cs.sample
  rw [if_neg (by omega), if_neg (by omega), if_neg (by omega), if_neg (by omega), if_neg (by omega), if_neg (by omega), if_pos h]
theorem lst_mk {W : List UInt8} {i : Nat} {k : Cn} {s n : Nat} {hard : Bool} (hk : k.may) (ho : k.o = false) (h0 : s ≠ 0) (h2 : s ≠ 2) (h8 : s < 8) (hn : NOk s n) (hp : 13 ≤ i + phi s n) : Lst W i (bareC k s n false hard false noFr) :=
  lst_bare (bareC_right hk (by omega) h2 ⟨by omega, fun e => by rw [ho] at e; cases e⟩ hn (fun e => by cases e) (fun _ => rfl)) ho h0 h2 hp
theorem bare_lst {W : List UInt8} {i : Nat} {k : Cn} {s n : Nat} {hard : Bool} (h : Lst W i (bareC k s n false hard false noFr)) (h2 : s ≠ 2) (hi : i < W.length) (hW : W.head? = some 48) : Lst W (i + 1) ((bareC k s n false hard false noFr).sample W[i]).1 := by
  have hk : k.may := h.rt.cnt
  have h8 : s ≤ 8 := h.rt.st8
  have h0 : s ≠ 0 := h.s0
  have ho : k.o = false := h.on
  have h88 : s ≠ 8 := fun e => by have := h.rt.off.1 e; rw [show k.o = true from this] at ho; cases ho
  have hp : (i = 0 ∧ s = 1) ∨ 13 ≤ i + phi s n := h.bare h2
  have hn : NOk s n := h.rt.num
  obtain ⟨n0, n1, n3, n4, n5, n6, n7⟩ := hn
  have hcn : (bareC k s n false hard false noFr).n = n := rfl
  have h0b : i = 0 → W[i] = 48 := by
    intro e
    subst e
    cases W with
    | nil => simp at hi
    | cons a r => simp at hW; simpa using hW
  have hs : s = 1 ∨ s = 3 ∨ s = 4 ∨ s = 5 ∨ s = 6 ∨ s = 7 := by omega
  rcases hs with rfl | rfl | rfl | rfl | rfl | rfl
  · rw [sample_1 rfl]
    split
    · rename_i b1
      exact begin_lst h (by show 1 ≠ 2; omega) rfl hi b1
    · rename_i b1
      have : i ≠ 0 := fun e => b1 (h0b e)
      have hp' : phi 1 n = 0 := rfl
      exact lst_mk (k := k) (s := 1) (n := n) hk ho (by omega) (by omega) (by omega) (by unfold NOk; omega) (by rw [hp'] at hp ⊢; omega)
  · rw [sample_3 rfl]
    rw [hcn]
    have hp' : phi 3 n = 16 - n := rfl
    have := n3 rfl
    split
    · rename_i b1
      exact lst_mk (k := k) (s := 4) (n := 0) hk ho (by omega) (by omega) (by omega) (by unfold NOk; omega) (by rw [show phi 4 0 = 10 from rfl]; omega)
    · rename_i b1
      exact lst_mk (k := k) (s := 3) (n := n + 1) hk ho (by omega) (by omega) (by omega) (by unfold NOk; omega) (by rw [show phi 3 (n + 1) = 16 - (n + 1) from rfl]; omega)
  · rw [sample_4 rfl]
    have hp' : phi 4 n = 10 := rfl
    have hp2 : 13 ≤ i + 10 := by omega
    have hwas : (bareC k 4 n false hard false noFr).was = false := rfl
    unfold Cs.echo
    simp only [hwas]
    split
    · rename_i b1
      exact lst_mk (k := k) (s := 5) (n := 1) hk ho (by omega) (by omega) (by omega) (by unfold NOk; omega) (by rw [show phi 5 1 = 9 from rfl]; omega)
    · rename_i b1
      split
      · rename_i b2
        exact lst_mk (k := k.step 6) (s := 4) (n := 1) (Cn.may_step hk 6) (step_on ho 6 (by omega)) (by omega) (by omega) (by omega) (by unfold NOk; omega) (by rw [show phi 4 1 = 10 from rfl]; omega)
      · rename_i b2
        have h6 : (k.step 6).o = false := step_on ho 6 (by omega)
        have hcnt : (bareC k 4 n false hard false noFr).cnt = k := rfl
        simp only [hcnt]
        split
        · rename_i b3
          rw [if_neg (show ¬ (k.step (if false = true then 5 else 6)).o = true by rw [if_neg (by simp), h6]; simp)]
          exact lst_mk (k := k.step 6) (s := 4) (n := min (n + 1) 1000000000) (Cn.may_step hk 6) h6 (by omega) (by omega) (by omega) (by unfold NOk; omega) (by rw [show phi 4 (min (n + 1) 1000000000) = 10 from rfl]; omega)
        · rename_i b3
          exact lst_mk (k := k) (s := 4) (n := min (n + 1) 1000000000) hk ho (by omega) (by omega) (by omega) (by unfold NOk; omega) (by rw [show phi 4 (min (n + 1) 1000000000) = 10 from rfl]; omega)
  · rw [sample_5 rfl]
    rw [hcn]
    have hp' : phi 5 n = 10 - n := rfl
    have := n5 rfl
    split
    · rename_i b1
      exact lst_mk (k := k) (s := 3) (n := 0) hk ho (by omega) (by omega) (by omega) (by unfold NOk; omega) (by rw [show phi 3 0 = 16 from rfl]; omega)
    · rename_i b1
      split
      · rename_i b2
        exact lst_mk (k := k) (s := 6) (n := 0) hk ho (by omega) (by omega) (by omega) (by unfold NOk; omega) (by rw [show phi 6 0 = 2 from rfl]; omega)
      · rename_i b2
        exact lst_mk (k := k) (s := 5) (n := n + 1) hk ho (by omega) (by omega) (by omega) (by unfold NOk; omega) (by rw [show phi 5 (n + 1) = 10 - (n + 1) from rfl]; omega)
  · rw [sample_6 rfl]
    have hp' : phi 6 n = 2 - n := rfl
    have hn6 := n6 rfl
    have hwas : (bareC k 6 n false hard false noFr).was = false := rfl
    rw [if_neg (show ¬ ((bareC k 6 n false hard false noFr).was = true ∧ (bareC k 6 n false hard false noFr).cnt.state = 2) by rw [hwas]; simp)]
    rw [hcn]
    split
    · rename_i b1
      split
      · rename_i b2
        exact begin_lst h (by show 6 ≠ 2; omega) (by show phi 6 n = 0; rw [hp', b2]) hi b1
      · rename_i b2
        exact lst_mk (k := k) (s := 3) (n := 0) hk ho (by omega) (by omega) (by omega) (by unfold NOk; omega) (by rw [show phi 3 0 = 16 from rfl]; omega)
    · rename_i b1
      split
      · rename_i b2
        exact lst_mk (k := k) (s := 1) (n := 0) hk ho (by omega) (by omega) (by omega) (by unfold NOk; omega) (by rw [show phi 1 0 = 0 from rfl]; omega)
      · rename_i b2
        exact lst_mk (k := k) (s := 6) (n := n + 1) hk ho (by omega) (by omega) (by omega) (by unfold NOk; omega) (by rw [show phi 6 (n + 1) = 2 - (n + 1) from rfl]; omega)
  · rw [sample_7 rfl]
    rw [hcn]
    have hp' : phi 7 n = 0 := rfl
    split
    · rename_i b1
      exact begin_lst h (by show 7 ≠ 2; omega) rfl hi b1
    · rename_i b1
      split
      · rename_i b2
        exact lst_mk (k := k) (s := 1) (n := 0) hk ho (by omega) (by omega) (by omega) (by unfold NOk; omega) (by rw [show phi 1 0 = 0 from rfl]; omega)
      · rename_i b2
        exact lst_mk (k := k) (s := 7) (n := n + 1) hk ho (by omega) (by omega) (by omega) (by unfold NOk; omega) (by rw [show phi 7 (n + 1) = 0 from rfl]; omega)
theorem next_lst {W : List UInt8} {i : Nat} {c : Cs} (h : Lst W i c) (hi : i < W.length) (hW : W.head? = some 48) (ha : W.all okc = true) : Lst W (i + 1) (c.sample W[i]).1 := by
  have hb : okc W[i] = true := List.all_eq_true.1 ha _ (List.getElem_mem hi)
  by_cases h2 : c.state = 2
  · cases hf : c.fin
    · rw [sample_mid h2 hf]
      unfold Cs.mid
      rw [if_neg (by rw [(h.frm h2).1]; simp)]
      exact stuffed_lst h h2 hf hi hb
    · rw [sample_late h2 hf]
      exact late_lst h h2 hf hi
  · have e := bare_eq (h.rt.bare h2)
    rw [h.was, h.has, h.rt.hasn h.has] at e
    rw [e] at h ⊢
    exact bare_lst h h2 hi hW
theorem idle_lst (W : List UInt8) (hard : Bool) : Lst W 0 (idleC cn0 false hard false noFr) :=
  ⟨bareC_right cn0_may (by omega) (by omega) ⟨by omega, fun e => by cases e⟩ (by unfold NOk; omega) (fun e => by cases e) (fun _ => rfl), rfl, rfl, rfl, by show 1 ≠ 0; omega, fun _ => .inl ⟨rfl, rfl⟩, fun e => by have : (1 : Nat) = 2 := e; omega⟩
theorem run_lst {W : List UInt8} (hW : W.head? = some 48) (ha : W.all okc = true) (hard : Bool) : ∀ i, i ≤ W.length → Lst W i (runC (idleC cn0 false hard false noFr) (W.take i)) := by
  intro i
  induction i with
  | zero => intro _; exact idle_lst W hard
  | succ i ih =>
    intro hi
    have e : W.take (i + 1) = W.take i ++ [W[i]] := by simp
    rw [e, runC_snoc]
    exact next_lst (ih (by omega)) (by omega) hW ha
theorem bare_ev {k : Cn} {s n : Nat} {was hard has : Bool} {fr : Fr} (h2 : s ≠ 2) (h0 : s ≠ 0) (h8 : s < 8) (b : UInt8) : ((bareC k s n was hard has fr).sample b).2 = ev0 := by
  have hs : s = 1 ∨ s = 3 ∨ s = 4 ∨ s = 5 ∨ s = 6 ∨ s = 7 := by omega
  rcases hs with rfl | rfl | rfl | rfl | rfl | rfl
  · rw [sample_1 rfl]; split <;> rfl
  · rw [sample_3 rfl]; split <;> rfl
  · rw [sample_4 rfl]
  · rw [sample_5 rfl]; split
    · rfl
    · split <;> rfl
  · rw [sample_6 rfl]; split
    · split <;> rfl
    · split <;> rfl
  · rw [sample_7 rfl]; split
    · rfl
    · split <;> rfl
theorem stuffed_kind (c : Cs) (b : UInt8) : (c.stuffed false b).2.kind ≠ 2 := by
  unfold Cs.stuffed
  split
  · show 3 ≠ 2; omega
  · split
    · show 3 ≠ 2; omega
    · show 0 ≠ 2; omega
theorem late_came {c : Cs} {b : UInt8} (h : (c.late b).2.kind = 2) : c.tail = 8 ∧ c.sends = false ∧ (c.late b).2.fr = decode (c.got.take (c.got.length - 15)) := by
  have e3 : ∀ e, (c.err e).2.kind ≠ 2 := fun e => by show 3 ≠ 2; omega
  have e0 : ev0.kind ≠ 2 := by decide
  unfold Cs.late at h ⊢
  split at h
  · split at h
    · exact absurd h (e3 _)
    · exact absurd h e0
  · split at h
    · split at h
      · exact absurd h (e3 _)
      · exact absurd h e0
    · split at h
      · split at h
        · exact absurd h (e3 _)
        · split at h
          · exact absurd h (e3 _)
          · exact absurd h e0
      · split at h
        · split at h
          · exact absurd h (e3 _)
          · exact absurd h e0
        · split at h
          · rename_i a1 a2 a3 a4 a5
            split at h
            · exact absurd h (e3 _)
            · rename_i a6
              split at h
              · exact absurd h e0
              · rename_i a7
                refine ⟨a5, by simpa using a7, ?_⟩
                rw [if_neg a1, if_neg a2, if_neg a3, if_neg a4, if_pos a5, if_neg a6, if_neg a7]
          · split at h
            · split at h
              · exact absurd h (e3 _)
              · exact absurd h e0
            · split at h
              · exact absurd h (by show 1 ≠ 2; omega)
              · exact absurd h e0
/-- a frame that comes is that frame's bits -/
theorem came_is {W : List UInt8} {i : Nat} {c : Cs} (h : Lst W i c) (hi : i < W.length) (ha : W.all okc = true) {f : Fr} (hv : (c.sample W[i]).2.kind = 2) (hf : (c.sample W[i]).2.fr = f) : ∃ b0, (b0 = 0 ∨ 13 ≤ b0) ∧ b0 + (stfF f).length + 8 = i ∧ (W.drop b0).take (stfF f).length = stfF f := by
  by_cases h2 : c.state = 2
  · cases hfin : c.fin
    · rw [sample_mid h2 hfin] at hv
      unfold Cs.mid at hv
      rw [if_neg (by rw [(h.frm h2).1]; simp)] at hv
      exact absurd hv (stuffed_kind _ _)
    · rw [sample_late h2 hfin] at hv hf
      obtain ⟨t8, hs, he⟩ := late_came hv
      rw [he] at hf
      obtain ⟨_, b0, h1, h3, h4⟩ := h.frm h2
      obtain ⟨p, q, e1, e2, e3⟩ := h4.2 hfin
      have F := h.rt.frm h2
      have hg := F.late (by omega) hs
      rw [F.good, hfin, Bool.true_and] at hg
      unfold goodB at hg
      simp only [Bool.and_eq_true, decide_eq_true_eq] at hg
      obtain ⟨⟨g1, g2⟩, g3⟩ := hg
      have h15 := got_15 F hfin
      have hgot : c.got = sumL (headL f) := by
        have e4 := List.take_append_drop (c.got.length - 15) c.got
        have hh : (c.got.take (c.got.length - 15)).all okc = true := all_take F.all _
        have ht : (c.got.drop (c.got.length - 15)).all okc = true := by
          have := F.all
          rw [List.all_eq_true] at *; intro x hx; exact this x (List.mem_of_mem_drop hx)
        have e5 : c.got.drop (c.got.length - 15) = ofl (crc 0 (c.got.take (c.got.length - 15))) 15 := by
          refine (crc_check hh ht ?_).1 ?_
          · rw [List.length_drop]; omega
          · rw [e4]; exact g1
        rw [hf] at g3
        unfold sumL
        rw [g3, ← e5, e4]
      have hx5 : c.st.2 ≠ 5 := by
        have := F.fin
        rw [hfin] at this
        have h' := this.symm
        unfold stopB at h'
        simp only [decide_eq_true_eq] at h'
        omega
      have hpa : p.all okc = true := by
        have hw : ((W.take i).drop b0).all okc = true := by
          rw [List.all_eq_true] at *; intro x hx; exact ha x (List.mem_of_mem_take (List.mem_of_mem_drop hx))
        rw [e1, List.all_append] at hw
        simp only [Bool.and_eq_true] at hw
        exact hw.1
      have hps := (stf_ust hpa _ _ e2).1 hx5
      rw [hgot] at hps
      have hp : p = stfF f := by unfold stfF; rw [hps]
      have hl := w_length (W := W) (i := i) (b0 := b0) (by omega)
      rw [e1, List.length_append, e3, t8, hp] at hl
      refine ⟨b0, h3, by omega, ?_⟩
      have e6 : (W.drop b0).take (stfF f).length = ((W.take i).drop b0).take (stfF f).length := by
        rw [List.drop_take, List.take_take, Nat.min_eq_left (by omega)]
      rw [e6, e1, hp]; simp
  · exfalso
    have e := bare_eq (h.rt.bare h2)
    have hs8 : c.state < 8 := by
      have := h.rt.st8
      rcases Nat.lt_or_ge c.state 8 with h' | h'
      · exact h'
      · have := h.rt.off.1 (by omega); rw [h.on] at this; cases this
    rw [e, bare_ev h2 h.s0 hs8] at hv
    exact absurd hv (by decide)
/-- one of its stuffed bits is turned: it does not come, nor does it later -/
theorem turned_no {f : Fr} {W : List UInt8} (hW : W.head? = some 48) (ha : W.all okc = true) (hl : W.length = (stfF f).length + 21) (hne : W.take (stfF f).length ≠ stfF f) (hard : Bool) {i : Nat} (hi : i < W.length) :
    ¬ (((runC (idleC cn0 false hard false noFr) (W.take i)).sample W[i]).2.kind = 2 ∧ ((runC (idleC cn0 false hard false noFr) (W.take i)).sample W[i]).2.fr = f) := by
  rintro ⟨hk, hf⟩
  obtain ⟨b0, h1, h2, h3⟩ := came_is (run_lst hW ha hard i (by omega)) hi ha hk hf
  have hb : b0 = 0 := by omega
  subst hb
  exact hne (by simpa using h3)
end Go.Proofs.YtcaeobkaoebndaaGreat.B

namespace Go.Proofs.YtcaeobkaoebndaaGreat
open Go.RowKit Go.Lib

/-- block g holds the bytes l from its first cell on, and they may be written -/
structure RowB (w : World) (g : Nat) (l : List UInt8) : Prop where
  cell : ∀ j c, l[j]? = some c → w.cell? ⟨g, j, none⟩ = some (.int .u8 c.toNat)
  free : ∀ j, j < l.length → w.frozen? ⟨g, j, none⟩ = false

theorem RowB.set {w : World} {g : Nat} {l : List UInt8} (h : RowB w g l) (j : Nat) (hj : j < l.length) (c : UInt8) : RowB (w.setCell ⟨g, j, none⟩ (.int .u8 c.toNat)) g (l.set j c) := by
  constructor
  · intro i d hd
    rw [List.getElem?_set] at hd
    by_cases e : j = i
    · subst e
      rw [if_pos rfl, if_pos hj] at hd
      cases hd
      exact World.cell?_setCell_same _ _ _ (h.cell j l[j] (List.getElem?_eq_getElem hj))
    · rw [if_neg e] at hd
      rw [World.cell?_setCell_other _ _ _ _ (show (⟨g, j, none⟩ : Addr) ≠ ⟨g, i, none⟩ from by simp)]
      exact h.cell i d hd
  · intro i hi
    rw [World.frozen?_setCell]
    exact h.free i (by simpa using hi)

theorem RowB.below {w w' : World} {g B : Nat} {l : List UInt8} (h : RowB w g l) (hb : Below B w w') (hg : g < B) : RowB w' g l :=
  ⟨fun j c hc => by rw [hb.cell (by exact hg)]; exact h.cell j c hc, fun j hj => by rw [hb.frozen (by exact hg)]; exact h.free j hj⟩

theorem RowB.back {P : Program} {w : World} {g k cap : Nat} {e : TypeId} {l : List UInt8} (src dst : TypeId) (hl : l.length = k) (hs : P.underlying src = some (.slice e)) (he : P.underlying e = some (.int .u8)) (hd : P.underlying dst = some .string)
    (h : RowB w g l) : (convert src dst (.slice (some ⟨g, 0, none⟩) k cap)).run P w = .ok (.string ⟨l.toArray⟩) w := by
  subst hl
  refine run_convert_bytes_back (P := P) w src dst e ⟨g, 0, none⟩ cap l hs he hd (fun i hi => ?_)
  have e1 : (⟨g, 0, none⟩ : Addr).add i = ⟨g, i, none⟩ := by simp [Addr.add]; intro h; omega
  rw [e1]
  exact h.cell i l[i] (List.getElem?_eq_getElem hi)

theorem bytesWorld_below (w : World) (e : TypeId) (s : ByteArray) : Below w.heap.size w (bytesWorld w e s) :=
  ⟨rfl, rfl, rfl, by rw [bytesWorld_size]; omega, fun k hk => bytesWorld_at_old w e s k hk⟩

theorem bytesWorld_row (w : World) (e : TypeId) (s : ByteArray) : RowB (bytesWorld w e s) w.heap.size s.data.toList := by
  constructor
  · intro j c hc
    have hj : j < s.size := by
      have := (List.getElem?_eq_some_iff.1 hc).1
      simpa using this
    rw [bytesWorld_cell w e s j hj, List.getD_eq_getElem?_getD, hc]; rfl
  · intro j hj
    have hj : j < s.size := by simpa using hj
    unfold World.frozen?
    simp only [bytesWorld_at_new]
    have hz : s.size ≤ (bytesCells w e s).size := by simp [bytesCells]
    simp; omega
end Go.Proofs.YtcaeobkaoebndaaGreat

namespace Go.Proofs.YtcaeobkaoebndaaGreat.B
open Go.RowKit

/-- a digit in memory -/
def dig (b : Bool) : Value := .int .u8 ((b.toNat : Nat) : Int)
def rowD (f : Nat → Bool) (n : Nat) : List Value := (List.range n).map fun j => dig (f j)
theorem rowD_length (f : Nat → Bool) (n : Nat) : (rowD f n).length = n := by simp [rowD]
theorem rowD_succ (f : Nat → Bool) (n : Nat) : rowD f n ++ [dig (f n)] = rowD f (n + 1) := by
  unfold rowD; rw [List.range_succ, List.map_append]; rfl
theorem rowD_at (f : Nat → Bool) (n j : Nat) (h : j < n) : (rowD f n)[j]? = some (dig (f j)) := by
  unfold rowD; simp [h]
theorem rowD_congr {f g : Nat → Bool} (n : Nat) (h : ∀ j, j < n → f j = g j) : rowD f n = rowD g n := by
  unfold rowD
  apply List.map_congr_left
  intro j hj
  rw [h j (List.mem_range.1 hj)]
theorem rowD_set (f : Nat → Bool) (n j : Nat) (b : Bool) : (rowD f n).set j (dig b) = rowD (fun x => if x = j then b else f x) n := by
  apply List.ext_getElem?
  intro x
  unfold rowD
  rw [List.getElem?_set]
  by_cases h : j = x
  · subst h
    by_cases hn : j < n <;> simp [hn]
  · rw [if_neg h]
    simp only [List.getElem?_map]
    by_cases hn : x < n
    · simp [hn, Ne.symm h]
    · simp [hn]
/-- the message's digits -/
def msg (s : ByteArray) (j : Nat) : Bool := match s.data.toList[j]? with | some c => one c | none => false
theorem msg_in {s : ByteArray} {j : Nat} (h : j < s.size) : msg s j = one s[j] := by
  unfold msg
  rw [List.getElem?_eq_getElem (by rw [size_len]; exact h)]
  rfl
theorem msg_out {s : ByteArray} {j : Nat} (h : s.size ≤ j) : msg s j = false := by
  unfold msg
  rw [List.getElem?_eq_none (by rw [size_len]; exact h)]
theorem dig_byte {s : ByteArray} {j : Nat} (hr : right s = true) (h : j < s.size) : Value.int .u8 ((s[j].toNat : Int) - 48) = dig (msg s j) := by
  have hb := right_bound hr j h
  rw [msg_in h, one_dec]
  unfold dig
  by_cases h1 : s[j].toNat = 49
  · simp [h1]
  · have : s[j].toNat = 48 := by omega
    simp [this]
/-- the row when i digits are divided -/
def at0 (s : ByteArray) (i : Nat) : Nat → Bool := win (msg s) i (crc 0 (s.data.toList.take i))
theorem at0_zero (s : ByteArray) (n : Nat) : rowD (msg s) n = rowD (at0 s 0) n := by
  apply rowD_congr
  intro j _
  unfold at0 win
  simp [crc_nil]
/-- and with k digits of the divisor taken away at i -/
def at1 (s : ByteArray) (i k j : Nat) : Bool := if i ≤ j ∧ j < i + k then (at0 s i j != divisor (j - i)) else at0 s i j
theorem at1_zero (s : ByteArray) (i n : Nat) : rowD (at0 s i) n = rowD (at1 s i 0) n := by
  apply rowD_congr
  intro j _
  unfold at1
  rw [if_neg (by omega)]
theorem at1_here (s : ByteArray) (i k : Nat) : at1 s i k (i + k) = at0 s i (i + k) := by unfold at1; rw [if_neg (by omega)]
theorem at1_succ (s : ByteArray) (i k n : Nat) : (rowD (at1 s i k) n).set (i + k) (dig (at0 s i (i + k) != divisor k)) = rowD (at1 s i (k + 1)) n := by
  rw [rowD_set]
  apply rowD_congr
  intro j _
  unfold at1
  by_cases h : j = i + k
  · subst h
    rw [if_pos rfl, if_pos (by omega), show i + k - i = k from by omega]
  · rw [if_neg h]
    by_cases h2 : i ≤ j ∧ j < i + k
    · rw [if_pos h2, if_pos (by omega)]
    · rw [if_neg h2, if_neg (by omega)]
theorem at0_step {s : ByteArray} {i : Nat} (h : i < s.size) : at0 s (i + 1) = win (msg s) (i + 1) (stepN (crc 0 (s.data.toList.take i)) (msg s i)) := by
  unfold at0
  rw [crc_take_succ 0 s i h, msg_in h]
theorem at1_full {s : ByteArray} {i : Nat} (h : i < s.size) (h1 : at0 s i i = true) (n : Nat) : rowD (at1 s i 16) n = rowD (at0 s (i + 1)) n := by
  apply rowD_congr
  intro j _
  rw [at0_step h, win_step]
  have h1' : win (msg s) i (crc 0 (s.data.toList.take i)) i = true := h1
  rw [h1']
  unfold at1
  by_cases h2 : i ≤ j ∧ j < i + 16
  · rw [if_pos h2]
    have : decide (i ≤ j ∧ j ≤ i + 15) = true := by simp; omega
    rw [this]; simp [at0]
  · rw [if_neg h2]
    have : decide (i ≤ j ∧ j ≤ i + 15) = false := by simp; omega
    rw [this]; simp [at0]
theorem at0_skip {s : ByteArray} {i : Nat} (h : i < s.size) (h1 : at0 s i i = false) (n : Nat) : rowD (at0 s i) n = rowD (at0 s (i + 1)) n := by
  apply rowD_congr
  intro j _
  rw [at0_step h, win_step]
  have h1' : win (msg s) i (crc 0 (s.data.toList.take i)) i = false := h1
  rw [h1']
  simp [at0]
/-- what is left -/
theorem at0_end (s : ByteArray) (k : Nat) (hk : k < 15) : at0 s s.size (s.size + k) = (sum s).testBit (14 - k) := by
  unfold at0 win
  rw [List.take_of_length_le (by rw [size_len]; exact Nat.le_refl _), msg_out (by omega), if_neg (by omega)]
  rw [show s.size + k - s.size = k from by omega]
  have : decide (s.size + k < s.size + 15) = true := by simp; omega
  rw [this]; simp [sum]
theorem div_step (r k : Nat) (hk : k < 15) : 2 * (r / 2 ^ (15 - k)) + (r.testBit (14 - k)).toNat = r / 2 ^ (15 - (k + 1)) := by
  have e : r / 2 ^ (15 - k) = r / 2 ^ (14 - k) / 2 := by
    rw [show 15 - k = (14 - k) + 1 from by omega, Nat.pow_succ, Nat.div_div_eq_div_mul]
  rw [e, Nat.testBit_eq_decide_div_mod_eq, show 15 - (k + 1) = 14 - k from by omega]
  generalize r / 2 ^ (14 - k) = q
  by_cases h : q % 2 = 1
  · simp [h]; omega
  · simp [h]; omega
theorem div_begin (s : ByteArray) : sum s / 2 ^ (15 - 0) = 0 := by
  have := sum_lt s
  simp; omega
/-- the divisor's text -/
theorem ofn_at (n k i : Nat) (h : i < (ofn n k).size) : (ofn n k)[i].toNat = 48 + n / 2 ^ (k - 1 - i) % 2 := by
  rw [← bit_toNat]
  show ((ofl n k).toArray[i]'_).toNat = _
  simp [ofl]
theorem divisor_at (k : Nat) (h : k < (ofn 50585 16).size) : (((ofn 50585 16)[k].toNat : Int) - 48) = ((divisor k).toNat : Int) := by
  rw [ofn_at]
  unfold divisor
  rw [Nat.testBit_eq_decide_div_mod_eq, show 16 - 1 - k = 15 - k from by omega]
  generalize 50585 / 2 ^ (15 - k) = q
  by_cases h : q % 2 = 1
  · simp [h]
  · have : q % 2 = 0 := by omega
    simp [this]
theorem divisor_byte (k : Nat) (h : k < (ofn 50585 16).size) : 48 ≤ (ofn 50585 16)[k].toNat ∧ (ofn 50585 16)[k].toNat ≤ 49 := by
  rw [ofn_at]; omega
theorem dig_xor (a b : Bool) : bits BinOp.xor IntKind.u8 ((a.toNat : Nat) : Int) ((b.toNat : Nat) : Int) = (((a != b).toNat : Nat) : Int) := by
  cases a <;> cases b <;> decide
end Go.Proofs.YtcaeobkaoebndaaGreat.B

namespace Go.Proofs.YtcaeobkaoebndaaGreat.B

def runAt (l : List UInt8) (fr n : Nat) (c : UInt8) : Prop :=
  ∃ p : List UInt8, l = p ++ List.replicate n c ∧ fr ≤ p.length ∧ (fr = p.length ∨ ∃ q d, p = q ++ [d] ∧ d.toNat ≠ c.toNat)
def RInv (l : List UInt8) (fr : Nat) (x : St) : Prop :=
  (x = (0, 0) ∧ l = [] ∧ fr = 0) ∨ ∃ c : UInt8, x.1 = c.toNat ∧ okc c = true ∧ 1 ≤ x.2 ∧ runAt l fr x.2 c

theorem rinv_zero : RInv [] 0 (0, 0) := .inl ⟨rfl, rfl, rfl⟩
theorem rinv_step {l : List UInt8} {fr : Nat} {x : St} {c : UInt8} (h : RInv l fr x) (h4 : x.2 ≤ 4) (hc : okc c = true) :
    (kn x c.toNat).1 = c.toNat ∧ 1 ≤ (kn x c.toNat).2 ∧ (kn x c.toNat).2 ≤ 5 ∧ runAt (l ++ [c]) fr (kn x c.toNat).2 c := by
  obtain ⟨b, n⟩ := x
  simp only at h4
  have hc' := (okc_iff c).1 hc
  rcases h with ⟨he, rfl, rfl⟩ | ⟨d, hd, hdo, hn, p, hp, hfr, hor⟩
  · cases he
    rw [kn_one (by omega)]
    exact ⟨rfl, Nat.le_refl _, by omega, [], by simp, Nat.le_refl _, .inl rfl⟩
  · simp only at hd hn hp
    by_cases e : c.toNat = b
    · have ecd : c = d := UInt8.toNat_inj.1 (by omega)
      subst ecd
      rw [kn_more e (by omega)]
      refine ⟨rfl, by simp only; omega, by simp only; omega, p, ?_, hfr, hor⟩
      rw [hp, List.append_assoc, List.replicate_succ']
    · rw [kn_one e]
      refine ⟨rfl, Nat.le_refl _, by simp only; omega, l, by simp, ?_, .inr ⟨p ++ List.replicate (n - 1) d, d, ?_, by omega⟩⟩
      · rw [hp]; simp; omega
      · rw [hp, List.append_assoc, ← List.replicate_succ', show n - 1 + 1 = n from by omega]
theorem rinv_plain {l : List UInt8} {fr : Nat} {x : St} {c : UInt8} (h : RInv l fr x) (h4 : x.2 ≤ 4) (hc : okc c = true) : RInv (l ++ [c]) fr (kn x c.toNat) := by
  obtain ⟨h1, h2, _, h3⟩ := rinv_step h h4 hc
  exact .inr ⟨c, h1, hc, h2, h3⟩
theorem rinv_full {l : List UInt8} {x : St} {c : UInt8} (hc : okc c = true) (hx : x.1 = c.toNat) : RInv (l ++ [c] ++ [other c]) (l ++ [c]).length (kn x (other c).toNat) := by
  obtain ⟨b, n⟩ := x
  simp only at hx
  rw [kn_one (by rw [hx]; exact other_ne hc)]
  exact .inr ⟨other c, rfl, other_okc hc, Nat.le_refl _, l ++ [c], by simp, Nat.le_refl _, .inl rfl⟩

theorem run_yes {l : List UInt8} {fr : Nat} {c : UInt8} (h : runAt l fr 5 c) : fr + 5 ≤ l.length ∧ ∀ i (h : i < l.length), l.length - 5 ≤ i → l[i] = c := by
  obtain ⟨p, rfl, hfr, _⟩ := h
  simp only [List.length_append, List.length_replicate]
  refine ⟨by omega, fun i hi h5 => ?_⟩
  rw [List.getElem_append_right (by omega)]
  exact List.getElem_replicate _
theorem run_no {l : List UInt8} {fr n : Nat} {c : UInt8} (h : runAt l fr n c) (h1 : 1 ≤ n) (h4 : n ≤ 4) :
    (fr ≤ l.length ∧ l.length < fr + 5) ∨ (fr + 5 ≤ l.length ∧ ∃ j, ∃ (hj : j < l.length), ∃ (hl : l.length - 1 < l.length), l.length - 5 ≤ j ∧ l[l.length - 1] = c ∧ l[j].toNat ≠ c.toNat) := by
  obtain ⟨p, rfl, hfr, hor⟩ := h
  simp only [List.length_append, List.length_replicate]
  rcases hor with rfl | ⟨q, d, rfl, hd⟩
  · left; omega
  · by_cases hl : q.length + 1 + n < fr + 5
    · left; simp at hfr ⊢; omega
    · right
      simp only [List.length_append, List.length_cons, List.length_nil] at *
      refine ⟨by omega, q.length, by omega, by omega, by omega, ?_, ?_⟩
      · rw [List.getElem_append_right (by simp; omega)]; simp
      · rw [List.getElem_append_left (by simp), List.getElem_append_right (by simp)]; simpa using hd
end Go.Proofs.YtcaeobkaoebndaaGreat.B
