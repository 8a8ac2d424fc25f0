/- Plain facts on rows of bits (lists of the bytes 48 and 49) and their numbers. No Go, no program. -/
import Derived.Lib.Hide
import Derived.WalkKit
import Derived.Laws.BitsLemmas
import Derived.Laws.Bits64b
import Derived.WalkSmall
namespace Go.Proofs.Ythgbfidghhlldaa.B

def okc (c : UInt8) : Bool := c == 48 || c == 49
def right (s : ByteArray) : Bool := decide (s.size ≤ 4000) && s.data.toList.all okc
def pre (s : ByteArray) (k : Nat) : Prop := (s.data.toList.take k).all okc = true

theorem take_snoc (s : ByteArray) (k : Nat) (h : k < s.size) : s.data.toList.take (k + 1) = s.data.toList.take k ++ [s[k]] := by
  rw [List.take_succ_eq_append_getElem (by simpa using h)]; rfl
theorem size_len (s : ByteArray) : s.data.toList.length = s.size := by simp

theorem okc_iff (c : UInt8) : okc c = true ↔ c.toNat = 48 ∨ c.toNat = 49 := by
  simp [okc, ← UInt8.toNat_inj]
theorem pre_zero (s : ByteArray) : pre s 0 := by simp [pre]
theorem pre_succ {s : ByteArray} {k : Nat} (h : k < s.size) (hp : pre s k) (hc : s[k].toNat = 48 ∨ s[k].toNat = 49) : pre s (k + 1) := by
  unfold pre at *; rw [take_snoc s k h, List.all_append, hp]; simp [(okc_iff _).2 hc]
theorem right_of_pre {s : ByteArray} (h : s.size ≤ 4000) (hp : pre s s.size) : right s = true := by
  unfold pre at hp; rw [List.take_of_length_le (by rw [size_len]; omega)] at hp
  simp only [right, hp, h, decide_true, Bool.and_self]
theorem right_of_pre' {s : ByteArray} (hp : pre s s.size) : right s = decide (s.size ≤ 4000) := by
  unfold pre at hp; rw [List.take_of_length_le (by rw [size_len]; omega)] at hp
  simp only [right, hp, Bool.and_true]
theorem right_bad {s : ByteArray} {k : Nat} (h : k < s.size) (hc : ¬ s[k].toNat = 48) (hd : ¬ s[k].toNat = 49) : right s = false := by
  have hn : okc s[k] = false := by
    rw [Bool.eq_false_iff]; intro e; rcases (okc_iff _).1 e with e | e <;> omega
  have : s.data.toList.all okc = false := by
    rw [Bool.eq_false_iff]; intro e
    have := List.all_eq_true.1 e s[k] (by show s.data[k] ∈ _; simp)
    simp [hn] at this
  simp [right, this]
theorem right_long {s : ByteArray} (h : ¬ s.size ≤ 4000) : right s = false := by simp [right, h]
theorem right_size {s : ByteArray} (h : right s = true) : s.size ≤ 4000 := by simp [right] at h; exact h.1
theorem right_all {s : ByteArray} (h : right s = true) : s.data.toList.all okc = true := by
  unfold right at h; rw [Bool.and_eq_true] at h; exact h.2

/-- a row's number, the highest bit first -/
def num (l : List UInt8) : Nat := l.foldl (fun n c => 2 * n + (c.toNat - 48)) 0
theorem num_snoc (l : List UInt8) (c : UInt8) : num (l ++ [c]) = 2 * num l + (c.toNat - 48) := by simp [num]
theorem num_nil : num [] = 0 := rfl
theorem okc_bound {c : UInt8} (h : okc c = true) : c.toNat - 48 ≤ 1 := by rcases (okc_iff _).1 h with e | e <;> omega
theorem num_lt (l : List UInt8) (h : l.all okc = true) : num l < 2 ^ l.length := by
  generalize hn : l.length = n
  induction n generalizing l with
  | zero => rw [List.length_eq_zero_iff] at hn; subst hn; simp [num]
  | succ n ih =>
    obtain ⟨a, c, rfl⟩ : ∃ a c, l = a ++ [c] := by
      have : l ≠ [] := by intro e; simp [e] at hn
      exact ⟨l.dropLast, l.getLast this, (List.dropLast_concat_getLast this).symm⟩
    simp only [List.all_append, Bool.and_eq_true, List.all_cons, List.all_nil, Bool.and_true] at h
    have := ih a h.1 (by simpa using hn)
    have := okc_bound h.2
    rw [num_snoc, Nat.pow_succ]; omega


/-- a number in so many bits, the highest first -/
def bit (n k i : Nat) : UInt8 := UInt8.ofNat (48 + n / 2 ^ (k - 1 - i) % 2)
def ofl (n k : Nat) : List UInt8 := (List.range k).map (bit n k)
def ofn (n k : Nat) : ByteArray := ⟨(ofl n k).toArray⟩
theorem ofl_length (n k : Nat) : (ofl n k).length = k := by simp [ofl]
theorem ofn_size (n k : Nat) : (ofn n k).size = k := by simp [ofn, ByteArray.size, ofl_length]
theorem ofn_list (n k : Nat) : (ofn n k).data.toList = ofl n k := rfl
theorem bit_toNat (n k i : Nat) : (bit n k i).toNat = 48 + n / 2 ^ (k - 1 - i) % 2 := by
  unfold bit; rw [UInt8.toNat_ofNat']; omega
theorem okc_bit (n k i : Nat) : okc (bit n k i) = true := by rw [okc_iff, bit_toNat]; omega
theorem ofl_all (n k : Nat) : (ofl n k).all okc = true := by
  rw [List.all_eq_true]; intro c hc
  obtain ⟨i, _, rfl⟩ := List.mem_map.1 hc
  exact okc_bit n k i
theorem ofn_right (n k : Nat) (hk : k ≤ 4000) : right (ofn n k) = true := by
  unfold right; rw [ofn_list, ofl_all, ofn_size]; simp [hk]

/-- the row of cells while it is filled -/
def rowAt (n k j : Nat) : List Value := ((ofl n k).take j).map (fun c => Value.int .u8 c.toNat) ++ List.replicate (k - j) (.int .u8 0)
theorem rowAt_zero (n k : Nat) : rowAt n k 0 = List.replicate k (.int .u8 0) := by simp [rowAt]
theorem rowAt_length (n k j : Nat) (h : j ≤ k) : (rowAt n k j).length = k := by simp [rowAt, ofl_length]; omega
theorem rowAt_set (n k j : Nat) (h : j < k) : (rowAt n k j).set j (.int .u8 (bit n k j).toNat) = rowAt n k (j + 1) := by
  apply List.ext_getElem?
  intro i
  unfold rowAt
  have hl := ofl_length n k
  have hg : (ofl n k)[j]? = some (bit n k j) := by simp [ofl, h]
  rw [List.getElem?_set]
  by_cases hij : j = i
  · subst hij
    rw [if_pos rfl, if_pos (by simp [hl]; omega), List.getElem?_append_left (by simp [hl]; omega), List.getElem?_map, List.getElem?_take, if_pos (by omega), hg]; rfl
  · rw [if_neg hij]
    by_cases hi : i < j
    · rw [List.getElem?_append_left (by simp [hl]; omega), List.getElem?_append_left (by simp [hl]; omega)]
      simp only [List.getElem?_map, List.getElem?_take]
      rw [if_pos hi, if_pos (by omega)]
    · rw [List.getElem?_append_right (by simp [hl]; omega), List.getElem?_append_right (by simp [hl]; omega)]
      simp only [List.getElem?_replicate, List.length_map, List.length_take, hl]
      by_cases hk : i < k
      · rw [if_pos (by omega), if_pos (by omega)]
      · rw [if_neg (by omega), if_neg (by omega)]
theorem rowAt_full (n k : Nat) : rowAt n k k = (ofl n k).map (fun c => Value.int .u8 c.toNat) := by
  unfold rowAt; rw [List.take_of_length_le (by rw [ofl_length]; omega)]; simp

/-- one bit more in front moves nothing: numbers and bits lead to one another -/
theorem num_append (a b : List UInt8) : num (a ++ b) = num a * 2 ^ b.length + num b := by
  generalize hn : b.length = m
  induction m generalizing b with
  | zero => rw [List.length_eq_zero_iff] at hn; subst hn; simp [num]
  | succ m ih =>
    obtain ⟨b', c, rfl⟩ : ∃ a c, b = a ++ [c] := by
      have : b ≠ [] := by intro e; simp [e] at hn
      exact ⟨b.dropLast, b.getLast this, (List.dropLast_concat_getLast this).symm⟩
    have := ih b' (by simpa using hn)
    rw [← List.append_assoc, num_snoc, num_snoc, this, Nat.pow_succ, Nat.mul_add, Nat.add_assoc]
    congr 1
    rw [Nat.mul_comm (2 ^ m), ← Nat.mul_assoc, ← Nat.mul_assoc, Nat.mul_comm (num a) 2]
theorem ofl_succ (n k : Nat) : ofl n (k + 1) = ofl (n / 2) k ++ [bit n 1 0] := by
  unfold ofl
  rw [List.range_succ, List.map_append]
  congr 1
  · apply List.map_congr_left
    intro i hi
    rw [List.mem_range] at hi
    have e : k + 1 - 1 - i = (k - 1 - i) + 1 := by omega
    unfold bit
    rw [e, Nat.pow_succ, Nat.mul_comm, ← Nat.div_div_eq_div_mul]
  · simp [bit]
theorem num_ofl (n k : Nat) (h : n < 2 ^ k) : num (ofl n k) = n := by
  induction k generalizing n with
  | zero => simp at h; subst h; rfl
  | succ k ih =>
    rw [ofl_succ, num_snoc, ih (n / 2) (by rw [Nat.pow_succ] at h; omega), bit_toNat]
    simp; omega
theorem ofl_num (l : List UInt8) (h : l.all okc = true) : ofl (num l) l.length = l := by
  generalize hn : l.length = n
  induction n generalizing l with
  | zero => rw [List.length_eq_zero_iff] at hn; subst hn; rfl
  | succ n ih =>
    obtain ⟨a, c, rfl⟩ : ∃ a c, l = a ++ [c] := by
      have : l ≠ [] := by intro e; simp [e] at hn
      exact ⟨l.dropLast, l.getLast this, (List.dropLast_concat_getLast this).symm⟩
    simp only [List.all_append, Bool.and_eq_true, List.all_cons, List.all_nil, Bool.and_true] at h
    have hb := okc_bound h.2
    have hc : bit (num (a ++ [c])) 1 0 = c := by
      apply UInt8.toNat_inj.1
      rw [bit_toNat, num_snoc]
      have := (okc_iff c).1 h.2
      simp; omega
    rw [ofl_succ, hc, num_snoc, show (2 * num a + (c.toNat - 48)) / 2 = num a from by omega, ih a h.1 (by simpa using hn)]
theorem ofn_num (s : ByteArray) (h : s.data.toList.all okc = true) : ofn (num s.data.toList) s.size = s := by
  have e : ofl (num s.data.toList) s.size = s.data.toList := by rw [← size_len]; exact ofl_num _ h
  unfold ofn; rw [e]

/-- the steps in the walk's own spelling -/
theorem or_step (m b : Nat) (hm : m < 2 ^ 63) (hb : b ≤ 1) : bits BinOp.or IntKind.u64 ((m : Int) * 2) (b : Int) = ((2 * m + b : Nat) : Int) := by
  have h := bits_or_u64_nat (2 * m) b (by omega) (by omega)
  have e : ((m : Int) * 2) = ((2 * m : Nat) : Int) := by omega
  rw [e, h]
  congr 1
  have := Nat.two_pow_add_eq_or_of_lt (i := 1) (b := b) (by omega) m
  simp only [Nat.pow_one] at this
  omega
theorem num_take_succ (s : ByteArray) (k : Nat) (h : k < s.size) : num (s.data.toList.take (k + 1)) = 2 * num (s.data.toList.take k) + (s[k].toNat - 48) := by
  rw [take_snoc s k h, num_snoc]
theorem right_bound {s : ByteArray} (h : right s = true) (k : Nat) (hk : k < s.size) : 48 ≤ s[k].toNat ∧ s[k].toNat ≤ 49 := by
  have := List.all_eq_true.1 (right_all h) s[k] (by show s.data[k] ∈ _; simp)
  rcases (okc_iff _).1 this with e | e <;> omega
theorem all_take {l : List UInt8} (h : l.all okc = true) (k : Nat) : (l.take k).all okc = true := by
  rw [List.all_eq_true] at *; intro c hc; exact h c (List.mem_of_mem_take hc)
theorem num_take_lt {s : ByteArray} (h : right s = true) (k : Nat) (hk : k < 64) : num (s.data.toList.take k) < 2 ^ 63 := by
  have h1 := num_lt _ (all_take (right_all h) k)
  have h2 : (s.data.toList.take k).length ≤ 63 := by rw [List.length_take]; omega
  exact Nat.lt_of_lt_of_le h1 (Nat.pow_le_pow_right (by omega) h2)
theorem byte_step (n k j : Nat) (h : n < 2 ^ k) (hk : k ≤ 64) : (48 + bits BinOp.and IntKind.u64 ((n : Int) / 2 ^ (k - 1 - j)) 1) % 256 = ((bit n k j).toNat : Int) := by
  have hp : 2 ^ k ≤ 2 ^ 64 := Nat.pow_le_pow_right (by omega) hk
  have hd := Nat.div_le_self n (2 ^ (k - 1 - j))
  have e : ((n : Int) / 2 ^ (k - 1 - j)) = ((n / 2 ^ (k - 1 - j) : Nat) : Int) := by simp
  rw [e, bit_toNat]
  generalize n / 2 ^ (k - 1 - j) = q at *
  rw [and_one_u64 _ (by omega) (by omega)]
  omega
theorem shr_zero (n k : Nat) (h : n < 2 ^ k) : ((n : Int) / 2 ^ k != 0) = false := by
  have e : ((n : Int) / 2 ^ k) = ((n / 2 ^ k : Nat) : Int) := by simp
  rw [e, Nat.div_eq_of_lt h]; rfl
theorem shr_some (n k : Nat) (h : 2 ^ k ≤ n) : ((n : Int) / 2 ^ (k : Int).toNat != 0) = true := by
  have e : ((n : Int) / 2 ^ (k : Int).toNat) = ((n / 2 ^ k : Nat) : Int) := by simp
  have := Nat.div_pos h (Nat.pow_pos (by omega))
  rw [e]; generalize n / 2 ^ k = q at *; simp; omega
theorem rowAt_some (n k j : Nat) (h : j < k) : ∃ v, (rowAt n k j)[j]? = some v :=
  ⟨_, List.getElem?_eq_getElem (by rw [rowAt_length _ _ _ (by omega)]; exact h)⟩

theorem ofl_cons (n k : Nat) : ofl n (k + 1) = UInt8.ofNat (48 + n / 2 ^ k % 2) :: ofl n k := by
  unfold ofl
  rw [List.range_succ_eq_map, List.map_cons, List.map_map]
  congr 1
  apply List.map_congr_left
  intro i hi
  rw [List.mem_range] at hi
  show bit n (k + 1) (i + 1) = bit n k i
  unfold bit
  rw [show k + 1 - 1 - (i + 1) = k - 1 - i from by omega]
theorem ofn_one {n k : Nat} (h : n / 2 ^ k % 2 = 1) : (⟨#[49]⟩ : ByteArray) ++ ofn n k = ofn n (k + 1) := by
  apply ByteArray.ext; apply Array.ext'
  rw [ByteArray.data_append, Array.toList_append]
  show [49] ++ ofl n k = ofl n (k + 1)
  rw [ofl_cons, h]; rfl
theorem ofn_zero {n k : Nat} (h : n / 2 ^ k % 2 = 0) : (⟨#[48]⟩ : ByteArray) ++ ofn n k = ofn n (k + 1) := by
  apply ByteArray.ext; apply Array.ext'
  rw [ByteArray.data_append, Array.toList_append]
  show [48] ++ ofl n k = ofl n (k + 1)
  rw [ofl_cons, h]; rfl

theorem cat_list (s t : ByteArray) : (s ++ t).data.toList = s.data.toList ++ t.data.toList := by
  rw [ByteArray.data_append, Array.toList_append]
theorem right_cat {s t : ByteArray} (hs : s.size ≤ 2000) (ht : t.size ≤ 2000) : right (s ++ t) = (right s && right t) := by
  unfold right
  rw [cat_list, List.all_append, ByteArray.size_append]
  have h1 : s.size ≤ 4000 := by omega
  have h2 : t.size ≤ 4000 := by omega
  have h3 : s.size + t.size ≤ 4000 := by omega
  simp only [h1, h2, h3, decide_true, Bool.true_and]
theorem num_cat (s t : ByteArray) : num (s ++ t).data.toList = num s.data.toList * 2 ^ t.size + num t.data.toList := by
  rw [cat_list, num_append, size_len]
theorem or_cat (x y k : Nat) (hx : x < 2 ^ 32) (hk : k ≤ 32) (hy : y < 2 ^ k) :
    bits BinOp.or IntKind.u64 (IntKind.u64.wrap ((x : Int) * 2 ^ k)) (y : Int) = ((x * 2 ^ k + y : Nat) : Int) := by
  have hp : 2 ^ k ≤ 2 ^ 32 := Nat.pow_le_pow_right (by omega) hk
  have hm : x * 2 ^ k ≤ (2 ^ 32 - 1) * 2 ^ 32 := Nat.mul_le_mul (by omega) hp
  have e : ((x : Int) * 2 ^ k) = ((x * 2 ^ k : Nat) : Int) := by simp
  have ho := Nat.two_pow_add_eq_or_of_lt (i := k) (b := y) hy x
  rw [Nat.mul_comm] at ho
  rw [e, ho]
  generalize 2 ^ k = p at *
  generalize x * p = q at *
  rw [IntWalk.u64_in _ (by omega), bits_or_u64_nat _ _ (by omega) (by omega)]

end Go.Proofs.Ythgbfidghhlldaa.B
