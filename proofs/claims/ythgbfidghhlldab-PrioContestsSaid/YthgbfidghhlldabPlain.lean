/- Plain facts on rows of bits, sums, stuffing, frames, who wins: no program. (Joined out of single texts.) -/
import Derived.Lib.Hide
import Derived.WalkKit
import Derived.Laws.BitsLemmas
import Derived.Laws.Bits64b
import Derived.WalkSmall
import Derived.Lib.ConvBytes
import Derived.Laws.IdiomStrings
import Derived.Lib.Strings
namespace Go.Proofs.Ythgbfidghhlldab.B

def okc (c : UInt8) : Bool := c == 48 || c == 49
def right (s : ByteArray) : Bool := decide (s.size ≤ 4000) && s.data.toList.all okc
def pre (s : ByteArray) (k : Nat) : Prop := (s.data.toList.take k).all okc = true

theorem take_snoc (s : ByteArray) (k : Nat) (h : k < s.size) : s.data.toList.take (k + 1) = s.data.toList.take k ++ [s[k]] := by
  rw [List.take_succ_eq_append_getElem (by simpa using h)]; rfl
theorem size_len (s : ByteArray) : s.data.toList.length = s.size := by simp

theorem okc_iff (c : UInt8) : okc c = true ↔ c.toNat = 48 ∨ c.toNat = 49 := by
  simp [okc, ← UInt8.toNat_inj]
theorem pre_zero (s : ByteArray) : pre s 0 := by simp [pre]
theorem pre_succ {s : ByteArray} {k : Nat} (h : k < s.size) (hp : pre s k) (hc : s[k].toNat = 48 ∨ s[k].toNat = 49) : pre s (k + 1) := by
  unfold pre at *; rw [take_snoc s k h, List.all_append, hp]; simp [(okc_iff _).2 hc]
theorem right_of_pre {s : ByteArray} (h : s.size ≤ 4000) (hp : pre s s.size) : right s = true := by
  unfold pre at hp; rw [List.take_of_length_le (by rw [size_len]; omega)] at hp
  simp only [right, hp, h, decide_true, Bool.and_self]
theorem right_of_pre' {s : ByteArray} (hp : pre s s.size) : right s = decide (s.size ≤ 4000) := by
  unfold pre at hp; rw [List.take_of_length_le (by rw [size_len]; omega)] at hp
  simp only [right, hp, Bool.and_true]
theorem right_bad {s : ByteArray} {k : Nat} (h : k < s.size) (hc : ¬ s[k].toNat = 48) (hd : ¬ s[k].toNat = 49) : right s = false := by
  have hn : okc s[k] = false := by
    rw [Bool.eq_false_iff]; intro e; rcases (okc_iff _).1 e with e | e <;> omega
  have : s.data.toList.all okc = false := by
    rw [Bool.eq_false_iff]; intro e
    have := List.all_eq_true.1 e s[k] (by show s.data[k] ∈ _; simp)
    simp [hn] at this
  simp [right, this]
theorem right_long {s : ByteArray} (h : ¬ s.size ≤ 4000) : right s = false := by simp [right, h]
theorem right_size {s : ByteArray} (h : right s = true) : s.size ≤ 4000 := by simp [right] at h; exact h.1
theorem right_all {s : ByteArray} (h : right s = true) : s.data.toList.all okc = true := by
  unfold right at h; rw [Bool.and_eq_true] at h; exact h.2

/-- a row's number, the highest bit first -/
def num (l : List UInt8) : Nat := l.foldl (fun n c => 2 * n + (c.toNat - 48)) 0
theorem num_snoc (l : List UInt8) (c : UInt8) : num (l ++ [c]) = 2 * num l + (c.toNat - 48) := by simp [num]
theorem num_nil : num [] = 0 := rfl
theorem okc_bound {c : UInt8} (h : okc c = true) : c.toNat - 48 ≤ 1 := by rcases (okc_iff _).1 h with e | e <;> omega
theorem num_lt (l : List UInt8) (h : l.all okc = true) : num l < 2 ^ l.length := by
  generalize hn : l.length = n
  induction n generalizing l with
  | zero => rw [List.length_eq_zero_iff] at hn; subst hn; simp [num]
  | succ n ih =>
    obtain ⟨a, c, rfl⟩ : ∃ a c, l = a ++ [c] := by
      have : l ≠ [] := by intro e; simp [e] at hn
      exact ⟨l.dropLast, l.getLast this, (List.dropLast_concat_getLast this).symm⟩
    simp only [List.all_append, Bool.and_eq_true, List.all_cons, List.all_nil, Bool.and_true] at h
    have := ih a h.1 (by simpa using hn)
    have := okc_bound h.2
    rw [num_snoc, Nat.pow_succ]; omega


/-- a number in so many bits, the highest first -/
def bit (n k i : Nat) : UInt8 := UInt8.ofNat (48 + n / 2 ^ (k - 1 - i) % 2)
def ofl (n k : Nat) : List UInt8 := (List.range k).map (bit n k)
def ofn (n k : Nat) : ByteArray := ⟨(ofl n k).toArray⟩
theorem ofl_length (n k : Nat) : (ofl n k).length = k := by simp [ofl]
theorem ofn_size (n k : Nat) : (ofn n k).size = k := by simp [ofn, ByteArray.size, ofl_length]
theorem ofn_list (n k : Nat) : (ofn n k).data.toList = ofl n k := rfl
theorem bit_toNat (n k i : Nat) : (bit n k i).toNat = 48 + n / 2 ^ (k - 1 - i) % 2 := by
  unfold bit; rw [UInt8.toNat_ofNat']; omega
theorem okc_bit (n k i : Nat) : okc (bit n k i) = true := by rw [okc_iff, bit_toNat]; omega
theorem ofl_all (n k : Nat) : (ofl n k).all okc = true := by
  rw [List.all_eq_true]; intro c hc
  obtain ⟨i, _, rfl⟩ := List.mem_map.1 hc
  exact okc_bit n k i
theorem ofn_right (n k : Nat) (hk : k ≤ 4000) : right (ofn n k) = true := by
  unfold right; rw [ofn_list, ofl_all, ofn_size]; simp [hk]

/-- the row of cells while it is filled -/
def rowAt (n k j : Nat) : List Value := ((ofl n k).take j).map (fun c => Value.int .u8 c.toNat) ++ List.replicate (k - j) (.int .u8 0)
theorem rowAt_zero (n k : Nat) : rowAt n k 0 = List.replicate k (.int .u8 0) := by simp [rowAt]
theorem rowAt_length (n k j : Nat) (h : j ≤ k) : (rowAt n k j).length = k := by simp [rowAt, ofl_length]; omega
theorem rowAt_set (n k j : Nat) (h : j < k) : (rowAt n k j).set j (.int .u8 (bit n k j).toNat) = rowAt n k (j + 1) := by
  apply List.ext_getElem?
  intro i
  unfold rowAt
  have hl := ofl_length n k
  have hg : (ofl n k)[j]? = some (bit n k j) := by simp [ofl, h]
  rw [List.getElem?_set]
  by_cases hij : j = i
  · subst hij
    rw [if_pos rfl, if_pos (by simp [hl]; omega), List.getElem?_append_left (by simp [hl]; omega), List.getElem?_map, List.getElem?_take, if_pos (by omega), hg]; rfl
  · rw [if_neg hij]
    by_cases hi : i < j
    · rw [List.getElem?_append_left (by simp [hl]; omega), List.getElem?_append_left (by simp [hl]; omega)]
      simp only [List.getElem?_map, List.getElem?_take]
      rw [if_pos hi, if_pos (by omega)]
    · rw [List.getElem?_append_right (by simp [hl]; omega), List.getElem?_append_right (by simp [hl]; omega)]
      simp only [List.getElem?_replicate, List.length_map, List.length_take, hl]
      by_cases hk : i < k
      · rw [if_pos (by omega), if_pos (by omega)]
      · rw [if_neg (by omega), if_neg (by omega)]
theorem rowAt_full (n k : Nat) : rowAt n k k = (ofl n k).map (fun c => Value.int .u8 c.toNat) := by
  unfold rowAt; rw [List.take_of_length_le (by rw [ofl_length]; omega)]; simp

/-- one bit more in front moves nothing: numbers and bits lead to one another -/
theorem num_append (a b : List UInt8) : num (a ++ b) = num a * 2 ^ b.length + num b := by
  generalize hn : b.length = m
  induction m generalizing b with
  | zero => rw [List.length_eq_zero_iff] at hn; subst hn; simp [num]
  | succ m ih =>
    obtain ⟨b', c, rfl⟩ : ∃ a c, b = a ++ [c] := by
      have : b ≠ [] := by intro e; simp [e] at hn
      exact ⟨b.dropLast, b.getLast this, (List.dropLast_concat_getLast this).symm⟩
    have := ih b' (by simpa using hn)
    rw [← List.append_assoc, num_snoc, num_snoc, this, Nat.pow_succ, Nat.mul_add, Nat.add_assoc]
    congr 1
    rw [Nat.mul_comm (2 ^ m), ← Nat.mul_assoc, ← Nat.mul_assoc, Nat.mul_comm (num a) 2]
theorem ofl_succ (n k : Nat) : ofl n (k + 1) = ofl (n / 2) k ++ [bit n 1 0] := by
  unfold ofl
  rw [List.range_succ, List.map_append]
  congr 1
  · apply List.map_congr_left
    intro i hi
    rw [List.mem_range] at hi
    have e : k + 1 - 1 - i = (k - 1 - i) + 1 := by omega
    unfold bit
    rw [e, Nat.pow_succ, Nat.mul_comm, ← Nat.div_div_eq_div_mul]
  · simp [bit]
theorem num_ofl (n k : Nat) (h : n < 2 ^ k) : num (ofl n k) = n := by
  induction k generalizing n with
  | zero => simp at h; subst h; rfl
  | succ k ih =>
    rw [ofl_succ, num_snoc, ih (n / 2) (by rw [Nat.pow_succ] at h; omega), bit_toNat]
    simp; omega
theorem ofl_num (l : List UInt8) (h : l.all okc = true) : ofl (num l) l.length = l := by
  generalize hn : l.length = n
  induction n generalizing l with
  | zero => rw [List.length_eq_zero_iff] at hn; subst hn; rfl
  | succ n ih =>
    obtain ⟨a, c, rfl⟩ : ∃ a c, l = a ++ [c] := by
      have : l ≠ [] := by intro e; simp [e] at hn
      exact ⟨l.dropLast, l.getLast this, (List.dropLast_concat_getLast this).symm⟩
    simp only [List.all_append, Bool.and_eq_true, List.all_cons, List.all_nil, Bool.and_true] at h
    have hb := okc_bound h.2
    have hc : bit (num (a ++ [c])) 1 0 = c := by
      apply UInt8.toNat_inj.1
      rw [bit_toNat, num_snoc]
      have := (okc_iff c).1 h.2
      simp; omega
    rw [ofl_succ, hc, num_snoc, show (2 * num a + (c.toNat - 48)) / 2 = num a from by omega, ih a h.1 (by simpa using hn)]
theorem ofn_num (s : ByteArray) (h : s.data.toList.all okc = true) : ofn (num s.data.toList) s.size = s := by
  have e : ofl (num s.data.toList) s.size = s.data.toList := by rw [← size_len]; exact ofl_num _ h
  unfold ofn; rw [e]

/-- the steps in the walk's own spelling -/
theorem or_step (m b : Nat) (hm : m < 2 ^ 63) (hb : b ≤ 1) : bits BinOp.or IntKind.u64 ((m : Int) * 2) (b : Int) = ((2 * m + b : Nat) : Int) := by
  have h := bits_or_u64_nat (2 * m) b (by omega) (by omega)
  have e : ((m : Int) * 2) = ((2 * m : Nat) : Int) := by omega
  rw [e, h]
  congr 1
  have := Nat.two_pow_add_eq_or_of_lt (i := 1) (b := b) (by omega) m
  simp only [Nat.pow_one] at this
  omega
theorem num_take_succ (s : ByteArray) (k : Nat) (h : k < s.size) : num (s.data.toList.take (k + 1)) = 2 * num (s.data.toList.take k) + (s[k].toNat - 48) := by
  rw [take_snoc s k h, num_snoc]
theorem right_bound {s : ByteArray} (h : right s = true) (k : Nat) (hk : k < s.size) : 48 ≤ s[k].toNat ∧ s[k].toNat ≤ 49 := by
  have := List.all_eq_true.1 (right_all h) s[k] (by show s.data[k] ∈ _; simp)
  rcases (okc_iff _).1 this with e | e <;> omega
theorem all_take {l : List UInt8} (h : l.all okc = true) (k : Nat) : (l.take k).all okc = true := by
  rw [List.all_eq_true] at *; intro c hc; exact h c (List.mem_of_mem_take hc)
theorem num_take_lt {s : ByteArray} (h : right s = true) (k : Nat) (hk : k < 64) : num (s.data.toList.take k) < 2 ^ 63 := by
  have h1 := num_lt _ (all_take (right_all h) k)
  have h2 : (s.data.toList.take k).length ≤ 63 := by rw [List.length_take]; omega
  exact Nat.lt_of_lt_of_le h1 (Nat.pow_le_pow_right (by omega) h2)
theorem byte_step (n k j : Nat) (h : n < 2 ^ k) (hk : k ≤ 64) : (48 + bits BinOp.and IntKind.u64 ((n : Int) / 2 ^ (k - 1 - j)) 1) % 256 = ((bit n k j).toNat : Int) := by
  have hp : 2 ^ k ≤ 2 ^ 64 := Nat.pow_le_pow_right (by omega) hk
  have hd := Nat.div_le_self n (2 ^ (k - 1 - j))
  have e : ((n : Int) / 2 ^ (k - 1 - j)) = ((n / 2 ^ (k - 1 - j) : Nat) : Int) := by simp
  rw [e, bit_toNat]
  generalize n / 2 ^ (k - 1 - j) = q at *
  rw [and_one_u64 _ (by omega) (by omega)]
  omega
theorem shr_zero (n k : Nat) (h : n < 2 ^ k) : ((n : Int) / 2 ^ k != 0) = false := by
  have e : ((n : Int) / 2 ^ k) = ((n / 2 ^ k : Nat) : Int) := by simp
  rw [e, Nat.div_eq_of_lt h]; rfl
theorem shr_some (n k : Nat) (h : 2 ^ k ≤ n) : ((n : Int) / 2 ^ (k : Int).toNat != 0) = true := by
  have e : ((n : Int) / 2 ^ (k : Int).toNat) = ((n / 2 ^ k : Nat) : Int) := by simp
  have := Nat.div_pos h (Nat.pow_pos (by omega))
  rw [e]; generalize n / 2 ^ k = q at *; simp; omega
theorem rowAt_some (n k j : Nat) (h : j < k) : ∃ v, (rowAt n k j)[j]? = some v :=
  ⟨_, List.getElem?_eq_getElem (by rw [rowAt_length _ _ _ (by omega)]; exact h)⟩

theorem ofl_cons (n k : Nat) : ofl n (k + 1) = UInt8.ofNat (48 + n / 2 ^ k % 2) :: ofl n k := by
  unfold ofl
  rw [List.range_succ_eq_map, List.map_cons, List.map_map]
  congr 1
  apply List.map_congr_left
  intro i hi
  rw [List.mem_range] at hi
  show bit n (k + 1) (i + 1) = bit n k i
  unfold bit
  rw [show k + 1 - 1 - (i + 1) = k - 1 - i from by omega]
theorem ofn_one {n k : Nat} (h : n / 2 ^ k % 2 = 1) : (⟨#[49]⟩ : ByteArray) ++ ofn n k = ofn n (k + 1) := by
  apply ByteArray.ext; apply Array.ext'
  rw [ByteArray.data_append, Array.toList_append]
  show [49] ++ ofl n k = ofl n (k + 1)
  rw [ofl_cons, h]; rfl
theorem ofn_zero {n k : Nat} (h : n / 2 ^ k % 2 = 0) : (⟨#[48]⟩ : ByteArray) ++ ofn n k = ofn n (k + 1) := by
  apply ByteArray.ext; apply Array.ext'
  rw [ByteArray.data_append, Array.toList_append]
  show [48] ++ ofl n k = ofl n (k + 1)
  rw [ofl_cons, h]; rfl

theorem cat_list (s t : ByteArray) : (s ++ t).data.toList = s.data.toList ++ t.data.toList := by
  rw [ByteArray.data_append, Array.toList_append]
theorem right_cat {s t : ByteArray} (hs : s.size ≤ 2000) (ht : t.size ≤ 2000) : right (s ++ t) = (right s && right t) := by
  unfold right
  rw [cat_list, List.all_append, ByteArray.size_append]
  have h1 : s.size ≤ 4000 := by omega
  have h2 : t.size ≤ 4000 := by omega
  have h3 : s.size + t.size ≤ 4000 := by omega
  simp only [h1, h2, h3, decide_true, Bool.true_and]
theorem num_cat (s t : ByteArray) : num (s ++ t).data.toList = num s.data.toList * 2 ^ t.size + num t.data.toList := by
  rw [cat_list, num_append, size_len]
theorem or_cat (x y k : Nat) (hx : x < 2 ^ 32) (hk : k ≤ 32) (hy : y < 2 ^ k) :
    bits BinOp.or IntKind.u64 (IntKind.u64.wrap ((x : Int) * 2 ^ k)) (y : Int) = ((x * 2 ^ k + y : Nat) : Int) := by
  have hp : 2 ^ k ≤ 2 ^ 32 := Nat.pow_le_pow_right (by omega) hk
  have hm : x * 2 ^ k ≤ (2 ^ 32 - 1) * 2 ^ 32 := Nat.mul_le_mul (by omega) hp
  have e : ((x : Int) * 2 ^ k) = ((x * 2 ^ k : Nat) : Int) := by simp
  have ho := Nat.two_pow_add_eq_or_of_lt (i := k) (b := y) hy x
  rw [Nat.mul_comm] at ho
  rw [e, ho]
  generalize 2 ^ k = p at *
  generalize x * p = q at *
  rw [IntWalk.u64_in _ (by omega), bits_or_u64_nat _ _ (by omega) (by omega)]

end Go.Proofs.Ythgbfidghhlldab.B

namespace Go.Proofs.Ythgbfidghhlldab
open Go.RowKit Go.Lib

/-- block g holds the bytes l from its first cell on, and they may be written -/
structure RowB (w : World) (g : Nat) (l : List UInt8) : Prop where
  cell : ∀ j c, l[j]? = some c → w.cell? ⟨g, j, none⟩ = some (.int .u8 c.toNat)
  free : ∀ j, j < l.length → w.frozen? ⟨g, j, none⟩ = false

theorem RowB.set {w : World} {g : Nat} {l : List UInt8} (h : RowB w g l) (j : Nat) (hj : j < l.length) (c : UInt8) : RowB (w.setCell ⟨g, j, none⟩ (.int .u8 c.toNat)) g (l.set j c) := by
  constructor
  · intro i d hd
    rw [List.getElem?_set] at hd
    by_cases e : j = i
    · subst e
      rw [if_pos rfl, if_pos hj] at hd
      cases hd
      exact World.cell?_setCell_same _ _ _ (h.cell j l[j] (List.getElem?_eq_getElem hj))
    · rw [if_neg e] at hd
      rw [World.cell?_setCell_other _ _ _ _ (show (⟨g, j, none⟩ : Addr) ≠ ⟨g, i, none⟩ from by simp)]
      exact h.cell i d hd
  · intro i hi
    rw [World.frozen?_setCell]
    exact h.free i (by simpa using hi)

theorem RowB.below {w w' : World} {g B : Nat} {l : List UInt8} (h : RowB w g l) (hb : Below B w w') (hg : g < B) : RowB w' g l :=
  ⟨fun j c hc => by rw [hb.cell (by exact hg)]; exact h.cell j c hc, fun j hj => by rw [hb.frozen (by exact hg)]; exact h.free j hj⟩

theorem RowB.back {P : Program} {w : World} {g k cap : Nat} {e : TypeId} {l : List UInt8} (src dst : TypeId) (hl : l.length = k) (hs : P.underlying src = some (.slice e)) (he : P.underlying e = some (.int .u8)) (hd : P.underlying dst = some .string)
    (h : RowB w g l) : (convert src dst (.slice (some ⟨g, 0, none⟩) k cap)).run P w = .ok (.string ⟨l.toArray⟩) w := by
  subst hl
  refine run_convert_bytes_back (P := P) w src dst e ⟨g, 0, none⟩ cap l hs he hd (fun i hi => ?_)
  have e1 : (⟨g, 0, none⟩ : Addr).add i = ⟨g, i, none⟩ := by simp [Addr.add]; intro h; omega
  rw [e1]
  exact h.cell i l[i] (List.getElem?_eq_getElem hi)

theorem bytesWorld_below (w : World) (e : TypeId) (s : ByteArray) : Below w.heap.size w (bytesWorld w e s) :=
  ⟨rfl, rfl, rfl, by rw [bytesWorld_size]; omega, fun k hk => bytesWorld_at_old w e s k hk⟩

theorem bytesWorld_row (w : World) (e : TypeId) (s : ByteArray) : RowB (bytesWorld w e s) w.heap.size s.data.toList := by
  constructor
  · intro j c hc
    have hj : j < s.size := by
      have := (List.getElem?_eq_some_iff.1 hc).1
      simpa using this
    rw [bytesWorld_cell w e s j hj, List.getD_eq_getElem?_getD, hc]; rfl
  · intro j hj
    have hj : j < s.size := by simpa using hj
    unfold World.frozen?
    simp only [bytesWorld_at_new]
    have hz : s.size ≤ (bytesCells w e s).size := by simp [bytesCells]
    simp; omega
end Go.Proofs.Ythgbfidghhlldab

namespace Go.Proofs.Ythgbfidghhlldab.B

/-- what is known -/
abbrev St := Nat × Nat
def kn (x : St) (c : Nat) : St := if c = x.1 then (if x.2 = 5 then x else (c, x.2 + 1)) else (c, 1)
def kind (x : St) (c : Nat) : Nat := if c = x.1 then (if x.2 = 5 then 3 else 1) else (if x.2 = 5 then 2 else 1)
/-- may it be -/
def may (x : St) : Prop := (x.1 = 0 ∧ x.2 = 0) ∨ ((x.1 = 48 ∨ x.1 = 49) ∧ 1 ≤ x.2 ∧ x.2 ≤ 5)

def mayB (b : Nat) (n : Int) : Bool := decide ((b = 0 ∧ n = 0) ∨ ((b = 48 ∨ b = 49) ∧ 1 ≤ n ∧ n ≤ 5))
def bitB (c : Nat) : Bool := decide (c = 48 ∨ c = 49)
theorem kn_err {b n c : Nat} (h : c = b) (h5 : n = 5) : kn (b, n) c = (b, n) := by simp [kn, h, h5]
theorem kn_more {b n c : Nat} (h : c = b) (h5 : n ≠ 5) : kn (b, n) c = (c, n + 1) := by simp [kn, h, h5]
theorem kn_one {b n c : Nat} (h : c ≠ b) : kn (b, n) c = (c, 1) := by simp [kn, h]
theorem kind_err {b n c : Nat} (h : c = b) (h5 : n = 5) : kind (b, n) c = 3 := by simp [kind, h, h5]
theorem kind_more {b n c : Nat} (h : c = b) (h5 : n ≠ 5) : kind (b, n) c = 1 := by simp [kind, h, h5]
theorem kind_put {b n c : Nat} (h : c ≠ b) (h5 : n = 5) : kind (b, n) c = 2 := by simp [kind, h, h5]
theorem kind_data {b n c : Nat} (h : c ≠ b) (h5 : n ≠ 5) : kind (b, n) c = 1 := by simp [kind, h, h5]
theorem kn_le {x : St} {c : Nat} (h : x.2 ≤ 5) : (kn x c).2 ≤ 5 := by
  unfold kn; split
  · split
    · exact h
    · simp only; omega
  · simp only; omega
theorem kind_le (x : St) (c : Nat) : kind x c = 1 ∨ kind x c = 2 ∨ kind x c = 3 := by
  unfold kind; split <;> split <;> simp
theorem may_kn {x : St} {c : Nat} (h : may x) (hc : c = 48 ∨ c = 49) : may (kn x c) := by
  obtain ⟨b, n⟩ := x
  unfold may kn at *
  simp only at *
  split
  · split
    · exact h
    · simp only; omega
  · simp only; omega
theorem may_zero : may (0, 0) := .inl ⟨rfl, rfl⟩

/-- the bit of the other kind -/
def other (c : UInt8) : UInt8 := c ^^^ 48 ^^^ 49
theorem other_48 : other 48 = 49 := rfl
theorem other_49 : other 49 = 48 := rfl
theorem okc_cases {c : UInt8} (h : okc c = true) : c = 48 ∨ c = 49 := by
  rcases (okc_iff c).1 h with e | e
  · exact .inl (UInt8.toNat_inj.1 e)
  · exact .inr (UInt8.toNat_inj.1 e)
theorem other_ne {c : UInt8} (h : okc c = true) : (other c).toNat ≠ c.toNat := by
  rcases okc_cases h with rfl | rfl <;> decide
theorem other_okc {c : UInt8} (h : okc c = true) : okc (other c) = true := by
  rcases okc_cases h with rfl | rfl <;> decide
theorem other_of {c d : UInt8} (hc : okc c = true) (hd : okc d = true) (h : d.toNat ≠ c.toNat) : d = other c := by
  rcases okc_cases hc with rfl | rfl <;> rcases okc_cases hd with rfl | rfl <;> first | rfl | exact absurd rfl h

/-- a row, stuffed: what is known behind it, and the row -/
def sStep (a : St × List UInt8) (c : UInt8) : St × List UInt8 :=
  if (kn a.1 c.toNat).2 = 5 then (kn (kn a.1 c.toNat) (other c).toNat, a.2 ++ [c, other c]) else (kn a.1 c.toNat, a.2 ++ [c])
def stf (l : List UInt8) : St × List UInt8 := l.foldl sStep ((0, 0), [])
theorem stf_snoc (l : List UInt8) (c : UInt8) : stf (l ++ [c]) = sStep (stf l) c := by simp [stf]
theorem stf_nil : stf [] = ((0, 0), []) := rfl

/-- a row, unstuffed: what is known behind it, and its data; or that it has an error -/
def uStep (a : Option (St × List UInt8)) (c : UInt8) : Option (St × List UInt8) :=
  match a with
  | none => none
  | some (x, d) => if kind x c.toNat = 3 then none else some (kn x c.toNat, if kind x c.toNat = 1 then d ++ [c] else d)
def ust (l : List UInt8) : Option (St × List UInt8) := l.foldl uStep (some ((0, 0), []))
theorem ust_snoc (l : List UInt8) (c : UInt8) : ust (l ++ [c]) = uStep (ust l) c := by simp [ust]
theorem ust_nil : ust [] = some ((0, 0), []) := rfl
theorem uStep_none (l : List UInt8) : l.foldl uStep none = none := by
  induction l with
  | nil => rfl
  | cons c l ih => exact ih

/-- reverse induction -/
theorem snoc_ind {P : List UInt8 → Prop} (h0 : P []) (h1 : ∀ l c, P l → P (l ++ [c])) (l : List UInt8) : P l := by
  generalize hn : l.length = n
  induction n generalizing l with
  | zero => rw [List.length_eq_zero_iff] at hn; subst hn; exact h0
  | succ n ih =>
    obtain ⟨a, c, rfl⟩ : ∃ a c, l = a ++ [c] := by
      have : l ≠ [] := by intro e; simp [e] at hn
      exact ⟨l.dropLast, l.getLast this, (List.dropLast_concat_getLast this).symm⟩
    exact h1 a c (ih a (by simpa using hn))

theorem all_snoc {l : List UInt8} {c : UInt8} : (l ++ [c]).all okc = true ↔ l.all okc = true ∧ okc c = true := by
  simp [List.all_append]

theorem kn_first {x : St} {c : Nat} (h : ¬ (c = x.1 ∧ x.2 = 5)) : (kn x c).1 = c := by
  unfold kn
  split
  · rw [if_neg (by omega)]
  · rfl

theorem kn_two {x : St} {c : Nat} (h : c ≠ x.1) : (kn x c).2 = 1 := by unfold kn; rw [if_neg h]

theorem sStep_le {a : St × List UInt8} {c : UInt8} (hc : okc c = true) (h : a.1.2 ≤ 4) : (sStep a c).1.2 ≤ 4 := by
  have hk := kn_le (x := a.1) (c := c.toNat) (by omega)
  have ho := other_ne hc
  have hf := kn_first (x := a.1) (c := c.toNat) (by omega)
  unfold sStep
  split
  · simp only
    rw [kn_two (by rw [hf]; exact ho)]
    omega
  · simp only; omega

theorem stf_le {l : List UInt8} : l.all okc = true → (stf l).1.2 ≤ 4 := by
  induction l using snoc_ind with
  | h0 => intro _; simp [stf_nil]
  | h1 l c ih => intro h; rw [stf_snoc]; exact sStep_le (all_snoc.1 h).2 (ih (all_snoc.1 h).1)

/-- what stuffing steps: in the walk's own cases -/
theorem stf_plain {l : List UInt8} {c : UInt8} (h : (kn (stf l).1 c.toNat).2 ≠ 5) : stf (l ++ [c]) = (kn (stf l).1 c.toNat, (stf l).2 ++ [c]) := by
  rw [stf_snoc]; unfold sStep; rw [if_neg h]
theorem stf_full {l : List UInt8} {c : UInt8} (h : (kn (stf l).1 c.toNat).2 = 5) : stf (l ++ [c]) = (kn (kn (stf l).1 c.toNat) (other c).toNat, (stf l).2 ++ [c, other c]) := by
  rw [stf_snoc]; unfold sStep; rw [if_pos h]

theorem ust_stf {l : List UInt8} : l.all okc = true → ust (stf l).2 = some ((stf l).1, l) := by
  induction l using snoc_ind with
  | h0 => intro _; rfl
  | h1 l c ih =>
    intro h
    obtain ⟨hl, hc⟩ := all_snoc.1 h
    have h4 := stf_le hl
    have hk : kind (stf l).1 c.toNat = 1 := by unfold kind; split <;> rw [if_neg (by omega)]
    have h1 : ust ((stf l).2 ++ [c]) = some (kn (stf l).1 c.toNat, l ++ [c]) := by
      rw [ust_snoc, ih hl]; unfold uStep; simp [hk]
    by_cases h5 : (kn (stf l).1 c.toNat).2 = 5
    · rw [stf_full h5]
      show ust ((stf l).2 ++ [c, other c]) = _
      have e : (stf l).2 ++ [c, other c] = ((stf l).2 ++ [c]) ++ [other c] := by simp
      have hf := kn_first (x := (stf l).1) (c := c.toNat) (by omega)
      have ho := other_ne hc
      have hk2 : kind (kn (stf l).1 c.toNat) (other c).toNat = 2 := by
        unfold kind; rw [if_neg (by rw [hf]; exact ho), if_pos h5]
      rw [e, ust_snoc, h1]; unfold uStep; simp [hk2]
    · rw [stf_plain h5]; exact h1

/-- how long a stuffed row is -/
theorem stf_length {l : List UInt8} : l.all okc = true → l.length ≤ (stf l).2.length ∧ 4 * ((stf l).2.length - l.length) + (stf l).1.2 ≤ l.length + 1 := by
  induction l using snoc_ind with
  | h0 => intro _; simp [stf_nil]
  | h1 l c ih =>
    intro h
    obtain ⟨hl, hc⟩ := all_snoc.1 h
    have h4 := stf_le hl
    obtain ⟨i1, i2⟩ := ih hl
    have hf := kn_first (x := (stf l).1) (c := c.toNat) (by omega)
    have hn : (kn (stf l).1 c.toNat).2 ≤ (stf l).1.2 + 1 := by
      unfold kn; split
      · rw [if_neg (by omega)]; simp
      · simp
    by_cases h5 : (kn (stf l).1 c.toNat).2 = 5
    · have ho := other_ne hc
      have hz : (kn (kn (stf l).1 c.toNat) (other c).toNat).2 = 1 := kn_two (by rw [hf]; exact ho)
      rw [stf_full h5]
      simp only [List.length_append, List.length_cons, List.length_nil, hz]
      omega
    · rw [stf_plain h5]
      simp only [List.length_append, List.length_cons, List.length_nil]
      omega

theorem stf_all {l : List UInt8} : l.all okc = true → (stf l).2.all okc = true := by
  induction l using snoc_ind with
  | h0 => intro _; rfl
  | h1 l c ih =>
    intro h
    obtain ⟨hl, hc⟩ := all_snoc.1 h
    by_cases h5 : (kn (stf l).1 c.toNat).2 = 5
    · rw [stf_full h5]; simp [List.all_append, ih hl, hc, other_okc hc]
    · rw [stf_plain h5]; simp [List.all_append, ih hl, hc]

theorem ust_may {l : List UInt8} : l.all okc = true → ∀ x d, ust l = some (x, d) → may x := by
  induction l using snoc_ind with
  | h0 => intro _ x d h; cases h; exact may_zero
  | h1 l c ih =>
    intro h x d hu
    obtain ⟨hl, hc⟩ := all_snoc.1 h
    rw [ust_snoc] at hu
    cases hx : ust l with
    | none => rw [hx] at hu; cases hu
    | some p =>
      obtain ⟨x', d'⟩ := p
      rw [hx] at hu
      unfold uStep at hu
      simp only at hu
      split at hu
      · cases hu
      · cases hu
        exact may_kn (ih hl _ _ hx) ((okc_iff c).1 hc)

theorem ust_all {l : List UInt8} : l.all okc = true → ∀ x d, ust l = some (x, d) → d.all okc = true ∧ d.length ≤ l.length := by
  induction l using snoc_ind with
  | h0 => intro _ x d h; cases h; exact ⟨rfl, Nat.le_refl _⟩
  | h1 l c ih =>
    intro h x d hu
    obtain ⟨hl, hc⟩ := all_snoc.1 h
    rw [ust_snoc] at hu
    cases hx : ust l with
    | none => rw [hx] at hu; cases hu
    | some p =>
      obtain ⟨x', d'⟩ := p
      obtain ⟨i1, i2⟩ := ih hl _ _ hx
      rw [hx] at hu
      unfold uStep at hu
      simp only at hu
      split at hu
      · cases hu
      · cases hu
        split
        · simp [List.all_append, i1, hc]; simpa using i2
        · simp; exact ⟨by simpa using i1, by omega⟩

/-- what is unstuffed of a row, stuffed, is the row; where five stand at its end, one bit more -/
theorem stf_ust {l : List UInt8} : l.all okc = true → ∀ x d, ust l = some (x, d) → (x.2 ≠ 5 → stf d = (x, l)) ∧ (x.2 = 5 → ∃ c, okc c = true ∧ x.1 = c.toNat ∧ stf d = (kn x (other c).toNat, l ++ [other c])) := by
  induction l using snoc_ind with
  | h0 => intro _ x d h; cases h; exact ⟨fun _ => rfl, fun h => by cases h⟩
  | h1 l c ih =>
    intro h x d hu
    obtain ⟨hl, hc⟩ := all_snoc.1 h
    rw [ust_snoc] at hu
    cases hx : ust l with
    | none => rw [hx] at hu; cases hu
    | some p =>
      obtain ⟨y, e⟩ := p
      obtain ⟨i1, i2⟩ := ih hl _ _ hx
      have hm := ust_may hl _ _ hx
      rw [hx] at hu
      unfold uStep at hu
      simp only at hu
      split at hu
      · cases hu
      · rename_i h3
        simp only [Option.some.injEq, Prod.mk.injEq] at hu
        obtain ⟨hu1, hu2⟩ := hu
        by_cases h5 : y.2 = 5
        · -- a bit that was put in
          obtain ⟨c0, hc0, hy, hs⟩ := i2 h5
          have hne : c.toNat ≠ c0.toNat := by
            intro e0; apply h3; unfold kind; rw [if_pos (by rw [hy]; exact e0), if_pos h5]
          have hk : kind y c.toNat = 2 := by unfold kind; rw [if_neg (by rw [hy]; exact hne), if_pos h5]
          rw [if_neg (by omega)] at hu2
          subst hu2
          have ho := other_of hc0 hc hne
          subst ho
          have hx2 : x.2 = 1 := by
            rw [← hu1]; unfold kn; rw [if_neg (by rw [hy]; exact hne)]
          exact ⟨fun _ => by rw [hs, hu1], fun h => by omega⟩
        · have hk : kind y c.toNat = 1 := by unfold kind; simp [h5]
          rw [if_pos hk] at hu2
          subst hu2
          have hs := i1 h5
          refine ⟨fun hn => ?_, fun hn => ⟨c, hc, ?_, ?_⟩⟩
          · rw [stf_plain (by rw [hs, hu1]; exact hn), hs, hu1]
          · rw [← hu1]; exact kn_first (by omega)
          · rw [stf_full (by rw [hs, hu1]; exact hn), hs, hu1]; simp
theorem ust_take (l : List UInt8) (k : Nat) (h : ust (l.take k) = none) : ust l = none := by
  have e : l = l.take k ++ l.drop k := (List.take_append_drop k l).symm
  rw [e]; unfold ust at *
  rw [List.foldl_append, h, uStep_none]
end Go.Proofs.Ythgbfidghhlldab.B

namespace Go.Proofs.Ythgbfidghhlldab.B

/-- what stuffing adds, from the front -/
def stfR (x : St) : List UInt8 → List UInt8
  | [] => []
  | c :: q => if (kn x c.toNat).2 = 5 then c :: other c :: stfR (kn (kn x c.toNat) (other c).toNat) q else c :: stfR (kn x c.toNat) q
theorem stf_front : ∀ (q p : List UInt8), (stf (p ++ q)).2 = (stf p).2 ++ stfR (stf p).1 q := by
  intro q
  induction q with
  | nil => intro p; simp [stfR]
  | cons c q ih =>
    intro p
    have e : p ++ c :: q = (p ++ [c]) ++ q := by simp
    rw [e, ih]
    by_cases h5 : (kn (stf p).1 c.toNat).2 = 5
    · rw [stf_full h5]; simp [stfR, h5]
    · rw [stf_plain h5]; simp [stfR, h5]

def bitAt (l : List UInt8) (i : Nat) : UInt8 := l.getD i 0
def cutL (l : List UInt8) (a b : Nat) : List UInt8 := (l.take b).drop a
/-- how long a head begins, that the row begins with; 3: too short to tell, 12: none -/
def baseL (l : List UInt8) : Nat := if bitAt l 13 = 49 then 39 else 19
def sizeL (l : List UInt8) : Nat × Nat :=
  if l.length < 14 then (0, 3)
  else if l.length < baseL l then (0, 3)
  else if 8 < num (cutL l (baseL l - 4) (baseL l)) then (0, 12)
  else (baseL l + 8 * (if bitAt l (baseL l - 7) = 49 then 0 else num (cutL l (baseL l - 4) (baseL l))), 0)
theorem bitAt_append {p : List UInt8} {i : Nat} (h : i < p.length) (q : List UInt8) : bitAt (p ++ q) i = bitAt p i := by
  unfold bitAt; rw [List.getD_eq_getElem?_getD, List.getD_eq_getElem?_getD, List.getElem?_append_left h]
theorem cutL_append {p : List UInt8} {b : Nat} (h : b ≤ p.length) (a : Nat) (q : List UInt8) : cutL (p ++ q) a b = cutL p a b := by
  unfold cutL; rw [List.take_append_of_le_length h]
theorem baseL_append {p : List UInt8} (h : 14 ≤ p.length) (q : List UInt8) : baseL (p ++ q) = baseL p := by
  unfold baseL; rw [bitAt_append (by omega)]
theorem baseL_or (l : List UInt8) : baseL l = 19 ∨ baseL l = 39 := by unfold baseL; split <;> simp
/-- what is told is told for good -/
theorem size_append {p : List UInt8} (h : (sizeL p).2 ≠ 3) (q : List UInt8) : sizeL (p ++ q) = sizeL p := by
  have h14 : ¬ p.length < 14 := by intro h'; apply h; unfold sizeL; rw [if_pos h']
  have hb : ¬ p.length < baseL p := by intro h'; apply h; unfold sizeL; rw [if_neg h14, if_pos h']
  have h14' : ¬ (p ++ q).length < 14 := by rw [List.length_append]; omega
  have hb' : ¬ (p ++ q).length < baseL p := by rw [List.length_append]; omega
  have hor := baseL_or p
  unfold sizeL
  rw [baseL_append (by omega), if_neg h14, if_neg hb, if_neg h14', if_neg hb', cutL_append (by omega), bitAt_append (by omega)]
theorem size_err (l : List UInt8) : (sizeL l).2 = 0 ∨ sizeL l = (0, 3) ∨ sizeL l = (0, 12) := by
  unfold sizeL
  split
  · exact .inr (.inl rfl)
  · split
    · exact .inr (.inl rfl)
    · split
      · exact .inr (.inr rfl)
      · exact .inl rfl

/-- there are a head and fifteen bits behind it, and nothing has to be put behind them -/
def stopB (x : St) (b : List UInt8) : Bool := decide ((sizeL b).2 = 0 ∧ b.length = (sizeL b).1 + 15 ∧ x.2 < 5)
def nextB (x : St) (b : List UInt8) (c : UInt8) : List UInt8 := if kind x c.toNat = 1 then b ++ [c] else b
def badB (b : List UInt8) : Bool := decide ((sizeL b).2 = 12 ∨ b.head? = some 49)
/-- what is unstuffed, bit by bit: the bits, how many they were, the error -/
def goL (x : St) (b : List UInt8) (n : Nat) : List UInt8 → List UInt8 × Nat × Nat
  | [] => if stopB x b then (b, n, 0) else ([], 0, 3)
  | c :: r =>
    if stopB x b then (b, n, 0)
    else if kind x c.toNat = 3 then ([], 0, 10)
    else if badB (nextB x b c) then ([], 0, 12)
    else goL (kn x c.toNat) (nextB x b c) (n + 1) r

theorem go_stop {x : St} {b : List UInt8} {n : Nat} (h : stopB x b = true) (r : List UInt8) : goL x b n r = (b, n, 0) := by
  cases r <;> simp [goL, h]
theorem go_append : ∀ (r1 : List UInt8) {x : St} {b : List UInt8} {n : Nat} {bits : List UInt8} {m : Nat}, goL x b n r1 = (bits, m, 0) → ∀ r2, goL x b n (r1 ++ r2) = (bits, m, 0) := by
  intro r1
  induction r1 with
  | nil =>
    intro x b n bits m h r2
    by_cases hs : stopB x b = true
    · rw [go_stop hs] at h ⊢; exact h
    · simp [goL, hs] at h
  | cons c r ih =>
    intro x b n bits m h r2
    by_cases hs : stopB x b = true
    · rw [go_stop hs] at h ⊢; exact h
    · rw [List.cons_append]
      unfold goL at h ⊢
      rw [if_neg hs] at h ⊢
      split at h
      · simp at h
      · rename_i hk
        rw [if_neg hk]
        split at h
        · simp at h
        · rename_i hz
          rw [if_neg hz]
          exact ih h r2
theorem go_short : ∀ (r1 : List UInt8) {x : St} {b : List UInt8} {n : Nat} {bits : List UInt8} {m : Nat} {r2 : List UInt8}, goL x b n (r1 ++ r2) = (bits, m, 0) → n + r1.length < m → goL x b n r1 = ([], 0, 3) := by
  intro r1
  induction r1 with
  | nil =>
    intro x b n bits m r2 h hm
    by_cases hs : stopB x b = true
    · rw [go_stop hs] at h; simp at h hm; omega
    · simp [goL, hs]
  | cons c r ih =>
    intro x b n bits m r2 h hm
    by_cases hs : stopB x b = true
    · rw [go_stop hs] at h; simp at h hm; omega
    · rw [List.cons_append] at h
      unfold goL at h ⊢
      rw [if_neg hs] at h ⊢
      split at h
      · simp at h
      · rename_i hk
        rw [if_neg hk]
        split at h
        · simp at h
        · rename_i hz
          rw [if_neg hz]
          exact ih h (by simp at hm; omega)
/-- what is read is what stuffing would have put there -/
theorem go_ok : ∀ (r : List UInt8) {p : List UInt8} {x : St} {b : List UInt8} {bits : List UInt8} {m : Nat}, ust p = some (x, b) → goL x b p.length r = (bits, m, 0) →
    p.length ≤ m ∧ m ≤ p.length + r.length ∧ ∃ y, ust ((p ++ r).take m) = some (y, bits) ∧ stopB y bits = true := by
  intro r
  induction r with
  | nil =>
    intro p x b bits m hu h
    by_cases hs : stopB x b = true
    · rw [go_stop hs] at h
      simp at h
      obtain ⟨rfl, rfl⟩ := h
      exact ⟨Nat.le_refl _, by simp, x, by simpa using hu, hs⟩
    · simp [goL, hs] at h
  | cons c r ih =>
    intro p x b bits m hu h
    by_cases hs : stopB x b = true
    · rw [go_stop hs] at h
      simp at h
      obtain ⟨rfl, rfl⟩ := h
      exact ⟨Nat.le_refl _, by simp, x, by simpa using hu, hs⟩
    · unfold goL at h
      rw [if_neg hs] at h
      split at h
      · simp at h
      · rename_i hk
        split at h
        · simp at h
        · have hu' : ust (p ++ [c]) = some (kn x c.toNat, nextB x b c) := by
            rw [ust_snoc, hu]; unfold uStep nextB; simp only; rw [if_neg hk]
          have := ih (p := p ++ [c]) hu' (by simpa using h)
          simp only [List.length_append, List.length_cons, List.length_nil, List.append_assoc, List.cons_append, List.nil_append] at this ⊢
          obtain ⟨h1, h2, h3⟩ := this
          exact ⟨by omega, by omega, h3⟩

/-- a head and its sum -/
def Good (l : List UInt8) : Prop := l.all okc = true ∧ 15 ≤ l.length ∧ sizeL l = (l.length - 15, 0) ∧ l.head? = some 48
theorem good_prefix {p q : List UInt8} (h : Good (p ++ q)) : (sizeL p).2 ≠ 12 ∧ ((sizeL p).2 = 0 → p.length = (sizeL p).1 + 15 → q = []) := by
  obtain ⟨_, h15, hz, _⟩ := h
  constructor
  · intro e
    have := size_append (p := p) (by omega) q
    rw [this] at hz; rw [hz] at e; cases e
  · intro e hl
    have := size_append (p := p) (by omega) q
    rw [this] at hz
    rw [hz] at hl
    simp only [List.length_append] at hl h15
    exact List.length_eq_zero_iff.1 (by omega)
theorem stop_good {l : List UInt8} (h : Good l) {x : St} (hx : x.2 ≤ 4) : stopB x l = true := by
  obtain ⟨_, h15, hz, _⟩ := h
  unfold stopB
  rw [hz]; simp; omega
theorem go_stf : ∀ (q p : List UInt8), Good (p ++ q) → ∀ rest, goL (stf p).1 p (stf p).2.length (stfR (stf p).1 q ++ rest) = (p ++ q, (stf (p ++ q)).2.length, 0) := by
  intro q
  induction q with
  | nil =>
    intro p hg rest
    rw [List.append_nil] at hg ⊢
    exact go_stop (stop_good hg (stf_le hg.1)) _
  | cons c q ih =>
    intro p hg rest
    have e : p ++ c :: q = (p ++ [c]) ++ q := by simp
    have hg' := hg
    rw [e] at hg'
    have hall := hg'.1
    rw [List.all_append, Bool.and_eq_true] at hall
    obtain ⟨hp, hc⟩ := all_snoc.1 hall.1
    have h4 := stf_le hp
    have hns : ¬ stopB (stf p).1 p = true := by
      unfold stopB
      rw [decide_eq_true_eq]
      intro ⟨h1, h2, _⟩
      have := (good_prefix hg).2 h1 h2
      cases this
    have hk : kind (stf p).1 c.toNat = 1 := by unfold kind; split <;> rw [if_neg (by omega)]
    have h12 : ¬ badB (p ++ [c]) = true := by
      unfold badB
      rw [decide_eq_true_eq]
      rintro (h | h)
      · exact (good_prefix hg').1 h
      · have := hg'.2.2.2
        rw [List.head?_append, h] at this
        simp at this
    have hn1 : nextB (stf p).1 p c = p ++ [c] := by unfold nextB; rw [if_pos hk]
    have := ih (p ++ [c]) hg' rest
    rw [← e] at this
    by_cases h5 : (kn (stf p).1 c.toNat).2 = 5
    · rw [stf_full h5] at this
      have hk2 : kind (kn (stf p).1 c.toNat) (other c).toNat = 2 := by
        unfold kind
        rw [if_neg (by rw [kn_first (by omega)]; exact other_ne hc), if_pos h5]
      have hns2 : ¬ stopB (kn (stf p).1 c.toNat) (p ++ [c]) = true := by unfold stopB; rw [decide_eq_true_eq, h5]; omega
      have hn2 : nextB (kn (stf p).1 c.toNat) (p ++ [c]) (other c) = p ++ [c] := by unfold nextB; rw [if_neg (by omega)]
      have hfr : stfR (stf p).1 (c :: q) = c :: other c :: stfR (kn (kn (stf p).1 c.toNat) (other c).toNat) q := by rw [stfR, if_pos h5]
      rw [hfr, List.cons_append, List.cons_append, goL, if_neg hns, if_neg (by omega), hn1, if_neg h12, goL, if_neg hns2, if_neg (by omega), hn2, if_neg h12]
      rw [← this]
      simp [Nat.add_assoc]
    · rw [stf_plain h5] at this
      have hfr : stfR (stf p).1 (c :: q) = c :: stfR (kn (stf p).1 c.toNat) q := by rw [stfR, if_neg h5]
      rw [hfr, List.cons_append, goL, if_neg hns, if_neg (by omega), hn1, if_neg h12]
      rw [← this]
      simp
/-- a row that begins with a head and its sum, stuffed -/
theorem go_good {l : List UInt8} (h : Good l) (rest : List UInt8) : goL (0, 0) [] 0 ((stf l).2 ++ rest) = (l, (stf l).2.length, 0) := by
  have h1 := go_stf l [] (by simpa using h) rest
  have h2 := stf_front l []
  simp only [List.nil_append, stf_nil] at h1 h2
  rw [← h2] at h1
  exact h1
end Go.Proofs.Ythgbfidghhlldab.B

namespace Go.Proofs.Ythgbfidghhlldab.B

structure Fr where
  id : Nat
  ext : Bool
  remote : Bool
  dlc : Nat
  data : List UInt8
theorem Fr.same {f g : Fr} (h1 : f.id = g.id) (h2 : f.ext = g.ext) (h3 : f.remote = g.remote) (h4 : f.dlc = g.dlc) (h5 : f.data = g.data) : f = g := by
  cases f; cases g; simp_all
/-- may it be -/
def FrR (f : Fr) : Prop := f.dlc ≤ 8 ∧ (if f.remote then f.data = [] else f.data.length = f.dlc) ∧ f.id < (if f.ext then 536870912 else 2048)

def rb (b : Bool) : UInt8 := if b then 49 else 48
theorem rb_okc (b : Bool) : okc (rb b) = true := by cases b <;> rfl
theorem rb_iff (b : Bool) : (rb b == 49) = b := by cases b <;> rfl
theorem rb_49 (b : Bool) : rb b = 49 ↔ b = true := by cases b <;> decide
def idL (f : Fr) : List UInt8 := if f.ext then (ofl f.id 29).take 11 ++ [49, 49] ++ (ofl f.id 29).drop 11 else ofl f.id 11
def dataL (d : List UInt8) : List UInt8 := d.flatMap fun c => ofl c.toNat 8
def preL (f : Fr) : List UInt8 := [48] ++ idL f ++ [rb f.remote, 48, 48] ++ ofl f.dlc 4
def headL (f : Fr) : List UInt8 := preL f ++ dataL f.data
def base (f : Fr) : Nat := if f.ext then 39 else 19

theorem dataL_length (d : List UInt8) : (dataL d).length = 8 * d.length := by
  induction d with
  | nil => rfl
  | cons c d ih =>
    have e : dataL (c :: d) = ofl c.toNat 8 ++ dataL d := by simp [dataL]
    rw [e, List.length_append, ofl_length, ih, List.length_cons]; omega
theorem idL_length (f : Fr) : (idL f).length = if f.ext then 31 else 11 := by
  unfold idL; split <;> simp [ofl_length]
theorem preL_length (f : Fr) : (preL f).length = base f := by
  unfold preL base
  simp only [List.length_append, idL_length, ofl_length, List.length_cons, List.length_nil]
  split <;> rfl
theorem headL_length (f : Fr) : (headL f).length = base f + 8 * f.data.length := by
  unfold headL; rw [List.length_append, preL_length, dataL_length]
theorem dataL_all (d : List UInt8) : (dataL d).all okc = true := by
  rw [List.all_eq_true]; intro c hc
  obtain ⟨x, _, hx⟩ := List.mem_flatMap.1 hc
  exact List.all_eq_true.1 (ofl_all _ _) c hx
theorem idL_all (f : Fr) : (idL f).all okc = true := by
  unfold idL
  have h := ofl_all f.id 29
  split
  · rw [List.all_append, List.all_append, all_take h]
    have : ((ofl f.id 29).drop 11).all okc = true := by
      rw [List.all_eq_true] at *; intro x hx; exact h x (List.mem_of_mem_drop hx)
    rw [this]; rfl
  · exact ofl_all _ _
theorem headL_all (f : Fr) : (headL f).all okc = true := by
  unfold headL preL
  simp only [List.all_append, idL_all, ofl_all, dataL_all, List.all_cons, List.all_nil, rb_okc]
  rfl
theorem headL_head (f : Fr) (q : List UInt8) : (headL f ++ q).head? = some 48 := rfl

/-- places in rows that are put together -/
theorem bitAt_right {a : List UInt8} {i : Nat} (h : a.length ≤ i) (b : List UInt8) : bitAt (a ++ b) i = bitAt b (i - a.length) := by
  unfold bitAt; rw [List.getD_eq_getElem?_getD, List.getD_eq_getElem?_getD, List.getElem?_append_right h]
theorem cutL_right {a : List UInt8} {i j : Nat} (h : a.length ≤ i) (b : List UInt8) : cutL (a ++ b) i j = cutL b (i - a.length) (j - a.length) := by
  unfold cutL
  rw [List.drop_take, List.drop_append, List.drop_of_length_le h, List.nil_append, List.drop_take]
  congr 1; omega
theorem cutL_whole (a b : List UInt8) : cutL (a ++ b) 0 a.length = a := by
  unfold cutL; rw [List.drop_zero, List.take_left]
theorem cutL_at (a b c : List UInt8) (i j : Nat) (hi : i = a.length) (hj : j = a.length + b.length) : cutL (a ++ (b ++ c)) i j = b := by
  subst hi hj
  rw [cutL_right (Nat.le_refl _), Nat.sub_self, show a.length + b.length - a.length = b.length from by omega, cutL_whole]

theorem head_13 (f : Fr) (q : List UInt8) : bitAt (headL f ++ q) 13 = if f.ext then 49 else 48 := by
  have e : headL f ++ q = ([48] ++ idL f) ++ ([rb f.remote, 48, 48] ++ (ofl f.dlc 4 ++ (dataL f.data ++ q))) := by unfold headL preL; simp
  rw [e]
  cases he : f.ext
  · have hl : ([48] ++ idL f : List UInt8).length = 12 := by rw [List.length_append, idL_length, he]; rfl
    rw [bitAt_right (by omega), hl]; rfl
  · have hl : ((ofl f.id 29).take 11).length = 11 := by simp [ofl_length]
    have e2 : [48] ++ idL f = ([48] ++ (ofl f.id 29).take 11) ++ ([49, 49] ++ (ofl f.id 29).drop 11) := by unfold idL; rw [he]; simp
    have hl2 : ([48] ++ (ofl f.id 29).take 11 : List UInt8).length = 12 := by rw [List.length_append, hl]; rfl
    rw [e2, List.append_assoc, bitAt_right (by omega), hl2]; rfl
theorem head_base (f : Fr) (q : List UInt8) : baseL (headL f ++ q) = base f := by
  unfold baseL base; rw [head_13]; cases f.ext <;> rfl
theorem head_r (f : Fr) (q : List UInt8) : bitAt (headL f ++ q) (base f - 7) = rb f.remote := by
  have e : headL f ++ q = ([48] ++ idL f) ++ ([rb f.remote, 48, 48] ++ (ofl f.dlc 4 ++ (dataL f.data ++ q))) := by unfold headL preL; simp
  have hl : ([48] ++ idL f : List UInt8).length = base f - 7 := by rw [List.length_append, idL_length]; unfold base; split <;> rfl
  rw [e, bitAt_right (by omega), hl, Nat.sub_self]; rfl
theorem head_dlc (f : Fr) (q : List UInt8) : cutL (headL f ++ q) (base f - 4) (base f) = ofl f.dlc 4 := by
  have e : headL f ++ q = ([48] ++ idL f ++ [rb f.remote, 48, 48]) ++ (ofl f.dlc 4 ++ (dataL f.data ++ q)) := by unfold headL preL; simp
  have hl : ([48] ++ idL f ++ [rb f.remote, 48, 48] : List UInt8).length = base f - 4 := by
    rw [List.length_append, List.length_append, idL_length]; unfold base; split <;> rfl
  have hb : 19 ≤ base f := by unfold base; split <;> omega
  rw [e, cutL_at _ _ _ _ _ hl.symm (by rw [hl, ofl_length]; omega)]
theorem head_size {f : Fr} (h : FrR f) (q : List UInt8) : sizeL (headL f ++ q) = ((headL f).length, 0) := by
  obtain ⟨h8, hd, _⟩ := h
  have hb : base f = 19 ∨ base f = 39 := by unfold base; split <;> simp
  have hl := headL_length f
  unfold sizeL
  rw [head_base, head_dlc, head_r, num_ofl f.dlc 4 (by omega), List.length_append, if_neg (by omega), if_neg (by omega), if_neg (by omega), hl]
  congr 2
  cases hr : f.remote
  · rw [hr] at hd; simp only [Bool.false_eq_true, if_false] at hd
    rw [if_neg (by decide), hd]
  · rw [hr] at hd; simp only [if_true] at hd
    rw [if_pos (by decide), hd]; rfl

/-- the bytes of a row of bits -/
def bytesL : Nat → List UInt8 → List UInt8
  | 0, _ => []
  | k + 1, l => UInt8.ofNat (num (l.take 8)) :: bytesL k (l.drop 8)
theorem bytesL_dataL (d : List UInt8) : bytesL d.length (dataL d) = d := by
  induction d with
  | nil => rfl
  | cons c d ih =>
    have e : dataL (c :: d) = ofl c.toNat 8 ++ dataL d := by simp [dataL]
    have h8 : (ofl c.toNat 8).length = 8 := ofl_length _ _
    have h1 : (ofl c.toNat 8 ++ dataL d).take 8 = ofl c.toNat 8 := by rw [List.take_append_of_le_length (by omega), List.take_of_length_le (by omega)]
    have h2 : (ofl c.toNat 8 ++ dataL d).drop 8 = dataL d := by rw [List.drop_append, List.drop_of_length_le (by omega), h8]; simp
    rw [e, List.length_cons, bytesL, h1, h2, ih, num_ofl _ _ (by have := c.toNat_lt; omega)]
    simp
def decode (l : List UInt8) : Fr where
  id := if bitAt l 13 = 49 then num (cutL l 1 12) * 262144 + num (cutL l 14 32) else num (cutL l 1 12)
  ext := bitAt l 13 == 49
  remote := bitAt l (baseL l - 7) == 49
  dlc := num (cutL l (baseL l - 4) (baseL l))
  data := bytesL ((l.length - baseL l) / 8) (l.drop (baseL l))
theorem head_id {f : Fr} (h : FrR f) : (if bitAt (headL f) 13 = 49 then num (cutL (headL f) 1 12) * 262144 + num (cutL (headL f) 14 32) else num (cutL (headL f) 1 12)) = f.id := by
  obtain ⟨_, _, hid⟩ := h
  have h13 := head_13 f []
  rw [List.append_nil] at h13
  rw [h13]
  cases he : f.ext
  · rw [he] at hid; simp only [Bool.false_eq_true, if_false] at hid
    rw [if_neg (by decide)]
    have e : headL f = [48] ++ (ofl f.id 11 ++ ([rb f.remote, 48, 48] ++ (ofl f.dlc 4 ++ dataL f.data))) := by unfold headL preL idL; rw [he]; simp
    have c1 : cutL (headL f) 1 12 = ofl f.id 11 := by rw [e]; exact cutL_at _ _ _ _ _ rfl (by rw [ofl_length]; rfl)
    rw [c1, num_ofl _ _ (by omega)]
  · rw [he] at hid; simp only [if_true] at hid
    rw [if_pos (by decide)]
    have hl : ((ofl f.id 29).take 11).length = 11 := by simp [ofl_length]
    have hl2 : ((ofl f.id 29).drop 11).length = 18 := by simp [ofl_length]
    have e : headL f = [48] ++ ((ofl f.id 29).take 11 ++ ([49, 49] ++ (ofl f.id 29).drop 11 ++ ([rb f.remote, 48, 48] ++ (ofl f.dlc 4 ++ dataL f.data)))) := by unfold headL preL idL; rw [he]; simp
    have e2 : headL f = ([48] ++ (ofl f.id 29).take 11 ++ [49, 49]) ++ ((ofl f.id 29).drop 11 ++ ([rb f.remote, 48, 48] ++ (ofl f.dlc 4 ++ dataL f.data))) := by rw [e]; simp
    have c1 : cutL (headL f) 1 12 = (ofl f.id 29).take 11 := by rw [e]; exact cutL_at _ _ _ _ _ rfl (by rw [hl]; rfl)
    have c2 : cutL (headL f) 14 32 = (ofl f.id 29).drop 11 := by
      rw [e2]
      exact cutL_at _ _ _ _ _ (by rw [List.length_append, List.length_append, hl]; rfl) (by rw [List.length_append, List.length_append, hl, hl2]; rfl)
    have hn := num_append ((ofl f.id 29).take 11) ((ofl f.id 29).drop 11)
    rw [List.take_append_drop, num_ofl _ _ (by omega), hl2] at hn
    have h18 : (2 : Nat) ^ 18 = 262144 := rfl
    rw [h18] at hn
    rw [c1, c2, ← hn]
/-- a head's frame -/
theorem decode_head {f : Fr} (h : FrR f) : decode (headL f) = f := by
  have h13 := head_13 f []
  have hb := head_base f []
  have hr := head_r f []
  have hd := head_dlc f []
  rw [List.append_nil] at h13 hb hr hd
  obtain ⟨h8, hdd, hid⟩ := id h
  apply Fr.same
  · exact head_id h
  · show (bitAt (headL f) 13 == 49) = f.ext
    rw [h13]; cases f.ext <;> rfl
  · show (bitAt (headL f) (baseL (headL f) - 7) == 49) = f.remote
    rw [hb, hr, rb_iff]
  · show num (cutL (headL f) (baseL (headL f) - 4) (baseL (headL f))) = f.dlc
    rw [hb, hd, num_ofl _ _ (by omega)]
  · show bytesL (((headL f).length - baseL (headL f)) / 8) ((headL f).drop (baseL (headL f))) = f.data
    rw [hb, headL_length, show (base f + 8 * f.data.length - base f) / 8 = f.data.length from by omega]
    unfold headL
    rw [List.drop_append, List.drop_of_length_le (by rw [preL_length]; exact Nat.le_refl _), preL_length, Nat.sub_self, List.drop_zero, List.nil_append, bytesL_dataL]
end Go.Proofs.Ythgbfidghhlldab.B

namespace Go.Proofs.Ythgbfidghhlldab.B

/-- what a sum becomes by a bit -/
def stepN (s : Nat) (b : Bool) : Nat := (2 * s % 32768) ^^^ (if s.testBit 14 != b then 17817 else 0)
theorem stepN_lt (s : Nat) (b : Bool) : stepN s b < 32768 := by
  unfold stepN
  refine Nat.xor_lt_two_pow (n := 15) (Nat.mod_lt _ (by omega)) ?_
  split <;> omega
theorem stepN_bit (s : Nat) (b : Bool) (i : Nat) (hi : i < 15) : (stepN s b).testBit i = ((decide (1 ≤ i) && s.testBit (i - 1)) != ((s.testBit 14 != b) && Nat.testBit 17817 i)) := by
  unfold stepN
  rw [Nat.testBit_xor]
  have h1 : (2 * s % 32768).testBit i = (decide (1 ≤ i) && s.testBit (i - 1)) := by
    rw [show (32768 : Nat) = 2 ^ 15 from rfl, Nat.testBit_mod_two_pow, Nat.mul_comm, show s * 2 = s * 2 ^ 1 from by simp, Nat.testBit_mul_two_pow]
    simp [hi]
  rw [h1]
  cases s.testBit 14 != b <;> simp
theorem nat_eq_15 {a b : Nat} (ha : a < 32768) (hb : b < 32768) (h : ∀ i, i < 15 → a.testBit i = b.testBit i) : a = b := by
  apply Nat.eq_of_testBit_eq
  intro i
  by_cases hi : i < 15
  · exact h i hi
  · have hp : 2 ^ 15 ≤ 2 ^ i := Nat.pow_le_pow_right (by omega) (by omega)
    rw [Nat.testBit_lt_two_pow (Nat.lt_of_lt_of_le ha hp), Nat.testBit_lt_two_pow (Nat.lt_of_lt_of_le hb hp)]
/-- a step is linear -/
theorem stepN_xor (s t : Nat) (b c : Bool) : stepN (s ^^^ t) (b != c) = stepN s b ^^^ stepN t c := by
  apply nat_eq_15 (stepN_lt _ _) (Nat.xor_lt_two_pow (n := 15) (stepN_lt _ _) (stepN_lt _ _))
  intro i hi
  rw [Nat.testBit_xor, stepN_bit _ _ _ hi, stepN_bit _ _ _ hi, stepN_bit _ _ _ hi, Nat.testBit_xor, Nat.testBit_xor]
  cases s.testBit 14 <;> cases t.testBit 14 <;> cases s.testBit (i - 1) <;> cases t.testBit (i - 1) <;> cases b <;> cases c <;> cases decide (1 ≤ i) <;> cases Nat.testBit 17817 i <;> rfl

/-- the sum that bits make of s -/
def sumB (s : Nat) (l : List Bool) : Nat := l.foldl stepN s
theorem sumB_append (s : Nat) (a b : List Bool) : sumB s (a ++ b) = sumB (sumB s a) b := by simp [sumB]
theorem sumB_snoc (s : Nat) (a : List Bool) (c : Bool) : sumB s (a ++ [c]) = stepN (sumB s a) c := by simp [sumB]
theorem sumB_lt (l : List Bool) : sumB 0 l < 32768 := by
  rcases List.eq_nil_or_concat l with rfl | ⟨a, c, rfl⟩
  · simp [sumB]
  · rw [List.concat_eq_append, sumB_snoc]; exact stepN_lt _ _
def xorB (a b : List Bool) : List Bool := List.zipWith (fun x y => x != y) a b
theorem sumB_xor (s t : Nat) (a b : List Bool) (h : a.length = b.length) : sumB (s ^^^ t) (xorB a b) = sumB s a ^^^ sumB t b := by
  induction a generalizing b s t with
  | nil => cases b with | nil => rfl | cons _ _ => simp at h
  | cons x a ih =>
    cases b with
    | nil => simp at h
    | cons y b =>
      simp only [xorB, List.zipWith_cons_cons, sumB, List.foldl_cons]
      rw [stepN_xor]
      exact ih _ _ b (by simpa using h)
theorem stepN_zero : stepN 0 false = 0 := by decide
theorem stepN_one : stepN 0 true = 17817 := by decide
theorem sumB_zeros (n : Nat) : sumB 0 (List.replicate n false) = 0 := by
  induction n with
  | zero => rfl
  | succ n ih => rw [List.replicate_succ', sumB_snoc, ih, stepN_zero]

/-- one step back: what ends in m zeros began in m - 1, and its highest bit was the bit -/
theorem stepN_back {s : Nat} {b : Bool} {m : Nat} (hm : 1 ≤ m) (hm2 : m ≤ 15) (h : stepN s b % 2 ^ m = 0) : s.testBit 14 = b ∧ s % 2 ^ (m - 1) = 0 := by
  have hbit : ∀ i, i < m → (stepN s b).testBit i = false := by
    intro i hi
    have : (stepN s b % 2 ^ m).testBit i = (stepN s b).testBit i := by rw [Nat.testBit_mod_two_pow]; simp [hi]
    rw [← this, h]; simp
  have h0 := hbit 0 (by omega)
  rw [stepN_bit s b 0 (by omega)] at h0
  have hd : (s.testBit 14 != b) = false := by
    cases hx : s.testBit 14 != b
    · rfl
    · have hp : Nat.testBit 17817 0 = true := by decide
      rw [hx, hp] at h0
      simp at h0
  refine ⟨by simpa using hd, ?_⟩
  apply Nat.eq_of_testBit_eq
  intro i
  rw [Nat.testBit_mod_two_pow, Nat.zero_testBit]
  by_cases hi : i < m - 1
  · have := hbit (i + 1) (by omega)
    rw [stepN_bit s b (i + 1) (by omega), hd] at this
    simp at this
    simp [this]
  · simp [hi]
theorem sumB_back (l : List Bool) : ∀ {s m : Nat}, m ≤ 15 → l.length ≤ m → sumB s l % 2 ^ m = 0 → s % 2 ^ (m - l.length) = 0 := by
  induction l with
  | nil => intro s m _ _ h; simpa [sumB] using h
  | cons b l ih =>
    intro s m h15 hl h
    have h1 : stepN s b % 2 ^ (m - l.length) = 0 := ih (s := stepN s b) h15 (by simp at hl; omega) h
    have h2 := (stepN_back (by simp at hl; omega) (by omega) h1).2
    rwa [show m - l.length - 1 = m - (b :: l).length from by simp; omega] at h2
/-- a zero behind it makes nothing of what is something -/
theorem stepN_ne {s : Nat} (hs : s < 32768) (h : s ≠ 0) : stepN s false ≠ 0 := by
  intro e
  have := stepN_back (s := s) (b := false) (m := 15) (by omega) (by omega) (by rw [e])
  apply h
  apply nat_eq_15 hs (by omega)
  intro i hi
  rw [Nat.zero_testBit]
  by_cases h14 : i = 14
  · rw [h14]; exact this.1
  · have h2 : (s % 2 ^ 14).testBit i = s.testBit i := by rw [Nat.testBit_mod_two_pow]; simp; omega
    rw [← h2, show s % 2 ^ 14 = 0 from this.2, Nat.zero_testBit]
theorem sumB_ne {s : Nat} (hs : s < 32768) (h : s ≠ 0) (n : Nat) : sumB s (List.replicate n false) ≠ 0 ∧ sumB s (List.replicate n false) < 32768 := by
  induction n with
  | zero => exact ⟨h, hs⟩
  | succ n ih => rw [List.replicate_succ', sumB_snoc]; exact ⟨stepN_ne ih.2 ih.1, stepN_lt _ _⟩
/-- fifteen bits or fewer, not all zero, leave something -/
theorem burst_ne (l : List Bool) (hl : l.length ≤ 15) (h : true ∈ l) : sumB 0 l ≠ 0 := by
  intro e
  induction l with
  | nil => simp at h
  | cons b l ih =>
    cases b with
    | false =>
      refine ih (by simp at hl; omega) (by simpa using h) ?_
      simpa [sumB, stepN_zero] using e
    | true =>
      have e1 : sumB 17817 l = 0 := by simpa [sumB, stepN_one] using e
      have := sumB_back l (s := 17817) (m := 15) (by omega) (by simp at hl; omega) (by rw [e1])
      simp at hl
      have h2 : (17817 % 2 ^ (15 - l.length)) % 2 = 0 := by rw [this]
      rw [Nat.mod_mod_of_dvd _ (show 2 ∣ 2 ^ (15 - l.length) from by rw [show 15 - l.length = (14 - l.length) + 1 from by omega, Nat.pow_succ]; exact Nat.dvd_mul_left _ _)] at h2
      omega
/-- so do they between zeros -/
theorem burst_between (a b : Nat) (l : List Bool) (hl : l.length ≤ 15) : sumB 0 (List.replicate a false ++ l ++ List.replicate b false) = 0 ↔ ¬ true ∈ l := by
  rw [sumB_append, sumB_append, sumB_zeros]
  constructor
  · intro e h
    exact (sumB_ne (sumB_lt l) (burst_ne l hl h) b).1 e
  · intro h
    have : l = List.replicate l.length false := by
      rw [List.eq_replicate_iff]
      refine ⟨rfl, fun x hx => ?_⟩
      cases x
      · rfl
      · exact absurd hx h
    rw [this, sumB_zeros, sumB_zeros]

/-! ### dividing on paper -/
/-- the digits while they are divided: i are done, r is what the sum is by them -/
def win (msg : Nat → Bool) (i r j : Nat) : Bool := if j < i then false else (msg j != (decide (j < i + 15) && r.testBit (14 - (j - i))))
/-- the divisor's digits -/
def divisor (k : Nat) : Bool := Nat.testBit 50585 (15 - k)
theorem win_top (msg : Nat → Bool) (i r : Nat) : win msg i r i = (msg i != r.testBit 14) := by simp [win]
theorem divisor_low (m : Nat) (h : m < 15) : Nat.testBit 50585 m = Nat.testBit 17817 m := by
  rw [show (50585 : Nat) = 2 ^ 15 + 17817 from rfl, Nat.testBit_two_pow_add_gt h]
theorem win_step (msg : Nat → Bool) (i r j : Nat) : win msg (i + 1) (stepN r (msg i)) j = (win msg i r j != (decide (i ≤ j ∧ j ≤ i + 15) && (win msg i r i && divisor (j - i)))) := by
  rw [win_top]
  by_cases h0 : j < i
  · simp [win, h0, show j < i + 1 from by omega, show ¬ i ≤ j from by omega]
  · by_cases h1 : j = i
    · subst h1
      simp only [win, if_pos (show j < j + 1 from by omega), if_neg (show ¬ j < j from by omega), Nat.sub_self]
      have : divisor 0 = true := by decide
      simp [this]
    · obtain ⟨k, rfl⟩ : ∃ k, j = i + k := ⟨j - i, by omega⟩
      have hk : 1 ≤ k := by omega
      simp only [win, if_neg (show ¬ i + k < i + 1 from by omega), if_neg (show ¬ i + k < i from by omega)]
      rw [show i + k - i = k from by omega, show i + k - (i + 1) = k - 1 from by omega]
      by_cases h15 : k ≤ 15
      · have hd : decide (i ≤ i + k ∧ i + k ≤ i + 15) = true := by simp; omega
        have hs : decide (i + k < i + 1 + 15) = true := by simp; omega
        have hdiv : divisor k = Nat.testBit 17817 (15 - k) := by unfold divisor; exact divisor_low _ (by omega)
        rw [hd, hs, hdiv, show 14 - (k - 1) = 15 - k from by omega, stepN_bit _ _ _ (by omega)]
        have hx : (decide (1 ≤ 15 - k) && r.testBit (15 - k - 1)) = (decide (i + k < i + 15) && r.testBit (14 - k)) := by
          rw [show 15 - k - 1 = 14 - k from by omega]
          congr 1
          rw [decide_eq_decide]; omega
        rw [hx]
        cases msg (i + k) <;> cases msg i <;> cases r.testBit 14 <;> cases decide (i + k < i + 15) && r.testBit (14 - k) <;> cases Nat.testBit 17817 (15 - k) <;> rfl
      · have hd : decide (i ≤ i + k ∧ i + k ≤ i + 15) = false := by simp; omega
        have hs : decide (i + k < i + 1 + 15) = false := by simp; omega
        have hs2 : decide (i + k < i + 15) = false := by simp; omega
        rw [hd, hs, hs2]; simp

end Go.Proofs.Ythgbfidghhlldab.B

namespace Go.Proofs.Ythgbfidghhlldab.B
open Go.RowKit

theorem u32_in (a : Nat) (ha : a < 4294967296) : (BitVec.ofInt 32 (a : Int)).toNat = a := by
  rw [BitVec.ofInt_natCast, BitVec.toNat_ofNat]; exact Nat.mod_eq_of_lt (by omega)
theorem and_u32 (a b : Nat) (ha : a < 4294967296) (hb : b < 4294967296) : bits BinOp.and IntKind.u32 (a : Int) (b : Int) = ((a &&& b : Nat) : Int) := by
  have hx : a &&& b < 2 ^ 32 := Nat.and_lt_two_pow _ (by omega)
  show IntKind.u32.wrap ((BitVec.ofInt 32 (a : Int) &&& BitVec.ofInt 32 (b : Int)).toNat : Int) = _
  rw [BitVec.toNat_and, u32_in a ha, u32_in b hb, IntKind.wrap_u32]
  omega
theorem xor_u32 (a b : Nat) (ha : a < 4294967296) (hb : b < 4294967296) : bits BinOp.xor IntKind.u32 (a : Int) (b : Int) = ((a ^^^ b : Nat) : Int) := by
  have hx : a ^^^ b < 2 ^ 32 := Nat.xor_lt_two_pow (by omega) (by omega)
  show IntKind.u32.wrap ((BitVec.ofInt 32 (a : Int) ^^^ BitVec.ofInt 32 (b : Int)).toNat : Int) = _
  rw [BitVec.toNat_xor, u32_in a ha, u32_in b hb, IntKind.wrap_u32]
  omega
theorem top_bit (n : Nat) : (n &&& 16384 != 0) = n.testBit 14 := by
  have hb : ∀ i, (n &&& 16384).testBit i = (n.testBit i && decide (14 = i)) := fun i => by
    rw [Nat.testBit_and, show (16384 : Nat) = 2 ^ 14 from rfl, Nat.testBit_two_pow]
  cases h : n.testBit 14
  · have : n &&& 16384 = 0 := Nat.eq_of_testBit_eq fun i => by
      rw [hb, Nat.zero_testBit]
      by_cases hi : 14 = i
      · subst hi; simp [h]
      · simp [hi]
    rw [this]; rfl
  · have h2 := hb 14
    rw [h] at h2
    rw [bne_iff_ne]
    intro e
    rw [e] at h2
    simp at h2
theorem top_high (n : Nat) : ((n % 32768 / 16384 : Nat) = 1) ↔ n.testBit 14 = true := by
  rw [Nat.testBit_eq_decide_div_mod_eq]
  simp
  omega
theorem low_15 (n : Nat) : n &&& 32767 = n % 32768 := Nat.and_two_pow_sub_one_eq_mod n 15

theorem up_u32 (n : Nat) : bits BinOp.and IntKind.u32 ((n : Int) * 2 % 4294967296) 32767 = ((2 * n % 32768 : Nat) : Int) := by
  have h := and_u32 (2 * n % 4294967296) 32767 (by omega) (by omega)
  rw [low_15] at h
  have e : ((n : Int) * 2 % 4294967296) = ((2 * n % 4294967296 : Nat) : Int) := by omega
  rw [e]
  refine h.trans ?_
  omega
theorem xor_turns (m : Nat) (h : m < 32768) : bits BinOp.xor IntKind.u32 (m : Int) 17817 = ((m ^^^ 17817 : Nat) : Int) := xor_u32 m 17817 (by omega) (by omega)
theorem top_u32 (n : Nat) (h : n < 4294967296) : (bits BinOp.and IntKind.u32 (n : Int) 16384 != 0) = n.testBit 14 := by
  rw [show (16384 : Int) = ((16384 : Nat) : Int) from rfl, and_u32 n 16384 h (by omega), ← top_bit]
  rw [Bool.eq_iff_iff, bne_iff_ne, bne_iff_ne]
  omega
theorem int_dec (c d : Nat) : ((c : Int) == (d : Int)) = decide (c = d) := by
  rw [Bool.eq_iff_iff, beq_iff_eq, decide_eq_true_iff]; omega
theorem step_yes (n c : Nat) (hn : n < 4294967296) (h : (!(bits BinOp.and IntKind.u32 (n : Int) 16384 != 0) == ((c : Int) == 49)) = true) :
    bits BinOp.xor IntKind.u32 (bits BinOp.and IntKind.u32 ((n : Int) * 2 % 4294967296) 32767) 17817 = ((stepN n (decide (c = 49)) : Nat) : Int) := by
  rw [top_u32 n hn, show ((49 : Int)) = ((49 : Nat) : Int) from rfl, int_dec] at h
  rw [up_u32, xor_turns _ (by omega)]
  unfold stepN
  have h' : (n.testBit 14 != decide (c = 49)) = true := h
  rw [h']; rfl
theorem step_no (n c : Nat) (hn : n < 4294967296) (h : (!(bits BinOp.and IntKind.u32 (n : Int) 16384 != 0) == ((c : Int) == 49)) = false) :
    bits BinOp.and IntKind.u32 ((n : Int) * 2 % 4294967296) 32767 = ((stepN n (decide (c = 49)) : Nat) : Int) := by
  rw [top_u32 n hn, show ((49 : Int)) = ((49 : Nat) : Int) from rfl, int_dec] at h
  rw [up_u32]
  unfold stepN
  have h' : (n.testBit 14 != decide (c = 49)) = false := h
  rw [h']; simp

theorem high_15 (n : Nat) (b : Bool) : (((n : Int) % 32768 / 16384) != (if b then 1 else 0)) = (n.testBit 14 != b) := by
  have h := top_high n
  have h2 : n % 32768 / 16384 ≤ 1 := by omega
  cases hb : n.testBit 14
  · have h3 : n % 32768 / 16384 = 0 := by
      rw [hb] at h
      have : ¬ n % 32768 / 16384 = 1 := fun e => by have := h.1 e; cases this
      omega
    have e : (n : Int) % 32768 / 16384 = 0 := by omega
    rw [e]; cases b <;> rfl
  · have h3 := h.2 hb
    have e : (n : Int) % 32768 / 16384 = 1 := by omega
    rw [e]; cases b <;> rfl
theorem ref_yes {n c : Nat} {b : Bool} (h1 : ((c : Int) == 49) = b) (h2 : (((n : Int) % 32768 / 16384) != (if b then 1 else 0)) = true) :
    bits BinOp.xor IntKind.u32 (2 * ((n : Int) % 32768) % 32768) 17817 = ((stepN n (decide (c = 49)) : Nat) : Int) := by
  rw [show ((49 : Int)) = ((49 : Nat) : Int) from rfl, int_dec] at h1
  rw [high_15] at h2
  have e : (2 * ((n : Int) % 32768) % 32768) = ((2 * n % 32768 : Nat) : Int) := by omega
  rw [e, xor_turns _ (by omega)]
  unfold stepN
  rw [h1, h2]; rfl
theorem ref_no {n c : Nat} {b : Bool} (h1 : ((c : Int) == 49) = b) (h2 : (((n : Int) % 32768 / 16384) != (if b then 1 else 0)) = false) :
    (2 * ((n : Int) % 32768) % 32768) = ((stepN n (decide (c = 49)) : Nat) : Int) := by
  rw [show ((49 : Int)) = ((49 : Nat) : Int) from rfl, int_dec] at h1
  rw [high_15] at h2
  have e : (2 * ((n : Int) % 32768) % 32768) = ((2 * n % 32768 : Nat) : Int) := by omega
  rw [e]
  unfold stepN
  rw [h1, h2]; simp

/-- a bit of a row -/
def one (c : UInt8) : Bool := c == 49
theorem one_iff (c : UInt8) : one c = true ↔ c.toNat = 49 := by
  unfold one
  rw [beq_iff_eq]
  exact ⟨fun h => by rw [h]; rfl, fun h => UInt8.toNat_inj.1 h⟩
theorem one_dec (c : UInt8) : one c = decide (c.toNat = 49) := by
  rw [Bool.eq_iff_iff, one_iff]; simp
/-- what a row's bytes make of s -/
def crc (s : Nat) (l : List UInt8) : Nat := sumB s (l.map one)
theorem crc_nil (s : Nat) : crc s [] = s := rfl
theorem crc_append (s : Nat) (a b : List UInt8) : crc s (a ++ b) = crc (crc s a) b := by unfold crc; rw [List.map_append, sumB_append]
theorem crc_snoc (s : Nat) (a : List UInt8) (c : UInt8) : crc s (a ++ [c]) = stepN (crc s a) (one c) := by unfold crc; rw [List.map_append, List.map_singleton, sumB_snoc]
theorem crc_lt (l : List UInt8) : crc 0 l < 32768 := sumB_lt _
/-- a row's sum -/
def sum (s : ByteArray) : Nat := crc 0 s.data.toList
theorem sum_lt (s : ByteArray) : sum s < 32768 := crc_lt _
theorem crc_take_succ (m : Nat) (s : ByteArray) (k : Nat) (h : k < s.size) : crc m (s.data.toList.take (k + 1)) = stepN (crc m (s.data.toList.take k)) (one s[k]) := by
  rw [take_snoc s k h, crc_snoc]
theorem crc_lt32 (n : Nat) (hn : n < 4294967296) (l : List UInt8) : crc n l < 4294967296 := by
  rcases List.eq_nil_or_concat l with rfl | ⟨a, c, rfl⟩
  · exact hn
  · rw [List.concat_eq_append, crc_snoc]
    have := stepN_lt (crc n a) (one c)
    omega
/-- what tells whether a row ends with its sum -/
def check (s : ByteArray) : Bool := decide (15 ≤ s.size) && right s && (sum s == 0)
/-- a row with its sum behind it -/
def framed (s : ByteArray) : ByteArray := s ++ ofn (sum s) 15
theorem check_short {s : ByteArray} (h : s.size < 15) : check s = false := by unfold check; simp; omega
theorem check_bad {s : ByteArray} (h : right s = false) : check s = false := by unfold check; simp [h]
theorem check_good {s : ByteArray} (h : 15 ≤ s.size) (hr : right s = true) : (((sum s : Nat) : Int) == 0) = check s := by
  unfold check
  rw [hr, Bool.eq_iff_iff, beq_iff_eq]
  simp [h]
end Go.Proofs.Ythgbfidghhlldab.B

namespace Go.Proofs.Ythgbfidghhlldab.B

/-- a bit turned -/
def turn (c : UInt8) : UInt8 := c ^^^ 1
theorem okc_turn {c : UInt8} (h : okc c = true) : okc (turn c) = true := by
  rcases (okc_iff c).1 h with e | e
  · rw [UInt8.toNat_inj.1 (show c.toNat = (48 : UInt8).toNat from e)]; rfl
  · rw [UInt8.toNat_inj.1 (show c.toNat = (49 : UInt8).toNat from e)]; rfl
theorem turn_turn (c : UInt8) : turn (turn c) = c := by
  unfold turn; rw [UInt8.xor_assoc, UInt8.xor_self, UInt8.xor_zero]
theorem turn_ne (c : UInt8) : turn c ≠ c := by
  intro h
  have : c ^^^ (c ^^^ 1) = c ^^^ c := congrArg (c ^^^ ·) h
  rw [← UInt8.xor_assoc, UInt8.xor_self, UInt8.zero_xor] at this
  exact absurd this (by decide)
theorem turn_step {c : UInt8} (h : okc c = true) : bits BinOp.xor IntKind.u8 (c.toNat : Int) 1 = ((turn c).toNat : Int) := by
  rcases (okc_iff c).1 h with e | e
  · rw [UInt8.toNat_inj.1 (show c.toNat = (48 : UInt8).toNat from e)]; decide
  · rw [UInt8.toNat_inj.1 (show c.toNat = (49 : UInt8).toNat from e)]; decide

/-- a row with the bits at these places turned, one behind the other -/
def flips (l : List UInt8) (zs : List Int) : List UInt8 := zs.foldl (fun l z => l.modify z.toNat turn) l
theorem flips_snoc (l : List UInt8) (zs : List Int) (z : Int) : flips l (zs ++ [z]) = (flips l zs).modify z.toNat turn := by simp [flips]
theorem flips_length (l : List UInt8) (zs : List Int) : (flips l zs).length = l.length := by
  unfold flips
  induction zs generalizing l with
  | nil => rfl
  | cons z zs ih => rw [List.foldl_cons, ih, List.length_modify]
theorem all_modify {l : List UInt8} (h : l.all okc = true) (i : Nat) : (l.modify i turn).all okc = true := by
  rw [List.all_eq_true] at *
  intro c hc
  obtain ⟨j, hj, rfl⟩ := List.getElem_of_mem hc
  rw [List.getElem_modify]
  split
  · exact okc_turn (h _ (List.getElem_mem _))
  · exact h _ (List.getElem_mem _)
theorem flips_all {l : List UInt8} (h : l.all okc = true) (zs : List Int) : (flips l zs).all okc = true := by
  unfold flips
  induction zs generalizing l with
  | nil => exact h
  | cons z zs ih => rw [List.foldl_cons]; exact ih (all_modify h _)
/-- are all of these places of a row of n bits -/
def places (n : Nat) (zs : List Int) : Bool := zs.all fun z => decide (0 ≤ z ∧ z < n)
theorem take_succ_getD (zs : List Int) (k : Nat) (h : k < zs.length) : zs.take (k + 1) = zs.take k ++ [zs.getD k 0] := by
  rw [List.take_succ_eq_append_getElem h, List.getD_eq_getElem?_getD, List.getElem?_eq_getElem h]; rfl
theorem places_bad {n : Nat} {zs : List Int} {k : Nat} (h : k < zs.length) (hb : ¬ (0 ≤ zs.getD k 0 ∧ zs.getD k 0 < n)) : places n zs = false := by
  rw [Bool.eq_false_iff]; intro e
  have := List.all_eq_true.1 e zs[k] (List.getElem_mem _)
  rw [List.getD_eq_getElem?_getD, List.getElem?_eq_getElem h] at hb
  simp at this hb
  omega
def preP (n : Nat) (zs : List Int) (k : Nat) : Prop := places n (zs.take k) = true
theorem preP_zero (n : Nat) (zs : List Int) : preP n zs 0 := by simp [preP, places]
theorem preP_succ {n : Nat} {zs : List Int} {k : Nat} (hk : k < zs.length) (h : preP n zs k) (h1 : 0 ≤ zs.getD k 0) (h2 : zs.getD k 0 < n) : preP n zs (k + 1) := by
  unfold preP places at *
  rw [take_succ_getD _ _ hk, List.all_append, h]
  generalize zs.getD k 0 = z at *
  simp; omega
theorem preP_full {n : Nat} {zs : List Int} (h : preP n zs zs.length) : places n zs = true := by
  unfold preP at h; rwa [List.take_length] at h
theorem flips_succ (l : List UInt8) (zs : List Int) (k : Nat) (h : k < zs.length) : flips l (zs.take (k + 1)) = (flips l (zs.take k)).modify (zs.getD k 0).toNat turn := by
  rw [take_succ_getD _ _ h, flips_snoc]
theorem modify_set {l : List UInt8} {i : Nat} (h : i < l.length) : l.modify i turn = l.set i (turn l[i]) := by
  apply List.ext_getElem?
  intro j
  rw [List.getElem?_modify, List.getElem?_set]
  by_cases e : i = j
  · subst e; simp [h]
  · simp [e]
theorem flips_two (l : List UInt8) (i : Nat) : flips l [(i : Int), (i : Int)] = l := by
  apply List.ext_getElem?
  intro j
  simp only [flips, List.foldl_cons, List.foldl_nil, Int.toNat_natCast, List.getElem?_modify]
  by_cases e : i = j
  · subst e; simp; cases l[i]? <;> simp [turn_turn]
  · simp [e]
theorem flips_one_ne (l : List UInt8) (i : Nat) (h : i < l.length) : flips l [(i : Int)] ≠ l := by
  intro e
  have := congrArg (·[i]?) e
  simp [flips, h] at this
  exact turn_ne _ this

end Go.Proofs.Ythgbfidghhlldab.B

namespace Go.Proofs.Ythgbfidghhlldab.B

/-- a bit turned by cutting -/
def turnB (s : ByteArray) (i : Nat) : ByteArray := ⟨(s.data.toList.modify i turn).toArray⟩

theorem turnB_eq {s : ByteArray} {i : Nat} (h : i < s.size) (c : UInt8) (hc : turn s[i] = c) : s.extract 0 i ++ ⟨#[c]⟩ ++ s.extract (i + 1) s.size = turnB s i := by
  apply ByteArray.ext; apply Array.ext'
  rw [ByteArray.data_append, Array.toList_append, ByteArray.data_append, Array.toList_append]
  have hl : i < s.data.toList.length := by rw [size_len]; exact h
  have e1 : (s.extract 0 i).data.toList = s.data.toList.take i := by rw [Lib.extract_data]; simp
  have e2 : (s.extract (i + 1) s.size).data.toList = s.data.toList.drop (i + 1) := by
    rw [Lib.extract_data, List.take_of_length_le (by rw [List.length_drop, size_len]; omega)]
  rw [e1, e2]
  show s.data.toList.take i ++ [c] ++ s.data.toList.drop (i + 1) = s.data.toList.modify i turn
  rw [List.modify_eq_take_cons_drop hl, ← hc]
  simp
  rfl

end Go.Proofs.Ythgbfidghhlldab.B

namespace Go.Proofs.Ythgbfidghhlldab.B
open Go.RowKit

theorem stepN_same (s : Nat) : stepN s (s.testBit 14) = 2 * s % 32768 := by unfold stepN; simp
theorem crc_cons (s : Nat) (c : UInt8) (l : List UInt8) : crc s (c :: l) = crc (stepN s (one c)) l := rfl
/-- a sum's own bits take it to 0 -/
theorem crc_self (m : Nat) : ∀ k, k ≤ 15 → crc (m * 2 ^ (15 - k) % 32768) (ofl m k) = 0 := by
  intro k
  induction k with
  | zero => intro _; simp [ofl, crc_nil]
  | succ k ih =>
    intro hk
    rw [ofl_cons, crc_cons]
    have h1 : one (UInt8.ofNat (48 + m / 2 ^ k % 2)) = m.testBit k := by
      rw [one_dec, Nat.testBit_eq_decide_div_mod_eq, UInt8.toNat_ofNat_of_lt' (by show _ < 2 ^ 8; omega), decide_eq_decide]
      omega
    have h2 : (m * 2 ^ (15 - (k + 1)) % 32768).testBit 14 = m.testBit k := by
      rw [show (32768 : Nat) = 2 ^ 15 from rfl, Nat.testBit_mod_two_pow, Nat.testBit_mul_two_pow, show 14 - (15 - (k + 1)) = k from by omega]
      simp
    rw [h1, ← h2, stepN_same]
    rw [show 2 * (m * 2 ^ (15 - (k + 1)) % 32768) % 32768 = m * 2 ^ (15 - k) % 32768 from by
      rw [show 15 - k = (15 - (k + 1)) + 1 from by omega, Nat.pow_succ, ← Nat.mul_assoc, Nat.mul_comm 2, Nat.mod_mul_mod]]
    exact ih (by omega)
theorem sum_framed (s : ByteArray) : sum (framed s) = 0 := by
  unfold framed sum
  rw [cat_list, crc_append, ofn_list]
  have h := crc_self (crc 0 s.data.toList) 15 (by omega)
  have hl := crc_lt s.data.toList
  rwa [show crc 0 s.data.toList * 2 ^ (15 - 15) % 32768 = crc 0 s.data.toList from by simp; omega] at h
theorem framed_size (s : ByteArray) : (framed s).size = s.size + 15 := by unfold framed; rw [ByteArray.size_append, ofn_size]
theorem framed_right {s : ByteArray} (hr : right s = true) (h : s.size ≤ 3985) : right (framed s) = true := by
  unfold right
  rw [framed_size]
  have h1 := right_all hr
  unfold framed
  rw [cat_list, List.all_append, h1, ofn_list, ofl_all]
  simp; omega
theorem framed_check {s : ByteArray} (hr : right s = true) (h : s.size ≤ 3985) : check (framed s) = true := by
  unfold check
  rw [framed_right hr h, framed_size, sum_framed]
  simp

/-! ### turned bits -/
theorem one_turn {c : UInt8} (h : okc c = true) : one (turn c) = !one c := by
  rcases (okc_iff c).1 h with e | e
  · rw [UInt8.toNat_inj.1 (show c.toNat = (48 : UInt8).toNat from e)]; rfl
  · rw [UInt8.toNat_inj.1 (show c.toNat = (49 : UInt8).toNat from e)]; rfl
theorem one_inj {c d : UInt8} (hc : okc c = true) (hd : okc d = true) (h : one c = one d) : c = d := by
  rw [one_dec, one_dec, decide_eq_decide] at h
  apply UInt8.toNat_inj.1
  rcases (okc_iff c).1 hc with e | e <;> rcases (okc_iff d).1 hd with f | f <;> omega
theorem map_one_inj {a b : List UInt8} (ha : a.all okc = true) (hb : b.all okc = true) (h : a.map one = b.map one) : a = b := by
  induction a generalizing b with
  | nil => cases b with | nil => rfl | cons _ _ => simp at h
  | cons x a ih =>
    cases b with
    | nil => simp at h
    | cons y b =>
      simp only [List.all_cons, Bool.and_eq_true] at ha hb
      simp only [List.map_cons, List.cons.injEq] at h
      rw [one_inj ha.1 hb.1 h.1, ih ha.2 hb.2 h.2]

/-- which bits are turned: those of the pattern's first i that are within the row -/
def err (p pat i j : Nat) : Bool := decide (p ≤ j) && decide (j < p + i) && pat.testBit (j - p)
def errs (p pat i n : Nat) : List Bool := (List.range n).map (err p pat i)
def hit (t : ByteArray) (p pat : Nat) : Nat → ByteArray
  | 0 => t
  | i + 1 => if p + i < t.size ∧ pat.testBit i = true then turnB (hit t p pat i) (p + i) else hit t p pat i
theorem turnB_size (s : ByteArray) (i : Nat) : (turnB s i).size = s.size := by
  show (s.data.toList.modify i turn).length = s.size
  rw [List.length_modify, size_len]
theorem turnB_right {s : ByteArray} (i : Nat) (h : right s = true) : right (turnB s i) = true := by
  unfold right
  rw [turnB_size, show (turnB s i).data.toList = s.data.toList.modify i turn from rfl, all_modify (right_all h)]
  have := right_size h
  simp [this]
theorem hit_size (t : ByteArray) (p pat i : Nat) : (hit t p pat i).size = t.size := by
  induction i with
  | zero => rfl
  | succ i ih => unfold hit; split; rw [turnB_size, ih]; exact ih
theorem hit_right {t : ByteArray} (p pat i : Nat) (h : right t = true) : right (hit t p pat i) = true := by
  induction i with
  | zero => exact h
  | succ i ih => unfold hit; split; exact turnB_right _ ih; exact ih
theorem err_succ (p pat i j : Nat) : err p pat (i + 1) j = if j = p + i then pat.testBit i else err p pat i j := by
  unfold err
  by_cases h : j = p + i
  · subst h; simp
  · rw [if_neg h]
    by_cases h2 : p ≤ j
    · by_cases h3 : j < p + i
      · simp [h2, h3, show j < p + (i + 1) from by omega]
      · simp [h3, show ¬ j < p + (i + 1) from by omega]
    · simp [h2]
theorem err_at (p pat i : Nat) : err p pat i (p + i) = false := by unfold err; simp
theorem hit_bits {t : ByteArray} (p pat i : Nat) (h : right t = true) : (hit t p pat i).data.toList.map one = xorB (t.data.toList.map one) (errs p pat i t.size) := by
  induction i with
  | zero =>
    apply List.ext_getElem
    · simp [xorB, errs, hit]
    · intro j h1 h2
      have hf : err p pat 0 j = false := by
        unfold err
        by_cases h3 : p ≤ j
        · simp [show ¬ j < p from by omega]
        · simp [h3]
      simp only [xorB, errs, List.getElem_zipWith, List.getElem_map, List.getElem_range, hf]
      simp [hit]
  | succ i ih =>
    apply List.ext_getElem
    · rw [List.length_map, size_len, hit_size]; simp [xorB, errs]
    · intro j h1 h2
      rw [List.length_map, size_len, hit_size] at h1
      have hj : ((hit t p pat i).data.toList.map one)[j]'(by rw [List.length_map, size_len, hit_size]; exact h1) = (xorB (t.data.toList.map one) (errs p pat i t.size))[j]'(by simp [xorB, errs]; exact h1) := by simp only [ih]
      simp only [xorB, errs, List.getElem_zipWith, List.getElem_map, List.getElem_range] at hj ⊢
      rw [err_succ]
      have hok : okc ((hit t p pat i).data.toList[j]'(by rw [size_len, hit_size]; exact h1)) = true := List.all_eq_true.1 (right_all (hit_right p pat i h)) _ (List.getElem_mem _)
      by_cases hc : p + i < t.size ∧ pat.testBit i = true
      · have e : (hit t p pat (i + 1)).data.toList = (hit t p pat i).data.toList.modify (p + i) turn := by
          show (if p + i < t.size ∧ pat.testBit i = true then turnB (hit t p pat i) (p + i) else hit t p pat i).data.toList = _
          rw [if_pos hc]; rfl
        simp only [e, List.getElem_modify]
        by_cases hji : p + i = j
        · subst hji
          rw [if_pos rfl, if_pos rfl, one_turn hok, hj, err_at, hc.2]
          cases one t.data.toList[p + i] <;> rfl
        · rw [if_neg hji, if_neg (fun e => hji e.symm)]
          exact hj
      · have e : (hit t p pat (i + 1)).data.toList = (hit t p pat i).data.toList := by
          show (if p + i < t.size ∧ pat.testBit i = true then turnB (hit t p pat i) (p + i) else hit t p pat i).data.toList = _
          rw [if_neg hc]
        simp only [e]
        by_cases hji : j = p + i
        · subst hji
          rw [if_pos rfl, hj, err_at]
          have : pat.testBit i = false := by
            cases hp : pat.testBit i
            · rfl
            · exact absurd ⟨h1, hp⟩ hc
          rw [this]
        · rw [if_neg hji]
          exact hj
theorem errs_form (p pat n : Nat) (h : p ≤ n) : ∃ m b, ∃ l : List Bool, l.length ≤ 15 ∧ errs p pat 15 n = List.replicate p false ++ l ++ List.replicate b false ∧ m = l.length := by
  obtain ⟨m, hm⟩ : ∃ m, m = min 15 (n - p) := ⟨_, rfl⟩
  obtain ⟨b, hb⟩ : ∃ b, b = n - p - m := ⟨_, rfl⟩
  refine ⟨_, b, (List.range m).map (fun x => err p pat 15 (p + x)), by simp; omega, ?_, rfl⟩
  unfold errs
  rw [show n = p + m + b from by omega, List.range_add, List.range_add, List.map_append, List.map_append, List.map_map, List.map_map]
  congr 1
  · congr 1
    rw [List.eq_replicate_iff]
    refine ⟨by simp, fun x hx => ?_⟩
    simp only [List.mem_map, List.mem_range] at hx
    obtain ⟨j, hj, rfl⟩ := hx
    unfold err
    simp; omega
  · rw [List.eq_replicate_iff]
    refine ⟨by simp, fun x hx => ?_⟩
    simp only [List.mem_map, List.mem_range, Function.comp] at hx
    obtain ⟨j, hj, rfl⟩ := hx
    unfold err
    simp; omega
theorem xorB_false (l : List Bool) : xorB l (List.replicate l.length false) = l := by
  induction l with
  | nil => rfl
  | cons x l ih => simp only [xorB, List.length_cons, List.replicate_succ, List.zipWith_cons_cons] at ih ⊢; rw [ih]; simp
theorem xorB_self {l e : List Bool} (hl : l.length = e.length) (h : xorB l e = l) : ¬ true ∈ e := by
  induction l generalizing e with
  | nil => cases e with | nil => simp | cons _ _ => simp at hl
  | cons x l ih =>
    cases e with
    | nil => simp at hl
    | cons y e =>
      simp only [xorB, List.zipWith_cons_cons, List.cons.injEq] at h
      have h1 : y = false := by cases x <;> cases y <;> simp_all
      have h2 := ih (by simpa using hl) h.2
      simp [h1, h2]
/-- bits turned within fifteen are told by the sum -/
theorem burst_told {t : ByteArray} (p pat : Nat) (h : right t = true) (h0 : sum t = 0) (hp : p ≤ t.size) : sum (hit t p pat 15) = 0 ↔ hit t p pat 15 = t := by
  obtain ⟨m, b, l, hl, hE, _⟩ := errs_form p pat t.size hp
  have hlen : (t.data.toList.map one).length = (errs p pat 15 t.size).length := by simp [errs]
  have hs : sum (hit t p pat 15) = sumB 0 (errs p pat 15 t.size) := by
    unfold sum crc
    rw [hit_bits p pat 15 h]
    have := sumB_xor 0 0 _ _ hlen
    rw [Nat.xor_self] at this
    rw [this, show sumB 0 (t.data.toList.map one) = 0 from h0, Nat.zero_xor]
  rw [hs, hE, burst_between p b l hl]
  have hmem : true ∈ errs p pat 15 t.size ↔ true ∈ l := by
    rw [hE]; simp
  rw [← hmem]
  constructor
  · intro hn
    have hrep : errs p pat 15 t.size = List.replicate (t.data.toList.map one).length false := by
      rw [List.eq_replicate_iff]
      refine ⟨by rw [hlen], fun x hx => ?_⟩
      cases x
      · rfl
      · exact absurd hx hn
    apply ByteArray.ext; apply Array.ext'
    apply map_one_inj (right_all (hit_right p pat 15 h)) (right_all h)
    rw [hit_bits p pat 15 h, hrep, xorB_false]
  · intro e
    have := hit_bits p pat 15 h
    rw [e] at this
    exact xorB_self hlen this.symm
theorem burst_check {t : ByteArray} (p pat : Nat) (h : right t = true) (h0 : sum t = 0) (h15 : 15 ≤ t.size) (hp : p ≤ t.size) : check (hit t p pat 15) = decide (hit t p pat 15 = t) := by
  unfold check
  rw [hit_size, hit_right p pat 15 h, Bool.eq_iff_iff]
  have := burst_told p pat h h0 hp
  simp [h15, this]
theorem pat_bit (pat k : Nat) (h : pat < 4294967296) : (bits BinOp.and IntKind.u32 ((pat : Int) / 2 ^ k) 1 == 1) = pat.testBit k := by
  have hd := Nat.div_le_self pat (2 ^ k)
  have e : ((pat : Int) / 2 ^ k) = ((pat / 2 ^ k : Nat) : Int) := by simp
  rw [e, show (1 : Int) = ((1 : Nat) : Int) from rfl, and_u32 _ _ (by omega) (by omega), Nat.and_one_is_mod, int_dec, Nat.testBit_eq_decide_div_mod_eq]
theorem hit_yes {t : ByteArray} {p pat i : Nat} (h : p + i < t.size) (hb : pat.testBit i = true) : hit t p pat (i + 1) = turnB (hit t p pat i) (p + i) := by
  show (if p + i < t.size ∧ pat.testBit i = true then turnB (hit t p pat i) (p + i) else hit t p pat i) = _
  rw [if_pos ⟨h, hb⟩]
theorem hit_no {t : ByteArray} {p pat i : Nat} (h : ¬ (p + i < t.size ∧ pat.testBit i = true)) : hit t p pat (i + 1) = hit t p pat i := by
  show (if p + i < t.size ∧ pat.testBit i = true then turnB (hit t p pat i) (p + i) else hit t p pat i) = _
  rw [if_neg h]
end Go.Proofs.Ythgbfidghhlldab.B

namespace Go.Proofs.Ythgbfidghhlldab.B

def frB (f : Fr) : Bool := decide (f.dlc ≤ 8) && (if f.remote then f.data.isEmpty else f.data.length == f.dlc) && decide (f.id < if f.ext then 536870912 else 2048)
theorem frB_iff (f : Fr) : frB f = true ↔ FrR f := by
  unfold frB FrR
  rw [Bool.and_eq_true, Bool.and_eq_true, decide_eq_true_eq, decide_eq_true_eq, and_assoc]
  cases f.remote <;> simp
def sumL (h : List UInt8) : List UInt8 := h ++ ofl (crc 0 h) 15
def bitsL (f : Fr) : List UInt8 := (stf (sumL (headL f))).2 ++ List.replicate 10 49
theorem sumL_length (h : List UInt8) : (sumL h).length = h.length + 15 := by unfold sumL; rw [List.length_append, ofl_length]
theorem sumL_all {h : List UInt8} (ha : h.all okc = true) : (sumL h).all okc = true := by unfold sumL; rw [List.all_append, ha, ofl_all]; rfl
theorem good_sum {f : Fr} (h : FrR f) : Good (sumL (headL f)) := by
  refine ⟨sumL_all (headL_all f), by rw [sumL_length]; omega, ?_, rfl⟩
  rw [sumL_length, show (headL f).length + 15 - 15 = (headL f).length from by omega]
  exact head_size h _
theorem base_or (f : Fr) : base f = 19 ∨ base f = 39 := by unfold base; split <;> simp
/-- a frame has at least 44 bits, at most 160 -/
theorem bits_length {f : Fr} (h : FrR f) : 44 ≤ (bitsL f).length ∧ (bitsL f).length ≤ 160 := by
  have hl := stf_length (sumL_all (headL_all f))
  have hb := base_or f
  have hd : f.data.length ≤ 8 := by
    obtain ⟨h8, hd, _⟩ := h
    split at hd
    · rw [hd]; simp
    · omega
  rw [sumL_length, headL_length] at hl
  unfold bitsL
  rw [List.length_append, List.length_replicate]
  omega

/-- fifteen bits are a head's sum just if the whole is left without rest -/
theorem crc_check {h t : List UInt8} (_hh : h.all okc = true) (ht : t.all okc = true) (hl : t.length = 15) : crc 0 (h ++ t) = 0 ↔ t = ofl (crc 0 h) 15 := by
  have hs := crc_lt h
  have hself : crc (crc 0 h) (ofl (crc 0 h) 15) = 0 := by
    have := crc_self (crc 0 h) 15 (Nat.le_refl _)
    rwa [Nat.sub_self, Nat.pow_zero, Nat.mul_one, Nat.mod_eq_of_lt (by omega)] at this
  rw [crc_append]
  constructor
  · intro h0
    apply map_one_inj ht (ofl_all _ _)
    have hlen : (t.map one).length = ((ofl (crc 0 h) 15).map one).length := by simp [hl, ofl_length]
    have hx := sumB_xor (crc 0 h) (crc 0 h) (t.map one) ((ofl (crc 0 h) 15).map one) hlen
    rw [Nat.xor_self] at hx
    have h1 : sumB (crc 0 h) (t.map one) = 0 := h0
    have h2 : sumB (crc 0 h) ((ofl (crc 0 h) 15).map one) = 0 := hself
    rw [h1, h2, Nat.xor_self] at hx
    have hno : ¬ true ∈ xorB (t.map one) ((ofl (crc 0 h) 15).map one) := by
      intro hm
      exact burst_ne _ (by unfold xorB; simp [hl, ofl_length]) hm hx
    apply List.ext_getElem hlen
    intro i h1 h2
    have hi : i < (xorB (t.map one) ((ofl (crc 0 h) 15).map one)).length := by unfold xorB; rw [List.length_zipWith]; omega
    have hg : (xorB (t.map one) ((ofl (crc 0 h) 15).map one))[i] = ((t.map one)[i] != ((ofl (crc 0 h) 15).map one)[i]) := by unfold xorB; simp
    have hf : ((t.map one)[i] != ((ofl (crc 0 h) 15).map one)[i]) = false := by
      rw [Bool.eq_false_iff]; intro e
      exact hno (by rw [← e, ← hg]; exact List.getElem_mem hi)
    simpa using hf
  · intro e; rw [e]; exact hself

/-- what stands behind the sum: a one, any bit, eight ones -/
def tailL (i : Nat) : List UInt8 → Nat
  | [] => if i < 10 then 3 else 0
  | c :: r => if i < 10 then (if i ≠ 1 ∧ c ≠ 49 then 12 else tailL (i + 1) r) else 0
/-- what a row is as a frame: the frame, how many bits, the error -/
def noFr : Fr := ⟨0, false, false, 0, []⟩
def parseL (s : List UInt8) : Fr × Nat × Nat :=
  if (goL (0, 0) [] 0 s).2.2 ≠ 0 then (noFr, 0, (goL (0, 0) [] 0 s).2.2)
  else if crc 0 (goL (0, 0) [] 0 s).1 ≠ 0 then (noFr, 0, 11)
  else if tailL 0 (s.drop (goL (0, 0) [] 0 s).2.1) ≠ 0 then (noFr, 0, tailL 0 (s.drop (goL (0, 0) [] 0 s).2.1))
  else if frB (decode ((goL (0, 0) [] 0 s).1.take ((goL (0, 0) [] 0 s).1.length - 15))) = true ∧ headL (decode ((goL (0, 0) [] 0 s).1.take ((goL (0, 0) [] 0 s).1.length - 15))) = (goL (0, 0) [] 0 s).1.take ((goL (0, 0) [] 0 s).1.length - 15) then
    (decode ((goL (0, 0) [] 0 s).1.take ((goL (0, 0) [] 0 s).1.length - 15)), (goL (0, 0) [] 0 s).2.1 + 10, 0)
  else (noFr, 0, 12)

theorem crc_sumL (h : List UInt8) (ha : h.all okc = true) : crc 0 (sumL h) = 0 := (crc_check ha (ofl_all _ _) (ofl_length _ _)).2 rfl
theorem sumL_head (h : List UInt8) : (sumL h).take ((sumL h).length - 15) = h := by
  rw [sumL_length, show h.length + 15 - 15 = h.length from by omega]
  unfold sumL; rw [List.take_left]
/-- a row that begins with a frame's stuffed bits -/
theorem parse_front {f : Fr} (h : FrR f) (r : List UInt8) :
    parseL ((stf (sumL (headL f))).2 ++ r) = if tailL 0 r ≠ 0 then (noFr, 0, tailL 0 r) else (f, (stf (sumL (headL f))).2.length + 10, 0) := by
  have hg := go_good (good_sum h) r
  unfold parseL
  rw [hg]
  simp only [ne_eq, not_true_eq_false, if_false]
  rw [crc_sumL _ (headL_all f), List.drop_left, sumL_head, decode_head h]
  simp only [not_true_eq_false, if_false, (frB_iff f).2 h, and_self, if_true]
theorem tail_good (b : UInt8) (r : List UInt8) : tailL 0 ([49, b, 49, 49, 49, 49, 49, 49, 49, 49] ++ r) = 0 := by
  simp only [List.cons_append, List.nil_append, tailL]
  cases r <;> simp [tailL]
/-- frames and their bits lead to one another, whatever stands behind, whichever bit stands where it is told that they came -/
theorem parse_bits {f : Fr} (h : FrR f) (b : UInt8) (r : List UInt8) :
    parseL ((stf (sumL (headL f))).2 ++ ([49, b, 49, 49, 49, 49, 49, 49, 49, 49] ++ r)) = (f, (stf (sumL (headL f))).2.length + 10, 0) := by
  rw [parse_front h, tail_good]; simp
theorem tail_short : ∀ (r : List UInt8) (i : Nat), i + r.length < 10 → (∀ c ∈ r, c = 49) → tailL i r = 3 := by
  intro r
  induction r with
  | nil => intro i h _; unfold tailL; rw [if_pos (by simpa using h)]
  | cons c r ih =>
    intro i h ho
    simp only [List.length_cons] at h
    have hc := ho c (by simp)
    unfold tailL
    rw [if_pos (by omega), if_neg (by rw [hc]; simp)]
    exact ih (i + 1) (by omega) (fun d hd => ho d (List.mem_cons_of_mem _ hd))
/-- a frame that breaks off is too short -/
theorem parse_short {f : Fr} (h : FrR f) (cut : Nat) (hc : cut < (bitsL f).length) : parseL ((bitsL f).take cut) = (noFr, 0, 3) := by
  unfold bitsL at hc ⊢
  rw [List.length_append, List.length_replicate] at hc
  by_cases h1 : cut < (stf (sumL (headL f))).2.length
  · have hg := go_good (good_sum h) []
    rw [List.append_nil, ← List.take_append_drop cut (stf (sumL (headL f))).2] at hg
    have := go_short _ hg (by simp; omega)
    rw [List.take_append_of_le_length (by omega)]
    unfold parseL
    rw [this]; rfl
  · rw [List.take_append, List.take_of_length_le (by omega), parse_front h]
    have := tail_short ((List.replicate 10 (49 : UInt8)).take (cut - (stf (sumL (headL f))).2.length)) 0 (by simp; omega) (fun c hc => by
      have := List.mem_of_mem_take hc
      exact (List.mem_replicate.1 this).2)
    rw [this]; simp
/-- a row that is read as the frame begins with the frame's stuffed bits -/
theorem parse_back {f : Fr} {s : List UInt8} {n : Nat} (hs : s.all okc = true) (h : parseL s = (f, n, 0)) :
    FrR f ∧ n = (stf (sumL (headL f))).2.length + 10 ∧ s.take (stf (sumL (headL f))).2.length = (stf (sumL (headL f))).2 := by
  unfold parseL at h
  rcases hg : goL (0, 0) [] 0 s with ⟨bits, m, e⟩
  rw [hg] at h
  simp only at h
  split at h
  · rename_i he
    simp only [Prod.mk.injEq] at h
    exact absurd h.2.2 he
  · rename_i he
    have he0 : e = 0 := by omega
    subst he0
    split at h
    · simp at h
    · rename_i hcrc
      split at h
      · rename_i ht
        simp only [Prod.mk.injEq] at h
        exact absurd h.2.2 ht
      · split at h
        · rename_i hd
          simp only [Prod.mk.injEq] at h
          obtain ⟨rfl, rfl, _⟩ := h
          obtain ⟨hfr, hhd⟩ := hd
          have hcrc0 : crc 0 bits = 0 := by omega
          obtain ⟨_, hm, y, hy, hst⟩ := go_ok s (p := []) ust_nil hg
          simp only [List.nil_append] at hy hm
          have hall : (s.take m).all okc = true := all_take hs m
          obtain ⟨hba, _⟩ := ust_all hall _ _ hy
          unfold stopB at hst
          rw [decide_eq_true_eq] at hst
          obtain ⟨_, hbl, hy5⟩ := hst
          have h15 : 15 ≤ bits.length := by omega
          have hb := (List.take_append_drop (bits.length - 15) bits).symm
          have hsum : bits = sumL (bits.take (bits.length - 15)) := by
            have hba' := hba
            rw [hb, List.all_append, Bool.and_eq_true] at hba'
            have hc := hcrc0
            rw [hb] at hc
            have := (crc_check hba'.1 hba'.2 (by rw [List.length_drop]; omega)).1 hc
            unfold sumL
            rw [← this]; exact hb
          rw [hhd, ← hsum]
          have hss := (stf_ust hall _ _ hy).1 (by omega)
          rw [hss]
          have hml : (s.take m).length = m := by rw [List.length_take]; simp at hm; omega
          exact ⟨(frB_iff _).1 hfr, by rw [hml], by rw [hml]⟩
        · simp at h
end Go.Proofs.Ythgbfidghhlldab.B

namespace Go.Proofs.Ythgbfidghhlldab.B

/-- the first place at which two rows are unlike -/
def firstD : List UInt8 → List UInt8 → Option Nat
  | a :: as, b :: bs => if a = b then (firstD as bs).map (· + 1) else some 0
  | _, _ => none
theorem firstD_append : ∀ (p a b : List UInt8), firstD (p ++ a) (p ++ b) = (firstD a b).map (· + p.length) := by
  intro p
  induction p with
  | nil => intro a b; simp
  | cons c p ih =>
    intro a b
    rw [List.cons_append, List.cons_append, firstD, if_pos rfl, ih, Option.map_map]
    congr 1
theorem firstD_self (a : List UInt8) : firstD a a = none := by
  induction a with
  | nil => rfl
  | cons c a ih => rw [firstD, if_pos rfl, ih]; rfl
/-- where they part behind k bits that are alike -/
theorem firstD_at {a b : List UInt8} {k : Nat} (ha : k < a.length) (hb : k < b.length) (h : a.take k = b.take k) (hne : a[k] ≠ b[k]) : firstD a b = some k := by
  rw [← List.take_append_drop k a, ← List.take_append_drop k b, ← h, firstD_append, List.drop_eq_getElem_cons ha, List.drop_eq_getElem_cons hb, firstD, if_neg hne]
  simp [List.length_take]; omega
theorem firstD_none {a b : List UInt8} {k : Nat} (h : a.take k = b.take k) (hk : a.length ≤ k ∨ b.length ≤ k) : firstD a b = none := by
  rw [← List.take_append_drop k a, ← List.take_append_drop k b, ← h, firstD_append]
  rcases hk with hk | hk
  · rw [List.drop_of_length_le hk]; simp [firstD]
  · rw [List.drop_of_length_le hk]; cases a.drop k <;> simp [firstD]
theorem firstD_some {a b : List UInt8} {k : Nat} (h : firstD a b = some k) : ∃ (ha : k < a.length) (hb : k < b.length), a.take k = b.take k ∧ a[k] ≠ b[k] := by
  induction a generalizing b k with
  | nil => cases b <;> simp [firstD] at h
  | cons x a ih =>
    cases b with
    | nil => simp [firstD] at h
    | cons y b =>
      rw [firstD] at h
      split at h
      · rename_i e
        cases hf : firstD a b with
        | none => rw [hf] at h; cases h
        | some i =>
          rw [hf] at h
          simp only [Option.map_some, Option.some.injEq] at h
          subst h
          obtain ⟨h1, h2, h3, h4⟩ := ih hf
          exact ⟨by simp; omega, by simp; omega, by simp [e, h3], by simpa using h4⟩
      · rename_i e
        simp only [Option.some.injEq] at h
        subst h
        exact ⟨by simp, by simp, by simp, by simpa using e⟩
theorem firstD_symm (a b : List UInt8) : firstD a b = firstD b a := by
  induction a generalizing b with
  | nil => cases b <;> simp [firstD]
  | cons x a ih =>
    cases b with
    | nil => simp [firstD]
    | cons y b =>
      rw [firstD, firstD, ih]
      by_cases e : x = y
      · rw [if_pos e, if_pos e.symm]
      · rw [if_neg e, if_neg (fun h => e h.symm)]
/-- a wins against b -/
def lessL (a b : List UInt8) : Bool := match firstD a b with
  | some i => a.getD i 0 == 48
  | none => false
def firstI (a b : List UInt8) : Int := match firstD a b with
  | some i => i
  | none => -1
/-- a frame's field -/
def fieldL (f : Fr) : List UInt8 := cutL (headL f) 1 (if f.ext then 33 else 14)
theorem fieldL_length (f : Fr) : (fieldL f).length = if f.ext then 32 else 13 := by
  unfold fieldL cutL
  rw [List.length_drop, List.length_take, headL_length]
  unfold base
  split <;> omega
theorem fieldL_all (f : Fr) : (fieldL f).all okc = true := by
  unfold fieldL cutL
  have := all_take (headL_all f) (if f.ext then 33 else 14)
  rw [List.all_eq_true] at *; intro x hx; exact this x (List.mem_of_mem_drop hx)
theorem lessL_self (a : List UInt8) : lessL a a = false := by unfold lessL; rw [firstD_self]
/-- of two rows of bits that part, one wins -/
theorem lessL_or {a b : List UInt8} (ha : a.all okc = true) (hb : b.all okc = true) {i : Nat} (h : firstD a b = some i) : lessL a b = !lessL b a := by
  obtain ⟨h1, h2, _, h4⟩ := firstD_some h
  unfold lessL
  rw [firstD_symm b a, h]
  simp only
  rw [List.getD_eq_getElem?_getD, List.getElem?_eq_getElem h1, List.getD_eq_getElem?_getD, List.getElem?_eq_getElem h2]
  have c1 := okc_cases (List.all_eq_true.1 ha _ (List.getElem_mem h1))
  have c2 := okc_cases (List.all_eq_true.1 hb _ (List.getElem_mem h2))
  simp only [Option.getD_some]
  rcases c1 with e1 | e1
  · rcases c2 with e2 | e2
    · exact absurd (e1.trans e2.symm) h4
    · rw [e1, e2]; rfl
  · rcases c2 with e2 | e2
    · rw [e1, e2]; rfl
    · exact absurd (e1.trans e2.symm) h4
theorem lessL_trans {a b c : List UInt8} (hb : b.all okc = true) (h1 : lessL a b = true) (h2 : lessL b c = true) : lessL a c = true := by
  unfold lessL at h1 h2
  cases e1 : firstD a b with
  | none => rw [e1] at h1; cases h1
  | some i =>
    cases e2 : firstD b c with
    | none => rw [e2] at h2; cases h2
    | some j =>
      rw [e1] at h1
      rw [e2] at h2
      simp only [beq_iff_eq] at h1 h2
      obtain ⟨ai, bi, t1, n1⟩ := firstD_some e1
      obtain ⟨bj, cj, t2, n2⟩ := firstD_some e2
      rw [List.getD_eq_getElem?_getD, List.getElem?_eq_getElem ai, Option.getD_some] at h1
      rw [List.getD_eq_getElem?_getD, List.getElem?_eq_getElem bj, Option.getD_some] at h2
      have hbi : b[i] = 49 := by
        rcases okc_cases (List.all_eq_true.1 hb _ (List.getElem_mem bi)) with e | e
        · exact absurd (h1.trans e.symm) n1
        · exact e
      have hij : i ≠ j := by intro e; subst e; rw [hbi] at h2; cases h2
      rcases Nat.lt_or_gt_of_ne hij with hlt | hgt
      · have hci : i < c.length := by omega
        have hbc : b[i] = c[i] := by
          have := congrArg (fun l : List UInt8 => l[i]?) t2
          simp only [List.getElem?_take, if_pos hlt] at this
          rw [List.getElem?_eq_getElem bi, List.getElem?_eq_getElem hci] at this
          exact Option.some.inj this
        have hac : a.take i = c.take i := by
          rw [t1]
          have := congrArg (List.take i) t2
          rwa [List.take_take, List.take_take, Nat.min_eq_left (by omega)] at this
        have e3 := firstD_at ai hci hac (by rw [← hbc]; exact n1)
        unfold lessL
        rw [e3]
        simp only
        rw [List.getD_eq_getElem?_getD, List.getElem?_eq_getElem ai, Option.getD_some, h1]; rfl
      · have haj : j < a.length := by omega
        have hab : a[j] = b[j] := by
          have := congrArg (fun l : List UInt8 => l[j]?) t1
          simp only [List.getElem?_take, if_pos hgt] at this
          rw [List.getElem?_eq_getElem haj, List.getElem?_eq_getElem bj] at this
          exact Option.some.inj this
        have hac : a.take j = c.take j := by
          rw [← t2]
          have := congrArg (List.take j) t1
          rwa [List.take_take, List.take_take, Nat.min_eq_left (by omega)] at this
        have e3 := firstD_at haj cj hac (by rw [hab]; exact n2)
        unfold lessL
        rw [e3]
        simp only
        rw [List.getD_eq_getElem?_getD, List.getElem?_eq_getElem haj, Option.getD_some, hab, h2]; rfl
end Go.Proofs.Ythgbfidghhlldab.B

namespace Go.Proofs.Ythgbfidghhlldab.B
open Go.RowKit

/-- a digit in memory -/
def dig (b : Bool) : Value := .int .u8 ((b.toNat : Nat) : Int)
def rowD (f : Nat → Bool) (n : Nat) : List Value := (List.range n).map fun j => dig (f j)
theorem rowD_length (f : Nat → Bool) (n : Nat) : (rowD f n).length = n := by simp [rowD]
theorem rowD_succ (f : Nat → Bool) (n : Nat) : rowD f n ++ [dig (f n)] = rowD f (n + 1) := by
  unfold rowD; rw [List.range_succ, List.map_append]; rfl
theorem rowD_at (f : Nat → Bool) (n j : Nat) (h : j < n) : (rowD f n)[j]? = some (dig (f j)) := by
  unfold rowD; simp [h]
theorem rowD_congr {f g : Nat → Bool} (n : Nat) (h : ∀ j, j < n → f j = g j) : rowD f n = rowD g n := by
  unfold rowD
  apply List.map_congr_left
  intro j hj
  rw [h j (List.mem_range.1 hj)]
theorem rowD_set (f : Nat → Bool) (n j : Nat) (b : Bool) : (rowD f n).set j (dig b) = rowD (fun x => if x = j then b else f x) n := by
  apply List.ext_getElem?
  intro x
  unfold rowD
  rw [List.getElem?_set]
  by_cases h : j = x
  · subst h
    by_cases hn : j < n <;> simp [hn]
  · rw [if_neg h]
    simp only [List.getElem?_map]
    by_cases hn : x < n
    · simp [hn, Ne.symm h]
    · simp [hn]
/-- the message's digits -/
def msg (s : ByteArray) (j : Nat) : Bool := match s.data.toList[j]? with | some c => one c | none => false
theorem msg_in {s : ByteArray} {j : Nat} (h : j < s.size) : msg s j = one s[j] := by
  unfold msg
  rw [List.getElem?_eq_getElem (by rw [size_len]; exact h)]
  rfl
theorem msg_out {s : ByteArray} {j : Nat} (h : s.size ≤ j) : msg s j = false := by
  unfold msg
  rw [List.getElem?_eq_none (by rw [size_len]; exact h)]
theorem dig_byte {s : ByteArray} {j : Nat} (hr : right s = true) (h : j < s.size) : Value.int .u8 ((s[j].toNat : Int) - 48) = dig (msg s j) := by
  have hb := right_bound hr j h
  rw [msg_in h, one_dec]
  unfold dig
  by_cases h1 : s[j].toNat = 49
  · simp [h1]
  · have : s[j].toNat = 48 := by omega
    simp [this]
/-- the row when i digits are divided -/
def at0 (s : ByteArray) (i : Nat) : Nat → Bool := win (msg s) i (crc 0 (s.data.toList.take i))
theorem at0_zero (s : ByteArray) (n : Nat) : rowD (msg s) n = rowD (at0 s 0) n := by
  apply rowD_congr
  intro j _
  unfold at0 win
  simp [crc_nil]
/-- and with k digits of the divisor taken away at i -/
def at1 (s : ByteArray) (i k j : Nat) : Bool := if i ≤ j ∧ j < i + k then (at0 s i j != divisor (j - i)) else at0 s i j
theorem at1_zero (s : ByteArray) (i n : Nat) : rowD (at0 s i) n = rowD (at1 s i 0) n := by
  apply rowD_congr
  intro j _
  unfold at1
  rw [if_neg (by omega)]
theorem at1_here (s : ByteArray) (i k : Nat) : at1 s i k (i + k) = at0 s i (i + k) := by unfold at1; rw [if_neg (by omega)]
theorem at1_succ (s : ByteArray) (i k n : Nat) : (rowD (at1 s i k) n).set (i + k) (dig (at0 s i (i + k) != divisor k)) = rowD (at1 s i (k + 1)) n := by
  rw [rowD_set]
  apply rowD_congr
  intro j _
  unfold at1
  by_cases h : j = i + k
  · subst h
    rw [if_pos rfl, if_pos (by omega), show i + k - i = k from by omega]
  · rw [if_neg h]
    by_cases h2 : i ≤ j ∧ j < i + k
    · rw [if_pos h2, if_pos (by omega)]
    · rw [if_neg h2, if_neg (by omega)]
theorem at0_step {s : ByteArray} {i : Nat} (h : i < s.size) : at0 s (i + 1) = win (msg s) (i + 1) (stepN (crc 0 (s.data.toList.take i)) (msg s i)) := by
  unfold at0
  rw [crc_take_succ 0 s i h, msg_in h]
theorem at1_full {s : ByteArray} {i : Nat} (h : i < s.size) (h1 : at0 s i i = true) (n : Nat) : rowD (at1 s i 16) n = rowD (at0 s (i + 1)) n := by
  apply rowD_congr
  intro j _
  rw [at0_step h, win_step]
  have h1' : win (msg s) i (crc 0 (s.data.toList.take i)) i = true := h1
  rw [h1']
  unfold at1
  by_cases h2 : i ≤ j ∧ j < i + 16
  · rw [if_pos h2]
    have : decide (i ≤ j ∧ j ≤ i + 15) = true := by simp; omega
    rw [this]; simp [at0]
  · rw [if_neg h2]
    have : decide (i ≤ j ∧ j ≤ i + 15) = false := by simp; omega
    rw [this]; simp [at0]
theorem at0_skip {s : ByteArray} {i : Nat} (h : i < s.size) (h1 : at0 s i i = false) (n : Nat) : rowD (at0 s i) n = rowD (at0 s (i + 1)) n := by
  apply rowD_congr
  intro j _
  rw [at0_step h, win_step]
  have h1' : win (msg s) i (crc 0 (s.data.toList.take i)) i = false := h1
  rw [h1']
  simp [at0]
/-- what is left -/
theorem at0_end (s : ByteArray) (k : Nat) (hk : k < 15) : at0 s s.size (s.size + k) = (sum s).testBit (14 - k) := by
  unfold at0 win
  rw [List.take_of_length_le (by rw [size_len]; exact Nat.le_refl _), msg_out (by omega), if_neg (by omega)]
  rw [show s.size + k - s.size = k from by omega]
  have : decide (s.size + k < s.size + 15) = true := by simp; omega
  rw [this]; simp [sum]
theorem div_step (r k : Nat) (hk : k < 15) : 2 * (r / 2 ^ (15 - k)) + (r.testBit (14 - k)).toNat = r / 2 ^ (15 - (k + 1)) := by
  have e : r / 2 ^ (15 - k) = r / 2 ^ (14 - k) / 2 := by
    rw [show 15 - k = (14 - k) + 1 from by omega, Nat.pow_succ, Nat.div_div_eq_div_mul]
  rw [e, Nat.testBit_eq_decide_div_mod_eq, show 15 - (k + 1) = 14 - k from by omega]
  generalize r / 2 ^ (14 - k) = q
  by_cases h : q % 2 = 1
  · simp [h]; omega
  · simp [h]; omega
theorem div_begin (s : ByteArray) : sum s / 2 ^ (15 - 0) = 0 := by
  have := sum_lt s
  simp; omega
/-- the divisor's text -/
theorem ofn_at (n k i : Nat) (h : i < (ofn n k).size) : (ofn n k)[i].toNat = 48 + n / 2 ^ (k - 1 - i) % 2 := by
  rw [← bit_toNat]
  show ((ofl n k).toArray[i]'_).toNat = _
  simp [ofl]
theorem divisor_at (k : Nat) (h : k < (ofn 50585 16).size) : (((ofn 50585 16)[k].toNat : Int) - 48) = ((divisor k).toNat : Int) := by
  rw [ofn_at]
  unfold divisor
  rw [Nat.testBit_eq_decide_div_mod_eq, show 16 - 1 - k = 15 - k from by omega]
  generalize 50585 / 2 ^ (15 - k) = q
  by_cases h : q % 2 = 1
  · simp [h]
  · have : q % 2 = 0 := by omega
    simp [this]
theorem divisor_byte (k : Nat) (h : k < (ofn 50585 16).size) : 48 ≤ (ofn 50585 16)[k].toNat ∧ (ofn 50585 16)[k].toNat ≤ 49 := by
  rw [ofn_at]; omega
theorem dig_xor (a b : Bool) : bits BinOp.xor IntKind.u8 ((a.toNat : Nat) : Int) ((b.toNat : Nat) : Int) = (((a != b).toNat : Nat) : Int) := by
  cases a <;> cases b <;> decide
end Go.Proofs.Ythgbfidghhlldab.B

namespace Go.Proofs.Ythgbfidghhlldab.B

def runAt (l : List UInt8) (fr n : Nat) (c : UInt8) : Prop :=
  ∃ p : List UInt8, l = p ++ List.replicate n c ∧ fr ≤ p.length ∧ (fr = p.length ∨ ∃ q d, p = q ++ [d] ∧ d.toNat ≠ c.toNat)
def RInv (l : List UInt8) (fr : Nat) (x : St) : Prop :=
  (x = (0, 0) ∧ l = [] ∧ fr = 0) ∨ ∃ c : UInt8, x.1 = c.toNat ∧ okc c = true ∧ 1 ≤ x.2 ∧ runAt l fr x.2 c

theorem rinv_zero : RInv [] 0 (0, 0) := .inl ⟨rfl, rfl, rfl⟩
theorem rinv_step {l : List UInt8} {fr : Nat} {x : St} {c : UInt8} (h : RInv l fr x) (h4 : x.2 ≤ 4) (hc : okc c = true) :
    (kn x c.toNat).1 = c.toNat ∧ 1 ≤ (kn x c.toNat).2 ∧ (kn x c.toNat).2 ≤ 5 ∧ runAt (l ++ [c]) fr (kn x c.toNat).2 c := by
  obtain ⟨b, n⟩ := x
  simp only at h4
  have hc' := (okc_iff c).1 hc
  rcases h with ⟨he, rfl, rfl⟩ | ⟨d, hd, hdo, hn, p, hp, hfr, hor⟩
  · cases he
    rw [kn_one (by omega)]
    exact ⟨rfl, Nat.le_refl _, by omega, [], by simp, Nat.le_refl _, .inl rfl⟩
  · simp only at hd hn hp
    by_cases e : c.toNat = b
    · have ecd : c = d := UInt8.toNat_inj.1 (by omega)
      subst ecd
      rw [kn_more e (by omega)]
      refine ⟨rfl, by simp only; omega, by simp only; omega, p, ?_, hfr, hor⟩
      rw [hp, List.append_assoc, List.replicate_succ']
    · rw [kn_one e]
      refine ⟨rfl, Nat.le_refl _, by simp only; omega, l, by simp, ?_, .inr ⟨p ++ List.replicate (n - 1) d, d, ?_, by omega⟩⟩
      · rw [hp]; simp; omega
      · rw [hp, List.append_assoc, ← List.replicate_succ', show n - 1 + 1 = n from by omega]
theorem rinv_plain {l : List UInt8} {fr : Nat} {x : St} {c : UInt8} (h : RInv l fr x) (h4 : x.2 ≤ 4) (hc : okc c = true) : RInv (l ++ [c]) fr (kn x c.toNat) := by
  obtain ⟨h1, h2, _, h3⟩ := rinv_step h h4 hc
  exact .inr ⟨c, h1, hc, h2, h3⟩
theorem rinv_full {l : List UInt8} {x : St} {c : UInt8} (hc : okc c = true) (hx : x.1 = c.toNat) : RInv (l ++ [c] ++ [other c]) (l ++ [c]).length (kn x (other c).toNat) := by
  obtain ⟨b, n⟩ := x
  simp only at hx
  rw [kn_one (by rw [hx]; exact other_ne hc)]
  exact .inr ⟨other c, rfl, other_okc hc, Nat.le_refl _, l ++ [c], by simp, Nat.le_refl _, .inl rfl⟩

theorem run_yes {l : List UInt8} {fr : Nat} {c : UInt8} (h : runAt l fr 5 c) : fr + 5 ≤ l.length ∧ ∀ i (h : i < l.length), l.length - 5 ≤ i → l[i] = c := by
  obtain ⟨p, rfl, hfr, _⟩ := h
  simp only [List.length_append, List.length_replicate]
  refine ⟨by omega, fun i hi h5 => ?_⟩
  rw [List.getElem_append_right (by omega)]
  exact List.getElem_replicate _
theorem run_no {l : List UInt8} {fr n : Nat} {c : UInt8} (h : runAt l fr n c) (h1 : 1 ≤ n) (h4 : n ≤ 4) :
    (fr ≤ l.length ∧ l.length < fr + 5) ∨ (fr + 5 ≤ l.length ∧ ∃ j, ∃ (hj : j < l.length), ∃ (hl : l.length - 1 < l.length), l.length - 5 ≤ j ∧ l[l.length - 1] = c ∧ l[j].toNat ≠ c.toNat) := by
  obtain ⟨p, rfl, hfr, hor⟩ := h
  simp only [List.length_append, List.length_replicate]
  rcases hor with rfl | ⟨q, d, rfl, hd⟩
  · left; omega
  · by_cases hl : q.length + 1 + n < fr + 5
    · left; simp at hfr ⊢; omega
    · right
      simp only [List.length_append, List.length_cons, List.length_nil] at *
      refine ⟨by omega, q.length, by omega, by omega, by omega, ?_, ?_⟩
      · rw [List.getElem_append_right (by simp; omega)]; simp
      · rw [List.getElem_append_left (by simp), List.getElem_append_right (by simp)]; simpa using hd
end Go.Proofs.Ythgbfidghhlldab.B

namespace Go.Proofs.Ythgbfidghhlldab.B

theorem firstD_pre : ∀ {a b : List UInt8}, firstD a b = none → a.take b.length = b.take a.length := by
  intro a
  induction a with
  | nil => intro b _; simp
  | cons x a ih =>
    intro b h
    cases b with
    | nil => simp
    | cons y b =>
      rw [firstD] at h
      split at h
      · rename_i e
        have h2 : firstD a b = none := by simpa using h
        rw [List.length_cons, List.length_cons, List.take_succ_cons, List.take_succ_cons, ih h2, e]
      · cases h
theorem field_12 (f : Fr) : (fieldL f).getD 12 0 = if f.ext then 49 else 48 := by
  have h := head_13 f []
  rw [List.append_nil] at h
  unfold bitAt at h
  rw [← h]
  unfold fieldL cutL
  rw [List.getD_eq_getElem?_getD, List.getD_eq_getElem?_getD, List.getElem?_drop, List.getElem?_take, if_pos (by split <;> omega)]
theorem field_none {f g : Fr} (h : firstD (fieldL f) (fieldL g) = none) : fieldL f = fieldL g := by
  have hp := firstD_pre h
  have hf := fieldL_length f
  have hg := fieldL_length g
  have h12 : (fieldL f).getD 12 0 = (fieldL g).getD 12 0 := by
    have := congrArg (fun l : List UInt8 => l.getD 12 0) hp
    simp only [List.getD_eq_getElem?_getD, List.getElem?_take] at this
    rw [if_pos (by rw [hg]; split <;> omega), if_pos (by rw [hf]; split <;> omega)] at this
    simpa [List.getD_eq_getElem?_getD] using this
  rw [field_12, field_12] at h12
  have he : f.ext = g.ext := by
    cases h1 : f.ext <;> cases h2 : g.ext <;> rw [h1, h2] at h12 <;> first | rfl | (exfalso; revert h12; decide)
  have hl : (fieldL f).length = (fieldL g).length := by rw [hf, hg, he]
  rw [hl, List.take_length, ← hl, List.take_length] at hp
  exact hp
/-- what comparing two rows gives -/
def cmpL (a b : List UInt8) : Int := match firstD a b with
  | some _ => if lessL a b then -1 else 1
  | none => 0
theorem cmpL_neg (a b : List UInt8) : decide (cmpL a b < 0) = lessL a b := by
  unfold cmpL lessL
  cases h : firstD a b with
  | none => rfl
  | some i => simp only; split <;> simp_all
theorem cmpL_at {a b : List UInt8} (ha : a.all okc = true) (hb : b.all okc = true) {i : Nat} (h : firstD a b = some i) (x y : UInt8) (hx : a.getD i 0 = x) (hy : b.getD i 0 = y) : cmpL a b = if x.toNat < y.toNat then -1 else 1 := by
  obtain ⟨h1, h2, _, h4⟩ := firstD_some h
  unfold cmpL lessL
  rw [h]
  simp only
  simp only [hx]
  have e1 : a.getD i 0 = a[i] := by rw [List.getD_eq_getElem?_getD, List.getElem?_eq_getElem h1, Option.getD_some]
  have e2 : b.getD i 0 = b[i] := by rw [List.getD_eq_getElem?_getD, List.getElem?_eq_getElem h2, Option.getD_some]
  rw [e1] at hx
  rw [e2] at hy
  rw [hx, hy] at h4
  have c1 := okc_cases (List.all_eq_true.1 ha _ (List.getElem_mem h1))
  have c2 := okc_cases (List.all_eq_true.1 hb _ (List.getElem_mem h2))
  rw [hx] at c1
  rw [hy] at c2
  rcases c1 with rfl | rfl <;> rcases c2 with rfl | rfl <;> first | rfl | exact absurd rfl h4
end Go.Proofs.Ythgbfidghhlldab.B

namespace Go.Proofs.Ythgbfidghhlldab.B

/-- what orders: rows of bits, none the beginning of another one -/
structure Keys {α : Type} (key : α → List UInt8) : Prop where
  all : ∀ x, (key x).all okc = true
  pre : ∀ x y, firstD (key x) (key y) = none → key x = key y
section
variable {α : Type} {key : α → List UInt8}
def lt (key : α → List UInt8) (x y : α) : Bool := lessL (key x) (key y)
theorem lt_self (x : α) : lt key x x = false := lessL_self _
theorem lt_trans (hk : Keys key) {x y z : α} (h1 : lt key x y = true) (h2 : lt key y z = true) : lt key x z = true := lessL_trans (hk.all y) h1 h2
theorem lt_same (hk : Keys key) {x y : α} (h1 : lt key x y = false) (h2 : lt key y x = false) : key x = key y := by
  cases hd : firstD (key x) (key y) with
  | none => exact hk.pre x y hd
  | some d =>
    have := lessL_or (hk.all x) (hk.all y) hd
    unfold lt at h1 h2
    rw [h1, h2] at this; cases this
theorem lt_asymm (hk : Keys key) {x y : α} (h : lt key x y = true) : lt key y x = false := by
  cases h2 : lt key y x
  · rfl
  · have := lt_trans hk h h2; rw [lt_self] at this; cases this
theorem lt_lt (hk : Keys key) {x a b : α} (h1 : lt key x a = true) (h2 : lt key b a = false) : lt key x b = true := by
  cases h3 : lt key a b
  · have := lt_same hk h3 h2
    unfold lt at h1 ⊢
    rw [← this]; exact h1
  · exact lt_trans hk h1 h3
theorem lt_key {x y : α} (h : key x = key y) (z : α) : lt key x z = lt key y z := by unfold lt; rw [h]
theorem lt_key' {x y : α} (h : key x = key y) (z : α) : lt key z x = lt key z y := by unfold lt; rw [h]
def Srt (key : α → List UInt8) (l : List α) : Prop := l.Pairwise (fun a b => lt key b a = false)
def ins (key : α → List UInt8) (x : α) : List α → List α
  | [] => [x]
  | y :: l => if lt key x y then x :: y :: l else y :: ins key x l
def isort (key : α → List UInt8) (l : List α) : List α := l.foldl (fun acc x => ins key x acc) []
theorem isort_snoc (l : List α) (x : α) : isort key (l ++ [x]) = ins key x (isort key l) := by unfold isort; rw [List.foldl_append]; rfl
theorem ins_length (x : α) : ∀ l : List α, (ins key x l).length = l.length + 1 := by
  intro l
  induction l with
  | nil => rfl
  | cons y l ih => rw [ins]; split <;> simp [ih]
theorem ins_mem (x : α) : ∀ (l : List α) (z : α), z ∈ ins key x l ↔ z = x ∨ z ∈ l := by
  intro l
  induction l with
  | nil => intro z; simp [ins]
  | cons y l ih =>
    intro z
    rw [ins]
    split
    · simp
    · rw [List.mem_cons, ih, List.mem_cons]
      constructor
      · rintro (h | h | h) <;> simp [h]
      · rintro (h | h | h) <;> simp [h]
theorem ins_srt (hk : Keys key) (x : α) : ∀ (l : List α), Srt key l → Srt key (ins key x l) := by
  intro l
  induction l with
  | nil => intro _; exact List.pairwise_singleton _ _
  | cons y l ih =>
    intro h
    have h' := List.pairwise_cons.1 h
    rw [ins]
    split
    · rename_i hx
      refine List.pairwise_cons.2 ⟨fun z hz => ?_, h⟩
      rcases List.mem_cons.1 hz with rfl | hz
      · exact lt_asymm hk hx
      · exact lt_asymm hk (lt_lt hk hx (h'.1 z hz))
    · rename_i hx
      refine List.pairwise_cons.2 ⟨fun z hz => ?_, ih h'.2⟩
      rcases (ins_mem x l z).1 hz with rfl | hz
      · simpa using hx
      · exact h'.1 z hz
theorem isort_srt (hk : Keys key) : ∀ (l : List α), Srt key (isort key l) := by
  have : ∀ (l acc : List α), Srt key acc → Srt key (l.foldl (fun acc x => ins key x acc) acc) := by
    intro l
    induction l with
    | nil => intro acc h; exact h
    | cons x l ih => intro acc h; exact ih _ (ins_srt hk x acc h)
  intro l; exact this l [] List.Pairwise.nil
theorem isort_length (l : List α) : (isort key l).length = l.length := by
  have : ∀ (l acc : List α), (l.foldl (fun acc x => ins key x acc) acc).length = acc.length + l.length := by
    intro l
    induction l with
    | nil => intro acc; rfl
    | cons x l ih => intro acc; rw [List.foldl_cons, ih, ins_length, List.length_cons]; omega
  rw [isort, this]; simp
theorem isort_mem (l : List α) (z : α) : z ∈ isort key l ↔ z ∈ l := by
  have : ∀ (l acc : List α), z ∈ l.foldl (fun acc x => ins key x acc) acc ↔ z ∈ acc ∨ z ∈ l := by
    intro l
    induction l with
    | nil => intro acc; simp
    | cons x l ih =>
      intro acc
      rw [List.foldl_cons, ih, ins_mem, List.mem_cons]
      constructor
      · rintro ((h | h) | h) <;> simp [h]
      · rintro (h | h | h) <;> simp [h]
  rw [isort, this]; simp
/-- those of one key stand as they stood -/
theorem ins_filter (x : α) (b : List UInt8) : ∀ (l : List α), Srt key l → (ins key x l).filter (fun z => decide (key z = b)) = (l ++ [x]).filter (fun z => decide (key z = b)) := by
  intro l
  induction l with
  | nil => intro _; rfl
  | cons y l ih =>
    intro h
    have h' := List.pairwise_cons.1 h
    rw [ins]
    split
    · rename_i hx
      by_cases hb : key x = b
      · have hn : ∀ z ∈ y :: l, ¬ key z = b := fun z hz e => by
          have hzy : lt key z y = true := by rw [lt_key (e.trans hb.symm)]; exact hx
          rcases List.mem_cons.1 hz with rfl | hz
          · rw [lt_self] at hzy; cases hzy
          · rw [h'.1 z hz] at hzy; cases hzy
        rw [List.filter_append, List.filter_cons, if_pos (by simpa using hb)]
        have hf : (y :: l).filter (fun z => decide (key z = b)) = [] := by
          rw [List.filter_eq_nil_iff]; intro z hz; simpa using hn z hz
        rw [hf]; simp [hb]
      · rw [List.filter_append, List.filter_cons, if_neg (by simpa using hb)]
        simp [hb]
    · rw [List.cons_append, List.filter_cons, List.filter_cons, ih h'.2]
theorem isort_filter (hk : Keys key) (b : List UInt8) (l : List α) : (isort key l).filter (fun z => decide (key z = b)) = l.filter (fun z => decide (key z = b)) := by
  have : ∀ (l acc : List α), Srt key acc → (l.foldl (fun acc x => ins key x acc) acc).filter (fun z => decide (key z = b)) = (acc ++ l).filter (fun z => decide (key z = b)) := by
    intro l
    induction l with
    | nil => intro acc _; simp
    | cons x l ih =>
      intro acc h
      rw [List.foldl_cons, ih _ (ins_srt hk x acc h), List.filter_append, ins_filter x b acc h, ← List.filter_append]
      simp
  rw [isort, this l [] List.Pairwise.nil]; rfl
/-- a stable order is unique -/
theorem srt_unique (hk : Keys key) : ∀ (s t : List α), Srt key s → Srt key t → (∀ b, s.filter (fun z => decide (key z = b)) = t.filter (fun z => decide (key z = b))) → s = t := by
  intro s
  induction s with
  | nil =>
    intro t _ _ h
    cases t with
    | nil => rfl
    | cons c t => have := h (key c); rw [List.filter_cons, if_pos (by simp)] at this; simp at this
  | cons a s ih =>
    intro t hs ht h
    cases t with
    | nil => have := h (key a); rw [List.filter_cons, if_pos (by simp)] at this; simp at this
    | cons c t =>
      have hs' := List.pairwise_cons.1 hs
      have ht' := List.pairwise_cons.1 ht
      have hac : a ∈ (c :: t).filter (fun z => decide (key z = key a)) := by rw [← h (key a)]; simp
      have hca : c ∈ (a :: s).filter (fun z => decide (key z = key c)) := by rw [h (key c)]; simp
      have h1 : lt key a c = false := by
        rcases List.mem_cons.1 (List.mem_filter.1 hac).1 with e | e
        · rw [e]; exact lt_self _
        · exact ht'.1 a e
      have h2 : lt key c a = false := by
        rcases List.mem_cons.1 (List.mem_filter.1 hca).1 with e | e
        · rw [e]; exact lt_self _
        · exact hs'.1 c e
      have hkey := lt_same hk h1 h2
      have h3 := h (key a)
      rw [List.filter_cons, if_pos (by simp), List.filter_cons, if_pos (by simpa using hkey.symm)] at h3
      have e : a = c := (List.cons.inj h3).1
      subst e
      congr 1
      refine ih t hs'.2 ht'.2 (fun b => ?_)
      have h4 := h b
      rw [List.filter_cons, List.filter_cons] at h4
      by_cases hb : key a = b
      · rw [if_pos (by simpa using hb), if_pos (by simpa using hb)] at h4
        exact (List.cons.inj h4).2
      · rw [if_neg (by simpa using hb), if_neg (by simpa using hb)] at h4
        exact h4
theorem ins_at (x : α) : ∀ (p : List α) (j : Nat), j ≤ p.length → (∀ y ∈ p.take j, lt key x y = false) → (∀ y ∈ p.drop j, lt key x y = true) → ins key x p = p.take j ++ x :: p.drop j := by
  intro p
  induction p with
  | nil => intro j _ _ _; simp [ins]
  | cons y p ih =>
    intro j hj h1 h2
    rw [ins]
    cases j with
    | zero => rw [if_pos (h2 y (by simp))]; rfl
    | succ j =>
      rw [if_neg (by rw [h1 y (by simp)]; decide)]
      rw [ih j (by simpa using hj) (fun z hz => h1 z (by simp [hz])) (fun z hz => h2 z (by simpa using hz))]
      rfl
theorem before_not (hk : Keys key) {x : α} {p : List α} (hs : Srt key p) {j : Nat} (hj : j < p.length) (h : lt key x p[j] = false) : ∀ y ∈ p.take (j + 1), lt key x y = false := by
  intro y hy
  obtain ⟨i, hi, rfl⟩ := List.getElem_of_mem hy
  rw [List.length_take] at hi
  rw [List.getElem_take]
  by_cases e : i = j
  · subst e; exact h
  · cases hxy : lt key x (p[i]'(by omega))
    · rfl
    · have := List.pairwise_iff_getElem.1 hs i j (by omega) hj (by omega)
      rw [lt_lt hk hxy this] at h; cases h
/-- the row while x goes down: j of p stand ahead of it -/
def rowJ (p : List α) (x : α) (r : List α) (j : Nat) : List α := p.take j ++ x :: (p.drop j ++ r)
theorem rowJ_length (p : List α) (x : α) (r : List α) (j : Nat) : (rowJ p x r j).length = p.length + 1 + r.length := by
  unfold rowJ; simp; omega
theorem rowJ_at {p : List α} {x : α} {r : List α} {j : Nat} (hj : j ≤ p.length) : (rowJ p x r j)[j]? = some x := by
  unfold rowJ
  rw [List.getElem?_append_right (by simp; omega)]
  simp [Nat.min_eq_left hj]
theorem rowJ_pred {p : List α} {x : α} {r : List α} {j : Nat} (hj : j < p.length) : (rowJ p x r (j + 1))[j]? = some p[j] := by
  unfold rowJ
  rw [List.getElem?_append_left (by simp; omega), List.getElem?_take, if_pos (by omega), List.getElem?_eq_getElem hj]
theorem rowJ_swap {p : List α} {x : α} {r : List α} {j : Nat} (hj : j < p.length) : ((rowJ p x r (j + 1)).set (j + 1) p[j]).set j x = rowJ p x r j := by
  unfold rowJ
  have hl : (p.take (j + 1)).length = j + 1 := by simp; omega
  rw [List.set_append_right _ _ (by omega), hl, Nat.sub_self, List.set_cons_zero, List.set_append_left _ _ (by omega), List.take_succ_eq_append_getElem hj, List.set_append_right _ _ (by simp; omega)]
  rw [show j - (p.take j).length = 0 by simp; omega, List.set_cons_zero, List.append_assoc, List.drop_eq_getElem_cons hj]
  rfl
theorem isort_step {l : List α} {i : Nat} (hi : i < l.length) : isort key (l.take (i + 1)) = ins key l[i] (isort key (l.take i)) := by
  rw [List.take_succ_eq_append_getElem hi, isort_snoc]
theorem rowJ_start {l : List α} {i : Nat} (hi : i < l.length) : isort key (l.take i) ++ l.drop i = rowJ (isort key (l.take i)) l[i] (l.drop (i + 1)) i := by
  have hp : (isort key (l.take i)).length = i := by rw [isort_length, List.length_take]; omega
  unfold rowJ
  generalize isort key (l.take i) = p at *
  rw [List.take_of_length_le (by omega), List.drop_of_length_le (l := p) (by omega), List.nil_append, List.drop_eq_getElem_cons hi]
theorem rowJ_end {l : List α} {i j : Nat} (hi : i < l.length) (hj : j ≤ i) (h1 : ∀ y ∈ (isort key (l.take i)).take j, lt key l[i] y = false) (h2 : ∀ y ∈ (isort key (l.take i)).drop j, lt key l[i] y = true) :
    rowJ (isort key (l.take i)) l[i] (l.drop (i + 1)) j = isort key (l.take (i + 1)) ++ l.drop (i + 1) := by
  have hp : (isort key (l.take i)).length = i := by rw [isort_length, List.length_take]; omega
  rw [isort_step hi, ins_at l[i] _ j (by omega) h1 h2]
  unfold rowJ
  simp
end
end Go.Proofs.Ythgbfidghhlldab.B

namespace Go.Proofs.Ythgbfidghhlldab.B
section
variable {α : Type} {key : α → List UInt8}
/-- among the first i of L the one at k is the first best -/
structure FB (key : α → List UInt8) (L : List α) (i k : Nat) : Prop where
  lt : k < i ∨ (i = 0 ∧ k = 0)
  best : ∀ j x y, j < i → L[j]? = some x → L[k]? = some y → B.lt key x y = false
  first : ∀ j x y, j < k → L[j]? = some x → L[k]? = some y → B.lt key y x = true
theorem FB.zero (L : List α) : FB key L 0 0 := ⟨.inr ⟨rfl, rfl⟩, fun _ _ _ h => absurd h (Nat.not_lt_zero _), fun _ _ _ h => absurd h (Nat.not_lt_zero _)⟩
theorem FB.yes (hk : Keys key) {L : List α} {i k : Nat} (h : FB key L i k) {x y : α} (hx : L[i]? = some x) (hy : L[k]? = some y) (hl : B.lt key x y = true) : FB key L (i + 1) i := by
  refine ⟨.inl (by omega), fun j a b hj ha hb => ?_, fun j a b hj ha hb => ?_⟩
  · rw [hx] at hb
    have e := Option.some.inj hb
    subst e
    by_cases e : j = i
    · subst e; rw [hx] at ha; have e := Option.some.inj ha; subst e; exact lt_self _
    · cases h2 : B.lt key a x
      · rfl
      · have := lt_trans hk h2 hl
        rw [h.best j a y (by omega) ha hy] at this; cases this
  · rw [hx] at hb
    have e := Option.some.inj hb
    subst e
    exact lt_lt hk hl (h.best j a y hj ha hy)
theorem FB.no {L : List α} {i k : Nat} (h : FB key L i k) {x y : α} (hx : L[i]? = some x) (hy : L[k]? = some y) (hl : B.lt key x y = false) : FB key L (i + 1) k := by
  refine ⟨.inl (by rcases h.lt with h1 | h1 <;> omega), fun j a b hj ha hb => ?_, h.first⟩
  by_cases e : j = i
  · subst e
    rw [hx] at ha
    rw [hy] at hb
    have e1 := Option.some.inj ha
    have e2 := Option.some.inj hb
    subst e1 e2
    exact hl
  · exact h.best j a b (by omega) ha hb
/-- O has been taken out of l, L is left -/
structure SEL (key : α → List UInt8) (l O L : List α) : Prop where
  srt : Srt key O
  apart : ∀ o ∈ O, ∀ x ∈ L, B.lt key x o = false
  same : ∀ b, (O ++ L).filter (fun z => decide (key z = b)) = l.filter (fun z => decide (key z = b))
  len : O.length + L.length = l.length
theorem SEL.start (l : List α) : SEL key l [] l := ⟨List.Pairwise.nil, fun o h => by simp at h, fun _ => rfl, by simp⟩
theorem SEL.step {l O L : List α} {k : Nat} (h : SEL key l O L) {y : α} (hy : L[k]? = some y) (hb : FB key L L.length k) : SEL key l (O ++ [y]) (L.take k ++ L.drop (k + 1)) := by
  have hkl : k < L.length := (List.getElem?_eq_some_iff.1 hy).1
  have hyk : L[k] = y := by rw [List.getElem?_eq_getElem hkl] at hy; exact Option.some.inj hy
  have hsub : ∀ x ∈ L.take k ++ L.drop (k + 1), x ∈ L := fun x hx => by
    rcases List.mem_append.1 hx with hx | hx
    · exact List.mem_of_mem_take hx
    · exact List.mem_of_mem_drop hx
  have hL : L = L.take k ++ y :: L.drop (k + 1) := by rw [← hyk, ← List.drop_eq_getElem_cons hkl, List.take_append_drop]
  refine ⟨?_, fun o ho x hx => ?_, fun b => ?_, ?_⟩
  · refine List.pairwise_append.2 ⟨h.srt, List.pairwise_singleton _ _, fun o ho x hx => ?_⟩
    have e : x = y := by simpa using hx
    subst e
    exact h.apart o ho _ (by rw [← hyk]; exact List.getElem_mem hkl)
  · rcases List.mem_append.1 ho with ho | ho
    · exact h.apart o ho x (hsub x hx)
    · have e : o = y := by simpa using ho
      subst e
      obtain ⟨j, hj, rfl⟩ := List.getElem_of_mem (hsub x hx)
      exact hb.best j _ _ hj (List.getElem?_eq_getElem hj) hy
  · rw [← h.same b]
    by_cases e : key y = b
    · have hn : (L.take k).filter (fun z => decide (key z = b)) = [] := by
        rw [List.filter_eq_nil_iff]
        intro z hz
        obtain ⟨j, hj, rfl⟩ := List.getElem_of_mem hz
        rw [List.length_take] at hj
        rw [List.getElem_take]
        have hf := hb.first j _ _ (by omega) (List.getElem?_eq_getElem (by omega)) hy
        intro hz2
        have hz3 : key L[j] = b := by simpa using hz2
        rw [lt_key (e.trans hz3.symm), lt_self] at hf
        cases hf
      conv => rhs; rw [hL]
      simp only [List.filter_append, hn, List.filter_cons, e, decide_true, if_true]
      simp
    · conv => rhs; rw [hL]
      simp only [List.filter_append, List.filter_cons, e, decide_false]
      simp
  · have := h.len
    simp only [List.length_append, List.length_take, List.length_drop, List.length_singleton]
    omega
theorem SEL.done (hk : Keys key) {l O : List α} (h : SEL key l O []) : O = isort key l := by
  refine srt_unique hk O _ h.srt (isort_srt hk l) (fun b => ?_)
  have := h.same b
  rw [List.append_nil] at this
  rw [this, isort_filter hk b l]
end
end Go.Proofs.Ythgbfidghhlldab.B

namespace Go.Proofs.Ythgbfidghhlldab.B

/-- n rows of bits, of which b is a least one; none is the beginning of another one -/
structure Cont (n : Nat) (fld : Nat → List UInt8) (b : List UInt8) : Prop where
  all : ∀ i, i < n → (fld i).all okc = true
  pre : ∀ i j, i < n → j < n → firstD (fld i) (fld j) = none → fld i = fld j
  best : ∃ m, m < n ∧ fld m = b
  min : ∀ i, i < n → lessL (fld i) b = false

/-- the first k bits are b's -/
def ag (fld : Nat → List UInt8) (b : List UInt8) (k i : Nat) : Bool := decide ((fld i).take k = b.take k)
def leftK (n : Nat) (fld : Nat → List UInt8) (b : List UInt8) (k : Nat) : List Nat := (List.range n).filter (ag fld b k)
def lostI (fld : Nat → List UInt8) (b : List UInt8) (k i : Nat) : Int := match firstD (fld i) b with
  | some d => if d < k then (d : Int) else -1
  | none => -1
def lostK (n : Nat) (fld : Nat → List UInt8) (b : List UInt8) (k : Nat) : List Int := (List.range n).map (lostI fld b k)
/-- the bit at k -/
def bt (fld : Nat → List UInt8) (k i : Nat) : UInt8 := (fld i).getD k 0

theorem getD_at {a : List UInt8} {k : Nat} (h : k < a.length) : a.getD k 0 = a[k] := by rw [List.getD_eq_getElem?_getD, List.getElem?_eq_getElem h, Option.getD_some]

section
variable {n : Nat} {fld : Nat → List UInt8} {b : List UInt8}
theorem ag_iff (k i : Nat) : ag fld b k i = true ↔ (fld i).take k = b.take k := by unfold ag; rw [decide_eq_true_eq]
theorem leftK_zero : leftK n fld b 0 = List.range n := by
  unfold leftK
  rw [List.filter_eq_self]
  intro i _; rw [ag_iff]; simp
theorem lostK_zero : lostK n fld b 0 = List.replicate n (-1) := by
  unfold lostK
  apply List.ext_getElem
  · simp
  · intro i h1 h2
    simp only [List.getElem_map, List.getElem_range, List.getElem_replicate]
    unfold lostI
    cases firstD (fld i) b with
    | none => rfl
    | some d => exact if_neg (Nat.not_lt_zero _)
theorem mem_leftK {k i : Nat} : i ∈ leftK n fld b k ↔ i < n ∧ (fld i).take k = b.take k := by
  unfold leftK; rw [List.mem_filter, List.mem_range, ag_iff]
theorem Cont.same (h : Cont n fld b) {i : Nat} (hi : i < n) (hd : firstD (fld i) b = none) : fld i = b := by
  obtain ⟨m, hm, e⟩ := h.best
  rw [← e] at hd ⊢
  exact h.pre i m hi hm hd
theorem Cont.longer (h : Cont n fld b) {k i : Nat} (hi : i < n) (ha : (fld i).take k = b.take k) (hk : k < b.length) : k < (fld i).length := by
  rcases Nat.lt_or_ge k (fld i).length with hl | hl
  · exact hl
  · have := h.same hi (firstD_none ha (.inl hl)); rw [this] at hl; omega
theorem Cont.shorter (h : Cont n fld b) {k i : Nat} (hi : i < n) (ha : (fld i).take k = b.take k) (hk : k < (fld i).length) : k < b.length := by
  rcases Nat.lt_or_ge k b.length with hl | hl
  · exact hl
  · have := h.same hi (firstD_none ha (.inr hl)); rw [this] at hk; omega
theorem Cont.ag_succ (h : Cont n fld b) {k i : Nat} (hi : i < n) (hk : k < b.length) : ag fld b (k + 1) i = (ag fld b k i && (bt fld k i == b.getD k 0)) := by
  rw [Bool.eq_iff_iff, Bool.and_eq_true, ag_iff, ag_iff, beq_iff_eq]
  constructor
  · intro e
    have e1 : (fld i).take k = b.take k := by have := congrArg (List.take k) e; rwa [List.take_take, List.take_take, Nat.min_eq_left (by omega)] at this
    refine ⟨e1, ?_⟩
    have hl := h.longer hi e1 hk
    have := congrArg (fun l : List UInt8 => l.getD k 0) e
    simp only [List.getD_eq_getElem?_getD, List.getElem?_take, if_pos (Nat.lt_succ_self k)] at this
    unfold bt
    simpa [List.getD_eq_getElem?_getD] using this
  · rintro ⟨e1, e2⟩
    have hl := h.longer hi e1 hk
    unfold bt at e2
    rw [getD_at hl, getD_at hk] at e2
    rw [List.take_succ_eq_append_getElem hl, List.take_succ_eq_append_getElem hk, e1, e2]
theorem Cont.leftK_succ (h : Cont n fld b) {k : Nat} (hk : k < b.length) : leftK n fld b (k + 1) = (leftK n fld b k).filter (fun i => bt fld k i == b.getD k 0) := by
  unfold leftK
  rw [List.filter_filter]
  apply List.filter_congr
  intro i hi
  rw [h.ag_succ (List.mem_range.1 hi) hk, Bool.and_comm]
/-- the bus has the best one's bit -/
theorem Cont.bit_ge (h : Cont n fld b) {k i : Nat} (hk : k < b.length) (hi : i ∈ leftK n fld b k) : b.getD k 0 = 49 → bt fld k i = 49 := by
  obtain ⟨hi, ha⟩ := mem_leftK.1 hi
  have hl := h.longer hi ha hk
  intro e
  unfold bt
  rw [getD_at hl]
  rw [getD_at hk] at e
  rcases okc_cases (List.all_eq_true.1 (h.all i hi) _ (List.getElem_mem hl)) with c | c
  · have hd := firstD_at hl hk ha (by rw [c, e]; decide)
    have := h.min i hi
    unfold lessL at this
    rw [hd] at this
    simp only at this
    rw [getD_at hl, c] at this
    exact absurd this (by decide)
  · exact c
theorem Cont.best_left (h : Cont n fld b) (k : Nat) : ∃ m, m ∈ leftK n fld b k ∧ fld m = b := by
  obtain ⟨m, hm, e⟩ := h.best
  exact ⟨m, mem_leftK.2 ⟨hm, by rw [e]⟩, e⟩
theorem Cont.left_ne (h : Cont n fld b) (k : Nat) : 0 < (leftK n fld b k).length := by
  obtain ⟨m, hm, _⟩ := h.best_left k
  exact List.length_pos_of_mem hm
theorem Cont.b_all (h : Cont n fld b) : b.all okc = true := by
  obtain ⟨m, hm, e⟩ := h.best; rw [← e]; exact h.all m hm
theorem Cont.lostI_succ (h : Cont n fld b) {k i : Nat} (hi : i < n) (hk : k < b.length) : lostI fld b (k + 1) i = if ag fld b k i && !(bt fld k i == b.getD k 0) then (k : Int) else lostI fld b k i := by
  by_cases ha : ag fld b k i = true
  · have ha' := (ag_iff k i).1 ha
    have hl := h.longer hi ha' hk
    by_cases e : bt fld k i = b.getD k 0
    · rw [ha, e]
      simp only [beq_self_eq_true, Bool.not_true, Bool.and_false, Bool.false_eq_true, if_false]
      unfold lostI
      cases hd : firstD (fld i) b with
      | none => rfl
      | some d =>
        simp only
        obtain ⟨h1, h2, h3, h4⟩ := firstD_some hd
        have : d ≠ k := by
          rintro rfl
          unfold bt at e
          rw [getD_at h1, getD_at h2] at e
          exact h4 e
        by_cases hlt : d < k
        · rw [if_pos hlt, if_pos (by omega)]
        · rw [if_neg hlt, if_neg (by omega)]
    · rw [ha, show (bt fld k i == b.getD k 0) = false from beq_eq_false_iff_ne.2 e]
      simp only [Bool.not_false, Bool.and_true, if_true]
      unfold bt at e
      rw [getD_at hl, getD_at hk] at e
      unfold lostI
      rw [firstD_at hl hk ha' e]
      simp only
      rw [if_pos (Nat.lt_succ_self k)]
  · rw [show ag fld b k i = false from Bool.eq_false_iff.2 ha]
    simp only [Bool.false_and, Bool.false_eq_true, if_false]
    unfold lostI
    cases hd : firstD (fld i) b with
    | none => rfl
    | some d =>
      simp only
      obtain ⟨h1, h2, h3, h4⟩ := firstD_some hd
      have : d ≠ k := by
        rintro rfl
        exact ha ((ag_iff d i).2 h3)
      by_cases hlt : d < k
      · rw [if_pos hlt, if_pos (by omega)]
      · rw [if_neg hlt, if_neg (by omega)]
theorem Cont.left_end (h : Cont n fld b) : leftK n fld b b.length = (List.range n).filter (fun i => decide (fld i = b)) := by
  unfold leftK
  apply List.filter_congr
  intro i hi
  have hi' := List.mem_range.1 hi
  rw [Bool.eq_iff_iff, ag_iff, decide_eq_true_eq]
  constructor
  · intro e
    exact h.same hi' (firstD_none e (.inr (Nat.le_refl _)))
  · intro e; rw [e]
theorem Cont.lost_end (_h : Cont n fld b) : lostK n fld b b.length = (List.range n).map (fun i => firstI (fld i) b) := by
  unfold lostK
  apply List.map_congr_left
  intro i _
  unfold lostI firstI
  cases hd : firstD (fld i) b with
  | none => rfl
  | some d =>
    obtain ⟨_, h2, _, _⟩ := firstD_some hd
    simp only
    rw [if_pos h2]
end

/-- those that lose are written down, one after another -/
def dels (kp : Nat → Bool) (v : Int) (ls : List Nat) (os : List Int) : List Int := ls.foldl (fun os i => if kp i then os else os.set i v) os
theorem dels_snoc (kp : Nat → Bool) (v : Int) (ls : List Nat) (i : Nat) (os : List Int) : dels kp v (ls ++ [i]) os = if kp i then dels kp v ls os else (dels kp v ls os).set i v := by
  unfold dels; rw [List.foldl_append]; rfl
theorem dels_length (kp : Nat → Bool) (v : Int) : ∀ (ls : List Nat) (os : List Int), (dels kp v ls os).length = os.length := by
  intro ls
  induction ls with
  | nil => intro os; rfl
  | cons i ls ih =>
    intro os
    show (dels kp v ls (if kp i then os else os.set i v)).length = _
    rw [ih]; split <;> simp
theorem dels_get (kp : Nat → Bool) (v : Int) (p : Nat) : ∀ (ls : List Nat) (os : List Int), p < os.length → (dels kp v ls os)[p]? = if p ∈ ls ∧ kp p = false then some v else os[p]? := by
  intro ls
  induction ls with
  | nil => intro os _; simp [dels]
  | cons i ls ih =>
    intro os hp
    show (dels kp v ls (if kp i then os else os.set i v))[p]? = _
    cases hi : kp i
    · rw [if_neg (by decide), ih _ (by simpa using hp)]
      by_cases hm : p ∈ ls ∧ kp p = false
      · rw [if_pos hm, if_pos ⟨List.mem_cons_of_mem _ hm.1, hm.2⟩]
      · rw [if_neg hm]
        by_cases e : p = i
        · subst e
          rw [if_pos ⟨List.mem_cons_self, hi⟩]
          simp [hp]
        · rw [if_neg (fun h => hm ⟨(List.mem_cons.1 h.1).resolve_left e, h.2⟩), List.getElem?_set_ne (Ne.symm e)]
    · rw [if_pos rfl, ih _ hp]
      by_cases hm : p ∈ ls ∧ kp p = false
      · rw [if_pos hm, if_pos ⟨List.mem_cons_of_mem _ hm.1, hm.2⟩]
      · rw [if_neg hm, if_neg (fun h => hm ⟨(List.mem_cons.1 h.1).resolve_left (fun e => by rw [e, hi] at h; cases h.2), h.2⟩)]
theorem Cont.dels_lost {n : Nat} {fld : Nat → List UInt8} {b : List UInt8} (h : Cont n fld b) {k : Nat} (hk : k < b.length) :
    dels (fun i => bt fld k i == b.getD k 0) k (leftK n fld b k) (lostK n fld b k) = lostK n fld b (k + 1) := by
  apply List.ext_getElem?
  intro p
  by_cases hp : p < n
  · rw [dels_get _ _ _ _ _ (by unfold lostK; simpa using hp)]
    have e1 : (lostK n fld b (k + 1))[p]? = some (lostI fld b (k + 1) p) := by unfold lostK; simp [hp]
    have e0 : (lostK n fld b k)[p]? = some (lostI fld b k p) := by unfold lostK; simp [hp]
    rw [e1, e0, h.lostI_succ hp hk]
    by_cases ha : ag fld b k p = true
    · have hm : p ∈ leftK n fld b k := mem_leftK.2 ⟨hp, (ag_iff k p).1 ha⟩
      by_cases e : (bt fld k p == b.getD k 0) = true
      · rw [if_neg (fun h' => by rw [e] at h'; cases h'.2), ha, e]; rfl
      · rw [if_pos ⟨hm, Bool.eq_false_iff.2 e⟩, ha, Bool.eq_false_iff.2 e]; rfl
    · have hm : ¬ p ∈ leftK n fld b k := fun h' => ha ((ag_iff k p).2 (mem_leftK.1 h').2)
      rw [if_neg (fun h' => hm h'.1), Bool.eq_false_iff.2 ha]; rfl
  · rw [List.getElem?_eq_none (by rw [dels_length]; unfold lostK; simp; omega), List.getElem?_eq_none (by unfold lostK; simp; omega)]
end Go.Proofs.Ythgbfidghhlldab.B

namespace Go.Proofs.Ythgbfidghhlldab.B

/-- the i-th of some rows -/
def at_ (ss : List ByteArray) (i : Nat) : ByteArray := ss.getD i ByteArray.empty
/-- a row that may be, as long as the first one -/
def okrow (h s : ByteArray) : Bool := right s && s.size == h.size
def alike (ss : List ByteArray) : Bool := !ss.isEmpty && ss.all (okrow (at_ ss 0))
def preA (ss : List ByteArray) (k : Nat) : Prop := ∀ i, i < k → okrow (at_ ss 0) (at_ ss i) = true
theorem preA_zero (ss : List ByteArray) : preA ss 0 := fun i h => absurd h (by omega)
theorem preA_succ {ss : List ByteArray} {k : Nat} (h : preA ss k) (h1 : right (at_ ss k) = true) (h2 : (at_ ss k).size = (at_ ss 0).size) : preA ss (k + 1) := by
  intro i hi
  by_cases e : i = k
  · subst e; simp [okrow, h1, h2]
  · exact h i (by omega)
theorem at_mem {ss : List ByteArray} {k : Nat} (h : k < ss.length) : at_ ss k ∈ ss := by
  unfold at_; rw [List.getD_eq_getElem?_getD, List.getElem?_eq_getElem h]; simp
theorem alike_bad {ss : List ByteArray} {k : Nat} (h : k < ss.length) (hb : right (at_ ss k) = false ∨ ¬ (at_ ss k).size = (at_ ss 0).size) : alike ss = false := by
  have : ss.all (okrow (at_ ss 0)) = false := by
    rw [Bool.eq_false_iff]; intro e
    have := List.all_eq_true.1 e _ (at_mem h)
    simp only [okrow, Bool.and_eq_true, beq_iff_eq] at this
    rcases hb with hb | hb
    · rw [hb] at this; simp at this
    · exact hb this.2
  unfold alike; rw [this, Bool.and_false]
theorem alike_of {ss : List ByteArray} (h : preA ss ss.length) : alike ss = decide (0 < ss.length) := by
  have : ss.all (okrow (at_ ss 0)) = true := by
    rw [List.all_eq_true]; intro s hs
    obtain ⟨i, hi, rfl⟩ := List.getElem_of_mem hs
    have := h i hi
    unfold at_ at this ⊢
    rwa [List.getD_eq_getElem?_getD (l := ss) (i := i), List.getElem?_eq_getElem hi] at this
  unfold alike; rw [this, Bool.and_true]
  cases ss <;> simp
theorem alike_row {ss : List ByteArray} (h : alike ss = true) (k : Nat) (hk : k < ss.length) : right (at_ ss k) = true ∧ (at_ ss k).size = (at_ ss 0).size := by
  unfold alike at h
  rw [Bool.and_eq_true] at h
  have := List.all_eq_true.1 h.2 _ (at_mem hk)
  simpa [okrow] using this
theorem alike_pos {ss : List ByteArray} (h : alike ss = true) : 0 < ss.length := by
  unfold alike at h; cases ss <;> simp at h ⊢

/-- a bit of two: dominant where one is -/
def low (a b : UInt8) : UInt8 := if b = 48 then 48 else a
/-- what a bus that had l has with the row s on it, as far as the first k bits -/
def pullTo (l : List UInt8) (s : List UInt8) (k : Nat) : List UInt8 := (List.zipWith low (l.take k) s) ++ l.drop k
def pull (l s : List UInt8) : List UInt8 := List.zipWith low l s
theorem pullTo_zero (l s : List UInt8) : pullTo l s 0 = l := by simp [pullTo]
theorem pullTo_length (l s : List UInt8) (k : Nat) (h : s.length = l.length) : (pullTo l s k).length = l.length := by
  simp [pullTo, h]; omega
theorem pullTo_full (l s : List UInt8) : pullTo l s l.length = pull l s := by
  simp [pullTo, pull]
theorem pull_length (l s : List UInt8) (h : s.length = l.length) : (pull l s).length = l.length := by simp [pull, h]
theorem pullTo_get (l s : List UInt8) (k i : Nat) (h : s.length = l.length) : (pullTo l s k)[i]? = if i < k then (l[i]?).bind fun a => (s[i]?).map (low a) else l[i]? := by
  unfold pullTo
  by_cases hi : i < k
  · rw [if_pos hi]
    by_cases hl : i < l.length
    · rw [List.getElem?_append_left (by simp [h]; omega), List.getElem?_zipWith, List.getElem?_take, if_pos hi, List.getElem?_eq_getElem hl, List.getElem?_eq_getElem (by omega : i < s.length)]; simp
    · rw [List.getElem?_eq_none (by simp [h]; omega), List.getElem?_eq_none (by omega : l.length ≤ i)]; simp
  · rw [if_neg hi]
    by_cases hl : k ≤ l.length
    · rw [List.getElem?_append_right (by simp [h]; omega), List.getElem?_drop]
      congr 1; simp [h]; omega
    · rw [List.getElem?_eq_none (by simp [h]; omega), List.getElem?_eq_none (by omega)]
theorem pullTo_same {l s : List UInt8} {k : Nat} (h : s.length = l.length) (hk : k < l.length) (hs : ¬ s[k]? = some 48) : pullTo l s (k + 1) = pullTo l s k := by
  apply List.ext_getElem?
  intro i
  rw [pullTo_get _ _ _ _ h, pullTo_get _ _ _ _ h]
  by_cases e : i = k
  · subst e
    rw [if_pos (by omega), if_neg (by omega)]
    rw [List.getElem?_eq_getElem (by omega : i < s.length)] at hs ⊢
    rw [List.getElem?_eq_getElem hk]
    simp at hs
    simp [low, hs]
  · by_cases h1 : i < k
    · rw [if_pos (by omega), if_pos h1]
    · rw [if_neg (by omega), if_neg h1]
theorem pullTo_set {l s : List UInt8} {k : Nat} (h : s.length = l.length) (hk : k < l.length) (hs : s[k]? = some 48) : pullTo l s (k + 1) = (pullTo l s k).set k 48 := by
  apply List.ext_getElem?
  intro i
  rw [List.getElem?_set, pullTo_get _ _ _ _ h, pullTo_get _ _ _ _ h, pullTo_length _ _ _ h]
  by_cases e : k = i
  · subst e
    rw [if_pos (by omega), if_pos rfl, if_pos hk, hs, List.getElem?_eq_getElem hk]
    simp [low]
  · rw [if_neg e]
    by_cases h1 : i < k
    · rw [if_pos (by omega), if_pos h1]
    · rw [if_neg (by omega), if_neg h1]

/-- what a bus has of rows: the first one, and each other one pulled onto it -/
def andTo (ss : List ByteArray) (k : Nat) : List UInt8 := (ss.drop 1 |>.take k).foldl (fun l s => pull l s.data.toList) (at_ ss 0).data.toList
def andL (ss : List ByteArray) : List UInt8 := andTo ss (ss.length - 1)
theorem andTo_zero (ss : List ByteArray) : andTo ss 0 = (at_ ss 0).data.toList := by simp [andTo]
theorem andTo_succ {ss : List ByteArray} {k : Nat} (h : k + 1 < ss.length) : andTo ss (k + 1) = pull (andTo ss k) (at_ ss (k + 1)).data.toList := by
  unfold andTo
  rw [List.take_succ_eq_append_getElem (by simp; omega), List.foldl_append]
  simp only [List.foldl_cons, List.foldl_nil, List.getElem_drop]
  congr 2
  unfold at_
  rw [List.getD_eq_getElem?_getD, List.getElem?_eq_getElem h]
  simp [Nat.add_comm 1 k]
theorem andTo_length {ss : List ByteArray} (h : alike ss = true) (k : Nat) (hk : k < ss.length) : (andTo ss k).length = (at_ ss 0).size := by
  induction k with
  | zero => rw [andTo_zero, size_len]
  | succ k ih =>
    rw [andTo_succ hk, pull_length _ _ (by rw [ih (by omega), size_len]; exact (alike_row h _ hk).2), ih (by omega)]

theorem low_comm {a b : UInt8} (ha : okc a = true) (hb : okc b = true) : low a b = low b a := by
  rcases okc_cases ha with rfl | rfl <;> rcases okc_cases hb with rfl | rfl <;> rfl
theorem low_twice (a b : UInt8) : low (low a b) a = low a b := by
  unfold low; split <;> split <;> simp_all
theorem low_one (a : UInt8) : low a 49 = a := rfl
theorem okc_low {a b : UInt8} (ha : okc a = true) : okc (low a b) = true := by
  unfold low; split
  · rfl
  · exact ha
theorem pull_comm (l s : List UInt8) (hl : l.all okc = true) (hs : s.all okc = true) : pull l s = pull s l := by
  unfold pull
  induction l generalizing s with
  | nil => cases s <;> rfl
  | cons a l ih =>
    cases s with
    | nil => rfl
    | cons b s =>
      simp only [List.all_cons, Bool.and_eq_true] at hl hs
      simp only [List.zipWith_cons_cons]
      rw [low_comm hl.1 hs.1, ih s hl.2 hs.2]
theorem pull_twice (l s : List UInt8) (h : s.length = l.length) : pull (pull l s) l = pull l s := by
  unfold pull
  induction l generalizing s with
  | nil => cases s <;> rfl
  | cons a l ih =>
    cases s with
    | nil => rfl
    | cons b s =>
      simp only [List.zipWith_cons_cons, low_twice]
      rw [ih s (by simpa using h)]
theorem pull_ones (l : List UInt8) : pull l (List.replicate l.length 49) = l := by
  unfold pull
  induction l with
  | nil => rfl
  | cons a l ih => rw [List.length_cons, List.replicate_succ, List.zipWith_cons_cons, low_one, ih]
theorem pull_get {l s : List UInt8} {i : Nat} (h : s.length = l.length) (hi : i < l.length) : (pull l s)[i]? = some (low l[i] (s[i]'(by omega))) := by
  unfold pull; rw [List.getElem?_zipWith, List.getElem?_eq_getElem hi, List.getElem?_eq_getElem (by omega)]

theorem alike2 {s t : ByteArray} (h : s.size = t.size) : alike [s, t] = (right s && right t) := by
  simp [alike, at_, okrow, h]
theorem alike4 {s t o : ByteArray} (h : s.size = t.size) (ho : o.size = t.size) (hr : right o = true) : alike [s, t, s, o] = (right s && right t) := by
  simp [alike, at_, okrow, h, ho, hr]
  cases right s <;> cases right t <;> rfl
theorem andL2 (s t : ByteArray) : andL [s, t] = pull s.data.toList t.data.toList := rfl
theorem andL4 (s t o : ByteArray) : andL [s, t, s, o] = pull (pull (pull s.data.toList t.data.toList) s.data.toList) o.data.toList := rfl
/-- two rows of one length on one bus -/
def bus2 (s t : ByteArray) : ByteArray := ⟨(pull s.data.toList t.data.toList).toArray⟩
theorem bus2_size {s t : ByteArray} (h : s.size = t.size) : (bus2 s t).size = t.size := by
  show (pull s.data.toList t.data.toList).length = _
  rw [pull_length _ _ (by rw [size_len, size_len]; omega), size_len, h]
theorem bus2_comm {s t : ByteArray} (hs : right s = true) (ht : right t = true) : bus2 s t = bus2 t s := by
  unfold bus2; rw [pull_comm _ _ (right_all hs) (right_all ht)]
theorem bus2_at {s t : ByteArray} (h : s.size = t.size) (k : Nat) (h1 : k < (bus2 s t).size) (h2 : k < s.size) (h3 : k < t.size) : (bus2 s t)[k] = low s[k] t[k] := by
  have := pull_get (l := s.data.toList) (s := t.data.toList) (i := k) (by rw [size_len, size_len]; omega) (by rw [size_len]; exact h2)
  have e : (pull s.data.toList t.data.toList)[k]? = some (bus2 s t)[k] := List.getElem?_eq_getElem (l := pull s.data.toList t.data.toList) h1
  rw [this] at e
  exact (Option.some.inj e).symm
theorem bus4 {s t o : ByteArray} {n : Nat} (h : s.size = t.size) (hn : t.size = n) (ho : o.data.toList = List.replicate n 49) : (⟨(andL [s, t, s, o]).toArray⟩ : ByteArray) = bus2 s t := by
  have hl : (pull s.data.toList t.data.toList).length = n := by rw [pull_length _ _ (by rw [size_len, size_len]; omega), size_len]; omega
  have h1 := pull_ones (pull s.data.toList t.data.toList)
  rw [hl] at h1
  rw [andL4, pull_twice _ _ (by rw [size_len, size_len]; omega), ho, h1]; rfl

end Go.Proofs.Ythgbfidghhlldab.B

namespace Go.Proofs.Ythgbfidghhlldab.B

theorem dels_keep (kp : Nat → Bool) (v : Int) : ∀ (ls : List Nat) (os : List Int), (∀ i ∈ ls, kp i = true) → dels kp v ls os = os := by
  intro ls
  induction ls with
  | nil => intro os _; rfl
  | cons i ls ih =>
    intro os h
    show dels kp v ls (if kp i then os else os.set i v) = os
    rw [h i (by simp), if_pos rfl]
    exact ih os (fun j hj => h j (by simp [hj]))
/-- the first j have been looked at: i of them are kept, and lie ahead -/
structure KI (kp : Nat → Bool) (ls xs : List Nat) (i j : Nat) : Prop where
  len : xs.length = ls.length
  ij : i < j
  jl : j ≤ ls.length
  il : ((ls.take j).filter kp).length = i
  tk : xs.take i = (ls.take j).filter kp
  dr : xs.drop j = ls.drop j
theorem filter_take_keep {kp : Nat → Bool} {ls : List Nat} {j : Nat} (h : j < ls.length) (hk : kp ls[j] = true) : (ls.take (j + 1)).filter kp = (ls.take j).filter kp ++ [ls[j]] := by
  rw [List.take_succ_eq_append_getElem h, List.filter_append, List.filter_cons, if_pos hk]; rfl
theorem filter_take_lose {kp : Nat → Bool} {ls : List Nat} {j : Nat} (h : j < ls.length) (hk : kp ls[j] = false) : (ls.take (j + 1)).filter kp = (ls.take j).filter kp := by
  rw [List.take_succ_eq_append_getElem h, List.filter_append, List.filter_cons, hk]; simp
theorem KI.start {kp : Nat → Bool} {ls : List Nat} {j : Nat} (hj : j < ls.length) (hk : ∀ i (h : i < ls.length), i < j → kp ls[i] = true) (hl : kp ls[j] = false) : KI kp ls ls j (j + 1) := by
  have hf : (ls.take j).filter kp = ls.take j := by
    rw [List.filter_eq_self]
    intro x hx
    obtain ⟨i, hi, rfl⟩ := List.getElem_of_mem hx
    rw [List.length_take] at hi
    rw [List.getElem_take]
    exact hk i (by omega) (by omega)
  refine ⟨rfl, by omega, hj, ?_, ?_, rfl⟩
  · rw [filter_take_lose hj hl, hf, List.length_take]; omega
  · rw [filter_take_lose hj hl, hf]
theorem KI.get {kp : Nat → Bool} {ls xs : List Nat} {i j : Nat} (h : KI kp ls xs i j) (hj : j < ls.length) : xs[j]'(by rw [h.len]; exact hj) = ls[j] := by
  have := congrArg (fun l : List Nat => l[0]?) h.dr
  simp only [List.getElem?_drop, Nat.add_zero] at this
  rw [List.getElem?_eq_getElem (by rw [h.len]; exact hj), List.getElem?_eq_getElem hj] at this
  exact Option.some.inj this
theorem KI.keep {kp : Nat → Bool} {ls xs : List Nat} {i j : Nat} (h : KI kp ls xs i j) (hj : j < ls.length) (hk : kp ls[j] = true) : KI kp ls (xs.set i ls[j]) (i + 1) (j + 1) := by
  have hi : i < xs.length := by have := h.ij; rw [h.len]; omega
  refine ⟨by rw [List.length_set, h.len], by have := h.ij; omega, hj, ?_, ?_, ?_⟩
  · rw [filter_take_keep hj hk, List.length_append, h.il]; rfl
  · rw [filter_take_keep hj hk, ← h.tk, List.take_succ_eq_append_getElem (by rw [List.length_set]; exact hi), List.take_set_of_le (Nat.le_refl _), List.getElem_set_self]
  · rw [List.drop_set_of_lt (by have := h.ij; omega)]
    have := congrArg (List.drop 1) h.dr
    rwa [List.drop_drop, List.drop_drop] at this
theorem KI.lose {kp : Nat → Bool} {ls xs : List Nat} {i j : Nat} (h : KI kp ls xs i j) (hj : j < ls.length) (hk : kp ls[j] = false) : KI kp ls xs i (j + 1) := by
  refine ⟨h.len, by have := h.ij; omega, hj, ?_, ?_, ?_⟩
  · rw [filter_take_lose hj hk]; exact h.il
  · rw [filter_take_lose hj hk]; exact h.tk
  · have := congrArg (List.drop 1) h.dr
    rwa [List.drop_drop, List.drop_drop] at this
theorem first_lose (kp : Nat → Bool) : ∀ (ls : List Nat), (∀ i ∈ ls, kp i = true) ∨ ∃ j, ∃ h : j < ls.length, kp ls[j] = false ∧ ∀ i (h : i < ls.length), i < j → kp ls[i] = true := by
  intro ls
  induction ls with
  | nil => exact .inl (fun i h => by simp at h)
  | cons a ls ih =>
    cases ha : kp a
    · exact .inr ⟨0, by simp, ha, fun i _ h => absurd h (Nat.not_lt_zero _)⟩
    · rcases ih with h | ⟨j, hj, h1, h2⟩
      · exact .inl (fun i hi => by rcases List.mem_cons.1 hi with rfl | hi; exact ha; exact h i hi)
      · refine .inr ⟨j + 1, by simpa using hj, h1, fun i hi hlt => ?_⟩
        cases i with
        | zero => exact ha
        | succ i => exact h2 i (by simpa using hi) (by omega)
end Go.Proofs.Ythgbfidghhlldab.B
