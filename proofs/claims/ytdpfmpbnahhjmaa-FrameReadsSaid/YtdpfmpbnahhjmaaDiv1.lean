/- Plain facts on dividing on paper, as rows of digits in memory. No program. -/
import Derived.Test.YtdpfmpbnahhjmaaSum1
namespace Go.Proofs.Ytdpfmpbnahhjmaa.B
open Go.RowKit

/-- a digit in memory -/
def dig (b : Bool) : Value := .int .u8 ((b.toNat : Nat) : Int)
def rowD (f : Nat → Bool) (n : Nat) : List Value := (List.range n).map fun j => dig (f j)
theorem rowD_length (f : Nat → Bool) (n : Nat) : (rowD f n).length = n := by simp [rowD]
theorem rowD_succ (f : Nat → Bool) (n : Nat) : rowD f n ++ [dig (f n)] = rowD f (n + 1) := by
  unfold rowD; rw [List.range_succ, List.map_append]; rfl
theorem rowD_at (f : Nat → Bool) (n j : Nat) (h : j < n) : (rowD f n)[j]? = some (dig (f j)) := by
  unfold rowD; simp [h]
theorem rowD_congr {f g : Nat → Bool} (n : Nat) (h : ∀ j, j < n → f j = g j) : rowD f n = rowD g n := by
  unfold rowD
  apply List.map_congr_left
  intro j hj
  rw [h j (List.mem_range.1 hj)]
theorem rowD_set (f : Nat → Bool) (n j : Nat) (b : Bool) : (rowD f n).set j (dig b) = rowD (fun x => if x = j then b else f x) n := by
  apply List.ext_getElem?
  intro x
  unfold rowD
  rw [List.getElem?_set]
  by_cases h : j = x
  · subst h
    by_cases hn : j < n <;> simp [hn]
  · rw [if_neg h]
    simp only [List.getElem?_map]
    by_cases hn : x < n
    · simp [hn, Ne.symm h]
    · simp [hn]
/-- the message's digits -/
def msg (s : ByteArray) (j : Nat) : Bool := match s.data.toList[j]? with | some c => one c | none => false
theorem msg_in {s : ByteArray} {j : Nat} (h : j < s.size) : msg s j = one s[j] := by
  unfold msg
  rw [List.getElem?_eq_getElem (by rw [size_len]; exact h)]
  rfl
theorem msg_out {s : ByteArray} {j : Nat} (h : s.size ≤ j) : msg s j = false := by
  unfold msg
  rw [List.getElem?_eq_none (by rw [size_len]; exact h)]
theorem dig_byte {s : ByteArray} {j : Nat} (hr : right s = true) (h : j < s.size) : Value.int .u8 ((s[j].toNat : Int) - 48) = dig (msg s j) := by
  have hb := right_bound hr j h
  rw [msg_in h, one_dec]
  unfold dig
  by_cases h1 : s[j].toNat = 49
  · simp [h1]
  · have : s[j].toNat = 48 := by omega
    simp [this]
/-- the row when i digits are divided -/
def at0 (s : ByteArray) (i : Nat) : Nat → Bool := win (msg s) i (crc 0 (s.data.toList.take i))
theorem at0_zero (s : ByteArray) (n : Nat) : rowD (msg s) n = rowD (at0 s 0) n := by
  apply rowD_congr
  intro j _
  unfold at0 win
  simp [crc_nil]
/-- and with k digits of the divisor taken away at i -/
def at1 (s : ByteArray) (i k j : Nat) : Bool := if i ≤ j ∧ j < i + k then (at0 s i j != divisor (j - i)) else at0 s i j
theorem at1_zero (s : ByteArray) (i n : Nat) : rowD (at0 s i) n = rowD (at1 s i 0) n := by
  apply rowD_congr
  intro j _
  unfold at1
  rw [if_neg (by omega)]
theorem at1_here (s : ByteArray) (i k : Nat) : at1 s i k (i + k) = at0 s i (i + k) := by unfold at1; rw [if_neg (by omega)]
theorem at1_succ (s : ByteArray) (i k n : Nat) : (rowD (at1 s i k) n).set (i + k) (dig (at0 s i (i + k) != divisor k)) = rowD (at1 s i (k + 1)) n := by
  rw [rowD_set]
  apply rowD_congr
  intro j _
  unfold at1
  by_cases h : j = i + k
  · subst h
    rw [if_pos rfl, if_pos (by omega), show i + k - i = k from by omega]
  · rw [if_neg h]
    by_cases h2 : i ≤ j ∧ j < i + k
    · rw [if_pos h2, if_pos (by omega)]
    · rw [if_neg h2, if_neg (by omega)]
theorem at0_step {s : ByteArray} {i : Nat} (h : i < s.size) : at0 s (i + 1) = win (msg s) (i + 1) (stepN (crc 0 (s.data.toList.take i)) (msg s i)) := by
  unfold at0
  rw [crc_take_succ 0 s i h, msg_in h]
theorem at1_full {s : ByteArray} {i : Nat} (h : i < s.size) (h1 : at0 s i i = true) (n : Nat) : rowD (at1 s i 16) n = rowD (at0 s (i + 1)) n := by
  apply rowD_congr
  intro j _
  rw [at0_step h, win_step]
  have h1' : win (msg s) i (crc 0 (s.data.toList.take i)) i = true := h1
  rw [h1']
  unfold at1
  by_cases h2 : i ≤ j ∧ j < i + 16
  · rw [if_pos h2]
    have : decide (i ≤ j ∧ j ≤ i + 15) = true := by simp; omega
    rw [this]; simp [at0]
  · rw [if_neg h2]
    have : decide (i ≤ j ∧ j ≤ i + 15) = false := by simp; omega
    rw [this]; simp [at0]
theorem at0_skip {s : ByteArray} {i : Nat} (h : i < s.size) (h1 : at0 s i i = false) (n : Nat) : rowD (at0 s i) n = rowD (at0 s (i + 1)) n := by
  apply rowD_congr
  intro j _
  rw [at0_step h, win_step]
  have h1' : win (msg s) i (crc 0 (s.data.toList.take i)) i = false := h1
  rw [h1']
  simp [at0]
/-- what is left -/
theorem at0_end (s : ByteArray) (k : Nat) (hk : k < 15) : at0 s s.size (s.size + k) = (sum s).testBit (14 - k) := by
  unfold at0 win
  rw [List.take_of_length_le (by rw [size_len]; exact Nat.le_refl _), msg_out (by omega), if_neg (by omega)]
  rw [show s.size + k - s.size = k from by omega]
  have : decide (s.size + k < s.size + 15) = true := by simp; omega
  rw [this]; simp [sum]
theorem div_step (r k : Nat) (hk : k < 15) : 2 * (r / 2 ^ (15 - k)) + (r.testBit (14 - k)).toNat = r / 2 ^ (15 - (k + 1)) := by
  have e : r / 2 ^ (15 - k) = r / 2 ^ (14 - k) / 2 := by
    rw [show 15 - k = (14 - k) + 1 from by omega, Nat.pow_succ, Nat.div_div_eq_div_mul]
  rw [e, Nat.testBit_eq_decide_div_mod_eq, show 15 - (k + 1) = 14 - k from by omega]
  generalize r / 2 ^ (14 - k) = q
  by_cases h : q % 2 = 1
  · simp [h]; omega
  · simp [h]; omega
theorem div_begin (s : ByteArray) : sum s / 2 ^ (15 - 0) = 0 := by
  have := sum_lt s
  simp; omega
/-- the divisor's text -/
theorem ofn_at (n k i : Nat) (h : i < (ofn n k).size) : (ofn n k)[i].toNat = 48 + n / 2 ^ (k - 1 - i) % 2 := by
  rw [← bit_toNat]
  show ((ofl n k).toArray[i]'_).toNat = _
  simp [ofl]
theorem divisor_at (k : Nat) (h : k < (ofn 50585 16).size) : (((ofn 50585 16)[k].toNat : Int) - 48) = ((divisor k).toNat : Int) := by
  rw [ofn_at]
  unfold divisor
  rw [Nat.testBit_eq_decide_div_mod_eq, show 16 - 1 - k = 15 - k from by omega]
  generalize 50585 / 2 ^ (15 - k) = q
  by_cases h : q % 2 = 1
  · simp [h]
  · have : q % 2 = 0 := by omega
    simp [this]
theorem divisor_byte (k : Nat) (h : k < (ofn 50585 16).size) : 48 ≤ (ofn 50585 16)[k].toNat ∧ (ofn 50585 16)[k].toNat ≤ 49 := by
  rw [ofn_at]; omega
theorem dig_xor (a b : Bool) : bits BinOp.xor IntKind.u8 ((a.toNat : Nat) : Int) ((b.toNat : Nat) : Int) = (((a != b).toNat : Nat) : Int) := by
  cases a <;> cases b <;> decide
end Go.Proofs.Ytdpfmpbnahhjmaa.B
