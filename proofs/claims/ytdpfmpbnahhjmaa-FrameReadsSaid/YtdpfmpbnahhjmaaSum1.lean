/- Plain facts on a row's sum: what a step comes to in the machine's words; a row's sum as a fold over its bytes. No program. -/
import Derived.Test.YtdpfmpbnahhjmaaCrc1
import Derived.WalkKit
namespace Go.Proofs.Ytdpfmpbnahhjmaa.B
open Go.RowKit

theorem u32_in (a : Nat) (ha : a < 4294967296) : (BitVec.ofInt 32 (a : Int)).toNat = a := by
  rw [BitVec.ofInt_natCast, BitVec.toNat_ofNat]; exact Nat.mod_eq_of_lt (by omega)
theorem and_u32 (a b : Nat) (ha : a < 4294967296) (hb : b < 4294967296) : bits BinOp.and IntKind.u32 (a : Int) (b : Int) = ((a &&& b : Nat) : Int) := by
  have hx : a &&& b < 2 ^ 32 := Nat.and_lt_two_pow _ (by omega)
  show IntKind.u32.wrap ((BitVec.ofInt 32 (a : Int) &&& BitVec.ofInt 32 (b : Int)).toNat : Int) = _
  rw [BitVec.toNat_and, u32_in a ha, u32_in b hb, IntKind.wrap_u32]
  omega
theorem xor_u32 (a b : Nat) (ha : a < 4294967296) (hb : b < 4294967296) : bits BinOp.xor IntKind.u32 (a : Int) (b : Int) = ((a ^^^ b : Nat) : Int) := by
  have hx : a ^^^ b < 2 ^ 32 := Nat.xor_lt_two_pow (by omega) (by omega)
  show IntKind.u32.wrap ((BitVec.ofInt 32 (a : Int) ^^^ BitVec.ofInt 32 (b : Int)).toNat : Int) = _
  rw [BitVec.toNat_xor, u32_in a ha, u32_in b hb, IntKind.wrap_u32]
  omega
theorem top_bit (n : Nat) : (n &&& 16384 != 0) = n.testBit 14 := by
  have hb : ∀ i, (n &&& 16384).testBit i = (n.testBit i && decide (14 = i)) := fun i => by
    rw [Nat.testBit_and, show (16384 : Nat) = 2 ^ 14 from rfl, Nat.testBit_two_pow]
  cases h : n.testBit 14
  · have : n &&& 16384 = 0 := Nat.eq_of_testBit_eq fun i => by
      rw [hb, Nat.zero_testBit]
      by_cases hi : 14 = i
      · subst hi; simp [h]
      · simp [hi]
    rw [this]; rfl
  · have h2 := hb 14
    rw [h] at h2
    rw [bne_iff_ne]
    intro e
    rw [e] at h2
    simp at h2
theorem top_high (n : Nat) : ((n % 32768 / 16384 : Nat) = 1) ↔ n.testBit 14 = true := by
  rw [Nat.testBit_eq_decide_div_mod_eq]
  simp
  omega
theorem low_15 (n : Nat) : n &&& 32767 = n % 32768 := Nat.and_two_pow_sub_one_eq_mod n 15

theorem up_u32 (n : Nat) : bits BinOp.and IntKind.u32 ((n : Int) * 2 % 4294967296) 32767 = ((2 * n % 32768 : Nat) : Int) := by
  have h := and_u32 (2 * n % 4294967296) 32767 (by omega) (by omega)
  rw [low_15] at h
  have e : ((n : Int) * 2 % 4294967296) = ((2 * n % 4294967296 : Nat) : Int) := by omega
  rw [e]
  refine h.trans ?_
  omega
theorem xor_turns (m : Nat) (h : m < 32768) : bits BinOp.xor IntKind.u32 (m : Int) 17817 = ((m ^^^ 17817 : Nat) : Int) := xor_u32 m 17817 (by omega) (by omega)
theorem top_u32 (n : Nat) (h : n < 4294967296) : (bits BinOp.and IntKind.u32 (n : Int) 16384 != 0) = n.testBit 14 := by
  rw [show (16384 : Int) = ((16384 : Nat) : Int) from rfl, and_u32 n 16384 h (by omega), ← top_bit]
  rw [Bool.eq_iff_iff, bne_iff_ne, bne_iff_ne]
  omega
theorem int_dec (c d : Nat) : ((c : Int) == (d : Int)) = decide (c = d) := by
  rw [Bool.eq_iff_iff, beq_iff_eq, decide_eq_true_iff]; omega
theorem step_yes (n c : Nat) (hn : n < 4294967296) (h : (!(bits BinOp.and IntKind.u32 (n : Int) 16384 != 0) == ((c : Int) == 49)) = true) :
    bits BinOp.xor IntKind.u32 (bits BinOp.and IntKind.u32 ((n : Int) * 2 % 4294967296) 32767) 17817 = ((stepN n (decide (c = 49)) : Nat) : Int) := by
  rw [top_u32 n hn, show ((49 : Int)) = ((49 : Nat) : Int) from rfl, int_dec] at h
  rw [up_u32, xor_turns _ (by omega)]
  unfold stepN
  have h' : (n.testBit 14 != decide (c = 49)) = true := h
  rw [h']; rfl
theorem step_no (n c : Nat) (hn : n < 4294967296) (h : (!(bits BinOp.and IntKind.u32 (n : Int) 16384 != 0) == ((c : Int) == 49)) = false) :
    bits BinOp.and IntKind.u32 ((n : Int) * 2 % 4294967296) 32767 = ((stepN n (decide (c = 49)) : Nat) : Int) := by
  rw [top_u32 n hn, show ((49 : Int)) = ((49 : Nat) : Int) from rfl, int_dec] at h
  rw [up_u32]
  unfold stepN
  have h' : (n.testBit 14 != decide (c = 49)) = false := h
  rw [h']; simp

theorem high_15 (n : Nat) (b : Bool) : (((n : Int) % 32768 / 16384) != (if b then 1 else 0)) = (n.testBit 14 != b) := by
  have h := top_high n
  have h2 : n % 32768 / 16384 ≤ 1 := by omega
  cases hb : n.testBit 14
  · have h3 : n % 32768 / 16384 = 0 := by
      rw [hb] at h
      have : ¬ n % 32768 / 16384 = 1 := fun e => by have := h.1 e; cases this
      omega
    have e : (n : Int) % 32768 / 16384 = 0 := by omega
    rw [e]; cases b <;> rfl
  · have h3 := h.2 hb
    have e : (n : Int) % 32768 / 16384 = 1 := by omega
    rw [e]; cases b <;> rfl
theorem ref_yes {n c : Nat} {b : Bool} (h1 : ((c : Int) == 49) = b) (h2 : (((n : Int) % 32768 / 16384) != (if b then 1 else 0)) = true) :
    bits BinOp.xor IntKind.u32 (2 * ((n : Int) % 32768) % 32768) 17817 = ((stepN n (decide (c = 49)) : Nat) : Int) := by
  rw [show ((49 : Int)) = ((49 : Nat) : Int) from rfl, int_dec] at h1
  rw [high_15] at h2
  have e : (2 * ((n : Int) % 32768) % 32768) = ((2 * n % 32768 : Nat) : Int) := by omega
  rw [e, xor_turns _ (by omega)]
  unfold stepN
  rw [h1, h2]; rfl
theorem ref_no {n c : Nat} {b : Bool} (h1 : ((c : Int) == 49) = b) (h2 : (((n : Int) % 32768 / 16384) != (if b then 1 else 0)) = false) :
    (2 * ((n : Int) % 32768) % 32768) = ((stepN n (decide (c = 49)) : Nat) : Int) := by
  rw [show ((49 : Int)) = ((49 : Nat) : Int) from rfl, int_dec] at h1
  rw [high_15] at h2
  have e : (2 * ((n : Int) % 32768) % 32768) = ((2 * n % 32768 : Nat) : Int) := by omega
  rw [e]
  unfold stepN
  rw [h1, h2]; simp

/-- a bit of a row -/
def one (c : UInt8) : Bool := c == 49
theorem one_iff (c : UInt8) : one c = true ↔ c.toNat = 49 := by
  unfold one
  rw [beq_iff_eq]
  exact ⟨fun h => by rw [h]; rfl, fun h => UInt8.toNat_inj.1 h⟩
theorem one_dec (c : UInt8) : one c = decide (c.toNat = 49) := by
  rw [Bool.eq_iff_iff, one_iff]; simp
/-- what a row's bytes make of s -/
def crc (s : Nat) (l : List UInt8) : Nat := sumB s (l.map one)
theorem crc_nil (s : Nat) : crc s [] = s := rfl
theorem crc_append (s : Nat) (a b : List UInt8) : crc s (a ++ b) = crc (crc s a) b := by unfold crc; rw [List.map_append, sumB_append]
theorem crc_snoc (s : Nat) (a : List UInt8) (c : UInt8) : crc s (a ++ [c]) = stepN (crc s a) (one c) := by unfold crc; rw [List.map_append, List.map_singleton, sumB_snoc]
theorem crc_lt (l : List UInt8) : crc 0 l < 32768 := sumB_lt _
/-- a row's sum -/
def sum (s : ByteArray) : Nat := crc 0 s.data.toList
theorem sum_lt (s : ByteArray) : sum s < 32768 := crc_lt _
theorem crc_take_succ (m : Nat) (s : ByteArray) (k : Nat) (h : k < s.size) : crc m (s.data.toList.take (k + 1)) = stepN (crc m (s.data.toList.take k)) (one s[k]) := by
  rw [take_snoc s k h, crc_snoc]
theorem crc_lt32 (n : Nat) (hn : n < 4294967296) (l : List UInt8) : crc n l < 4294967296 := by
  rcases List.eq_nil_or_concat l with rfl | ⟨a, c, rfl⟩
  · exact hn
  · rw [List.concat_eq_append, crc_snoc]
    have := stepN_lt (crc n a) (one c)
    omega
/-- what tells whether a row ends with its sum -/
def check (s : ByteArray) : Bool := decide (15 ≤ s.size) && right s && (sum s == 0)
/-- a row with its sum behind it -/
def framed (s : ByteArray) : ByteArray := s ++ ofn (sum s) 15
theorem check_short {s : ByteArray} (h : s.size < 15) : check s = false := by unfold check; simp; omega
theorem check_bad {s : ByteArray} (h : right s = false) : check s = false := by unfold check; simp [h]
theorem check_good {s : ByteArray} (h : 15 ≤ s.size) (hr : right s = true) : (((sum s : Nat) : Int) == 0) = check s := by
  unfold check
  rw [hr, Bool.eq_iff_iff, beq_iff_eq]
  simp [h]
end Go.Proofs.Ytdpfmpbnahhjmaa.B
