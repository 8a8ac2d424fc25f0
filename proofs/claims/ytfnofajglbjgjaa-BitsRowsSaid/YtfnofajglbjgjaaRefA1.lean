/- Plain facts for the reference's And, Turn and Runs: they come to what the program's calls come to. No Go, no program. -/
import Derived.Test.YtfnofajglbjgjaaRows1
import Derived.Test.YtfnofajglbjgjaaRuns1
import Derived.Test.YtfnofajglbjgjaaFlip1
import Derived.Lib.Strings
namespace Go.Proofs.Ytfnofajglbjgjaa.B

/-- has one of the first j rows a dominant bit at i -/
def zeroTo (ss : List ByteArray) (i j : Nat) : Bool := (ss.take j).any fun s => s.data.toList[i]? == some 48
/-- the bit so far -/
def bitTo (ss : List ByteArray) (i j : Nat) : UInt8 := if zeroTo ss i j then 48 else 49
theorem bitTo_zero (ss : List ByteArray) (i : Nat) : bitTo ss i 0 = 49 := by simp [bitTo, zeroTo]
theorem take_succ_at {ss : List ByteArray} {j : Nat} (h : j < ss.length) : ss.take (j + 1) = ss.take j ++ [at_ ss j] := by
  rw [List.take_succ_eq_append_getElem h]
  unfold at_; rw [List.getD_eq_getElem?_getD, List.getElem?_eq_getElem h]; rfl
theorem bitTo_hit {ss : List ByteArray} {i j : Nat} (h : j < ss.length) (hi : (at_ ss j).data.toList[i]? = some 48) : bitTo ss i (j + 1) = 48 := by
  unfold bitTo zeroTo; rw [take_succ_at h, List.any_append]
  simp only [List.any_cons, List.any_nil, Bool.or_false, hi, beq_self_eq_true, Bool.or_true, if_true]
theorem bitTo_miss {ss : List ByteArray} {i j : Nat} (h : j < ss.length) (hi : ¬ (at_ ss j).data.toList[i]? = some 48) : bitTo ss i (j + 1) = bitTo ss i j := by
  unfold bitTo zeroTo; rw [take_succ_at h, List.any_append]
  simp only [List.any_cons, List.any_nil, Bool.or_false, beq_eq_false_iff_ne.2 hi]
theorem bitTo_okc (ss : List ByteArray) (i j : Nat) : bitTo ss i j = 48 ∨ bitTo ss i j = 49 := by unfold bitTo; split <;> simp
theorem row_okc {s : ByteArray} {i : Nat} (hr : right s = true) (hi : i < s.size) : s.data.toList[i]? = some 48 ∨ s.data.toList[i]? = some 49 := by
  have hl : i < s.data.toList.length := by rw [size_len]; exact hi
  rw [List.getElem?_eq_getElem hl]
  rcases okc_cases (List.all_eq_true.1 (right_all hr) _ (List.getElem_mem hl)) with h | h <;> rw [h] <;> simp
theorem andTo_bit {ss : List ByteArray} (ha : alike ss = true) (i : Nat) (hi : i < (at_ ss 0).size) (k : Nat) (hk : k < ss.length) : (andTo ss k)[i]? = some (bitTo ss i (k + 1)) := by
  induction k with
  | zero =>
    rw [andTo_zero]
    rcases row_okc (alike_row ha 0 hk).1 hi with h | h
    · rw [h, bitTo_hit hk h]
    · rw [h, bitTo_miss hk (by rw [h]; decide), bitTo_zero]
  | succ k ih =>
    have hrow := alike_row ha (k + 1) hk
    have hlen := andTo_length ha k (by omega)
    rw [andTo_succ hk]
    unfold pull
    rw [List.getElem?_zipWith, ih (by omega)]
    rcases row_okc hrow.1 (show i < _ by rw [hrow.2]; exact hi) with h | h
    · rw [h, bitTo_hit hk h]; rfl
    · rw [h, bitTo_miss hk (by rw [h]; decide)]
      simp only [low]
      rfl
theorem andL_bit {ss : List ByteArray} (ha : alike ss = true) (i : Nat) (hi : i < (at_ ss 0).size) : (andL ss)[i]? = some (bitTo ss i ss.length) := by
  have hp := alike_pos ha
  have := andTo_bit ha i hi (ss.length - 1) (by omega)
  rwa [show ss.length - 1 + 1 = ss.length from by omega] at this
theorem andL_length {ss : List ByteArray} (ha : alike ss = true) : (andL ss).length = (at_ ss 0).size := by
  have hp := alike_pos ha
  exact andTo_length ha _ (by omega)
/-- the bits so far, and one more -/
def andB (ss : List ByteArray) (i : Nat) : ByteArray := ⟨((andL ss).take i).toArray⟩
theorem andB_zero (ss : List ByteArray) : andB ss 0 = ⟨#[]⟩ := by simp [andB]
theorem andB_succ {ss : List ByteArray} (ha : alike ss = true) (i : Nat) (hi : i < (at_ ss 0).size) : andB ss i ++ ⟨#[bitTo ss i ss.length]⟩ = andB ss (i + 1) := by
  apply ByteArray.ext; apply Array.ext'
  rw [ByteArray.data_append, Array.toList_append]
  show (andL ss).take i ++ [bitTo ss i ss.length] = (andL ss).take (i + 1)
  have hl : i < (andL ss).length := by rw [andL_length ha]; exact hi
  have hb := andL_bit ha i hi
  rw [List.getElem?_eq_getElem hl] at hb
  rw [List.take_succ_eq_append_getElem hl, Option.some.inj hb]
theorem andB_full {ss : List ByteArray} (ha : alike ss = true) : andB ss (at_ ss 0).size = ⟨(andL ss).toArray⟩ := by
  unfold andB; rw [List.take_of_length_le (by rw [andL_length ha]; omega)]
theorem andB_size (ss : List ByteArray) (i : Nat) : (andB ss i).size ≤ i := by
  show ((andL ss).take i).length ≤ i; rw [List.length_take]; omega

/-- a bit turned by cutting -/
def turnB (s : ByteArray) (i : Nat) : ByteArray := ⟨(s.data.toList.modify i turn).toArray⟩
theorem turnB_eq {s : ByteArray} {i : Nat} (h : i < s.size) (c : UInt8) (hc : turn s[i] = c) : s.extract 0 i ++ ⟨#[c]⟩ ++ s.extract (i + 1) s.size = turnB s i := by
  apply ByteArray.ext; apply Array.ext'
  rw [ByteArray.data_append, Array.toList_append, ByteArray.data_append, Array.toList_append]
  have hl : i < s.data.toList.length := by rw [size_len]; exact h
  have e1 : (s.extract 0 i).data.toList = s.data.toList.take i := by rw [Lib.extract_data]; simp
  have e2 : (s.extract (i + 1) s.size).data.toList = s.data.toList.drop (i + 1) := by
    rw [Lib.extract_data, List.take_of_length_le (by rw [List.length_drop, size_len]; omega)]
  rw [e1, e2]
  show s.data.toList.take i ++ [c] ++ s.data.toList.drop (i + 1) = s.data.toList.modify i turn
  rw [List.modify_eq_take_cons_drop hl, ← hc]
  simp
  rfl

/-- the runs as the reference finds them -/
def preR (s : ByteArray) (k : Nat) (out : List (UInt8 × Nat)) (n : Nat) : Prop := (∀ h : k < s.size, runsTo s (k + 1) = out ++ [(s[k], n + 1)]) ∧ (k = s.size → out = runsTo s k)
theorem preR_zero (s : ByteArray) : preR s 0 [] 0 := by
  refine ⟨fun h => ?_, fun _ => (runsTo_zero s).symm⟩
  rw [runsTo_new s 0 h (.inl rfl), runsTo_zero]
theorem preR_end {s : ByteArray} {k n : Nat} {out : List (UInt8 × Nat)} (hk : k < s.size) (h : preR s k out n) (he : k + 1 = s.size ∨ ∃ h1 : k + 1 < s.size, ¬ s[k + 1].toNat = s[k].toNat) : preR s (k + 1) (out ++ [(s[k], n + 1)]) 0 := by
  rw [← h.1 hk]
  refine ⟨fun h1 => ?_, fun _ => rfl⟩
  rcases he with he | ⟨_, he⟩
  · exact absurd he (by omega)
  · exact runsTo_new s (k + 1) h1 (.inr ⟨by omega, fun e => he e.symm⟩)
theorem preR_more {s : ByteArray} {k n : Nat} {out : List (UInt8 × Nat)} (hk : k < s.size) (h : preR s k out n) (h1 : k + 1 < s.size) (he : s[k + 1].toNat = s[k].toNat) : preR s (k + 1) out (n + 1) := by
  refine ⟨fun _ => ?_, fun e => by omega⟩
  obtain ⟨rs', m, e1, e2⟩ := runsTo_more s (k + 1) h1 (by omega) he.symm
  rw [h.1 hk] at e1
  have := List.append_inj' e1 rfl
  rw [e2, this.1]
  have h2 := this.2
  simp at h2
  rw [← h2.2]

end Go.Proofs.Ytfnofajglbjgjaa.B
