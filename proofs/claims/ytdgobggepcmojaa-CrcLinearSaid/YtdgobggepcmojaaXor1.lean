/- Plain facts on two rows, one turned where the other one has a 1. No Go, no program. -/
import Derived.Test.YtdgobggepcmojaaZeros1
namespace Go.Proofs.Ytdgobggepcmojaa.B
open Go.RowKit

def xc (c d : UInt8) : UInt8 := if c.toNat = d.toNat then 48 else 49
def xl (s t : ByteArray) : List UInt8 := List.zipWith xc s.data.toList t.data.toList
/-- the first k bits -/
def xk (s t : ByteArray) (k : Nat) : ByteArray := ⟨((xl s t).take k).toArray⟩
def xorS (s t : ByteArray) : ByteArray := ⟨(xl s t).toArray⟩
theorem xk_list (s t : ByteArray) (k : Nat) : (xk s t k).data.toList = (xl s t).take k := rfl
theorem xk_zero (s t : ByteArray) : xk s t 0 = ⟨#[]⟩ := rfl
theorem xl_length {s t : ByteArray} (h : s.size = t.size) : (xl s t).length = s.size := by
  unfold xl; rw [List.length_zipWith, size_len, size_len]; omega
theorem xk_size {s t : ByteArray} (h : s.size = t.size) {k : Nat} (hk : k ≤ s.size) : (xk s t k).size = k := by
  rw [← size_len, xk_list, List.length_take, xl_length h]; omega
theorem xk_succ {s t : ByteArray} (h : s.size = t.size) {k : Nat} (hk : k < s.size) (hk2 : k < t.size) (c : UInt8) (hc : xc s[k] t[k] = c) : xk s t k ++ ⟨#[c]⟩ = xk s t (k + 1) := by
  apply ByteArray.ext; apply Array.ext'
  rw [ByteArray.data_append, Array.toList_append, xk_list, xk_list]
  have hl : k < (xl s t).length := by rw [xl_length h]; exact hk
  rw [← List.take_append_getElem hl]
  congr 1
  rw [← hc]
  simp [xl]
  rfl
theorem xk_full {s t : ByteArray} (h : s.size = t.size) : xk s t s.size = xorS s t := by
  unfold xk xorS
  rw [List.take_of_length_le (by rw [xl_length h]; exact Nat.le_refl _)]
theorem xorS_size {s t : ByteArray} (h : s.size = t.size) : (xorS s t).size = s.size := by
  rw [← size_len]; show (xl s t).length = _; exact xl_length h
theorem okc_xc (c d : UInt8) : okc (xc c d) = true := by unfold xc; split <;> rfl
theorem xorS_right {s t : ByteArray} (h : s.size = t.size) (h4 : s.size ≤ 4000) : right (xorS s t) = true := by
  unfold right
  rw [xorS_size h]
  have : (xorS s t).data.toList.all okc = true := by
    show (xl s t).all okc = true
    rw [List.all_eq_true]
    intro x hx
    unfold xl at hx
    obtain ⟨i, hi, rfl⟩ := List.getElem_of_mem hx
    rw [List.getElem_zipWith]
    exact okc_xc _ _
  rw [this]; simp [h4]
theorem one_xc {c d : UInt8} (hc : okc c = true) (hd : okc d = true) : one (xc c d) = (one c != one d) := by
  rw [one_dec, one_dec, one_dec]
  unfold xc
  rcases (okc_iff c).1 hc with e | e <;> rcases (okc_iff d).1 hd with f | f <;> simp [e, f]
theorem xor_map {a b : List UInt8} (ha : a.all okc = true) (hb : b.all okc = true) : (List.zipWith xc a b).map one = xorB (a.map one) (b.map one) := by
  induction a generalizing b with
  | nil => rfl
  | cons x a ih =>
    cases b with
    | nil => rfl
    | cons y b =>
      simp only [List.all_cons, Bool.and_eq_true] at ha hb
      simp only [List.zipWith_cons_cons, List.map_cons, xorB]
      rw [one_xc ha.1 hb.1, ih ha.2 hb.2]
      rfl
/-- the sum of the one turned by the other is so turned -/
theorem sum_xorS {s t : ByteArray} (h : s.size = t.size) (hs : right s = true) (ht : right t = true) : sum (xorS s t) = sum s ^^^ sum t := by
  unfold sum crc
  show sumB 0 ((xl s t).map one) = _
  unfold xl
  rw [xor_map (right_all hs) (right_all ht)]
  have := sumB_xor 0 0 (s.data.toList.map one) (t.data.toList.map one) (by rw [List.length_map, List.length_map, size_len, size_len, h])
  rwa [Nat.xor_self] at this
theorem sum_xor_u32 {s t : ByteArray} (h : s.size = t.size) (hs : right s = true) (ht : right t = true) : bits BinOp.xor IntKind.u32 ((sum s : Nat) : Int) ((sum t : Nat) : Int) = ((sum (xorS s t) : Nat) : Int) := by
  have h1 := sum_lt s
  have h2 := sum_lt t
  rw [xor_u32 _ _ (by omega) (by omega), sum_xorS h hs ht]
end Go.Proofs.Ytdgobggepcmojaa.B
