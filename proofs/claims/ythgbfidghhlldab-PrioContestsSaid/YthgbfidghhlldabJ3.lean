/- Own texts joined: RefNum Ref4c. -/
import Derived.Test.YthgbfidghhlldabTwo
import Derived.Test.YthgbfidghhlldabPlain
/- RefNum -/
namespace Go.Proofs.Ythgbfidghhlldab
open Go.RowKit Go.Lib

theorem B.num_dbl (m : Nat) (hm : m < 2 ^ 63) : IntKind.u64.wrap (2 * (m : Int)) = ((2 * m : Nat) : Int) := by
  have e : (2 * (m : Int)) = ((2 * m : Nat) : Int) := by omega
  rw [e]; exact IntWalk.u64_in _ (by omega)

end Go.Proofs.Ythgbfidghhlldab

/- Ref4c -/
namespace Go.Proofs.Ythgbfidghhlldab
open Go.RowKit Go.Lib

theorem bitAt_of (s : ByteArray) (i : Nat) (h : i < s.size) : B.bitAt s.data.toList i = s[i] := by
  unfold B.bitAt
  rw [List.getD_eq_getElem?_getD, List.getElem?_eq_getElem (by rw [B.size_len]; exact h)]; rfl
theorem cutL_of (s : ByteArray) (a b : Nat) : B.cutL s.data.toList a b = (s.extract a b).data.toList := by
  unfold B.cutL; rw [Lib.extract_data, List.drop_take]
theorem base_of (s : ByteArray) (h : 13 < s.size) : B.baseL s.data.toList = if s[13].toNat = 49 then 39 else 19 := by
  unfold B.baseL
  rw [bitAt_of s 13 h]
  by_cases e : s[13].toNat = 49
  · rw [if_pos e, if_pos (UInt8.toNat_inj.1 e)]
  · rw [if_neg e, if_neg (fun e2 => e (by rw [e2]; rfl))]
theorem right_cut {s : ByteArray} (hr : B.right s = true) (a b : Nat) : B.right (s.extract a b) = true := by
  have h4 := B.right_size hr
  refine right_of_all (by rw [ByteArray.size_extract]; omega) ?_
  rw [Lib.extract_data]
  refine B.all_take ?_ _
  have := B.right_all hr
  rw [List.all_eq_true] at *; intro x hx; exact this x (List.mem_of_mem_drop hx)
theorem right_cat {a b : ByteArray} (ha : B.right a = true) (hb : B.right b = true) (hz : a.size + b.size ≤ 4000) : B.right (a ++ b) = true :=
  right_of_all (by rw [ByteArray.size_append]; exact hz) (by rw [B.cat_list, List.all_append, B.right_all ha, B.right_all hb]; rfl)
theorem size_14 {s : ByteArray} (h : s.size < 14) : B.sizeL s.data.toList = (0, 3) := by
  unfold B.sizeL; rw [if_pos (by rw [B.size_len]; exact h)]
theorem size_base {s : ByteArray} {n : Nat} (h : 13 < s.size) (hb : (if s[13].toNat = 49 then 39 else 19) = n) (hn : s.size < n) : B.sizeL s.data.toList = (0, 3) := by
  unfold B.sizeL; rw [if_neg (by rw [B.size_len]; omega), base_of s h, hb, if_pos (by rw [B.size_len]; exact hn)]
theorem size_dlc {s : ByteArray} {n : Nat} (h : 13 < s.size) (hb : (if s[13].toNat = 49 then 39 else 19) = n) (hn : n ≤ s.size) (hd : 8 < B.num (s.extract (n - 4) n).data.toList) : B.sizeL s.data.toList = (0, 12) := by
  unfold B.sizeL; rw [if_neg (by rw [B.size_len]; omega), base_of s h, hb, if_neg (by rw [B.size_len]; omega), cutL_of, if_pos hd]
theorem size_ok {s : ByteArray} {n : Nat} (h : 13 < s.size) (hb : (if s[13].toNat = 49 then 39 else 19) = n) (hn : n ≤ s.size) (hd : B.num (s.extract (n - 4) n).data.toList ≤ 8) (h7 : n - 7 < s.size) :
    B.sizeL s.data.toList = (n + 8 * (if s[n - 7].toNat = 49 then 0 else B.num (s.extract (n - 4) n).data.toList), 0) := by
  unfold B.sizeL
  rw [if_neg (by rw [B.size_len]; omega), base_of s h, hb, if_neg (by rw [B.size_len]; omega), cutL_of, if_neg (by omega), bitAt_of s _ h7]
  congr 3
  by_cases e : s[n - 7].toNat = 49
  · rw [if_pos e, if_pos (UInt8.toNat_inj.1 e)]
  · rw [if_neg e, if_neg (fun e2 => e (by rw [e2]; rfl))]
theorem ret_two {a b c d : Int} (h : a = c) (k : b = d) : Ending.returned (.tuple #[.int .i64 a, .int .i64 b]) = .returned (.tuple #[.int .i64 c, .int .i64 d]) := by rw [h, k]

end Go.Proofs.Ythgbfidghhlldab
