/- The walk of the reference's Size (layer 4). -/
import Derived.Test.YtdpfmpbnahhjmaaRefNum
import Derived.Test.YtdpfmpbnahhjmaaFrame3
namespace Go.Proofs.Ytdpfmpbnahhjmaa
open Go.RowKit Go.Lib

theorem bitAt_of (s : ByteArray) (i : Nat) (h : i < s.size) : B.bitAt s.data.toList i = s[i] := by
  unfold B.bitAt
  rw [List.getD_eq_getElem?_getD, List.getElem?_eq_getElem (by rw [B.size_len]; exact h)]; rfl
theorem cutL_of (s : ByteArray) (a b : Nat) : B.cutL s.data.toList a b = (s.extract a b).data.toList := by
  unfold B.cutL; rw [Lib.extract_data, List.drop_take]
theorem base_of (s : ByteArray) (h : 13 < s.size) : B.baseL s.data.toList = if s[13].toNat = 49 then 39 else 19 := by
  unfold B.baseL
  rw [bitAt_of s 13 h]
  by_cases e : s[13].toNat = 49
  · rw [if_pos e, if_pos (UInt8.toNat_inj.1 e)]
  · rw [if_neg e, if_neg (fun e2 => e (by rw [e2]; rfl))]
theorem right_cut {s : ByteArray} (hr : B.right s = true) (a b : Nat) : B.right (s.extract a b) = true := by
  have h4 := B.right_size hr
  refine right_of_all (by rw [ByteArray.size_extract]; omega) ?_
  rw [Lib.extract_data]
  refine B.all_take ?_ _
  have := B.right_all hr
  rw [List.all_eq_true] at *; intro x hx; exact this x (List.mem_of_mem_drop hx)
theorem right_cat {a b : ByteArray} (ha : B.right a = true) (hb : B.right b = true) (hz : a.size + b.size ≤ 4000) : B.right (a ++ b) = true :=
  right_of_all (by rw [ByteArray.size_append]; exact hz) (by rw [B.cat_list, List.all_append, B.right_all ha, B.right_all hb]; rfl)
theorem size_14 {s : ByteArray} (h : s.size < 14) : B.sizeL s.data.toList = (0, 3) := by
  unfold B.sizeL; rw [if_pos (by rw [B.size_len]; exact h)]
theorem size_base {s : ByteArray} {n : Nat} (h : 13 < s.size) (hb : (if s[13].toNat = 49 then 39 else 19) = n) (hn : s.size < n) : B.sizeL s.data.toList = (0, 3) := by
  unfold B.sizeL; rw [if_neg (by rw [B.size_len]; omega), base_of s h, hb, if_pos (by rw [B.size_len]; exact hn)]
theorem size_dlc {s : ByteArray} {n : Nat} (h : 13 < s.size) (hb : (if s[13].toNat = 49 then 39 else 19) = n) (hn : n ≤ s.size) (hd : 8 < B.num (s.extract (n - 4) n).data.toList) : B.sizeL s.data.toList = (0, 12) := by
  unfold B.sizeL; rw [if_neg (by rw [B.size_len]; omega), base_of s h, hb, if_neg (by rw [B.size_len]; omega), cutL_of, if_pos hd]
theorem size_ok {s : ByteArray} {n : Nat} (h : 13 < s.size) (hb : (if s[13].toNat = 49 then 39 else 19) = n) (hn : n ≤ s.size) (hd : B.num (s.extract (n - 4) n).data.toList ≤ 8) (h7 : n - 7 < s.size) :
    B.sizeL s.data.toList = (n + 8 * (if s[n - 7].toNat = 49 then 0 else B.num (s.extract (n - 4) n).data.toList), 0) := by
  unfold B.sizeL
  rw [if_neg (by rw [B.size_len]; omega), base_of s h, hb, if_neg (by rw [B.size_len]; omega), cutL_of, if_neg (by omega), bitAt_of s _ h7]
  congr 3
  by_cases e : s[n - 7].toNat = 49
  · rw [if_pos e, if_pos (UInt8.toNat_inj.1 e)]
  · rw [if_neg e, if_neg (fun e2 => e (by rw [e2]; rfl))]
theorem ret_two {a b c d : Int} (h : a = c) (k : b = d) : Ending.returned (.tuple #[.int .i64 a, .int .i64 b]) = .returned (.tuple #[.int .i64 c, .int .i64 d]) := by rw [h, k]

set_option maxHeartbeats 1000000 in
theorem refsize_19 (s : ByteArray) (w : World) (hr : B.right s = true) (h : 13 < s.size) (h13 : ¬ s[13].toNat = 49) :
    Calls Try.prog 21 #[.string s] w fun e w' => e = .returned (.tuple #[.int .i64 (B.sizeL s.data.toList).1, .int .i64 (B.sizeL s.data.toList).2]) ∧ w = w' := by
  have h4 := B.right_size hr
  have hb : (if s[13].toNat = 49 then 39 else 19) = 19 := by rw [if_neg h13]
  have h13' : ((s[13].toNat : Int) == 49) = false := by simp; omega
  have h14 : ¬ (s.size : Int) < 14 := by omega
  by_cases hn : s.size < 19
  · have hz := Lib.hid (size_base h hb hn)
    have hn' : (s.size : Int) < 19 := by omega
    clear hb hn
    go_enter Try.func21, Try.ntmps21
    go_wp2
    go_ret2
    exact ⟨ret_two (by rw [hz.out]; rfl) (by rw [hz.out]; rfl), rfl⟩
  · have hn' : ¬ (s.size : Int) < 19 := by omega
    have hn2 : (19 : Int) ≤ s.size := by omega
    have CN := Lib.hid (fun w => refnum_any (s.extract 15 19) w (by rw [ByteArray.size_extract]; omega) (right_cut hr 15 19))
    have hnl := B.num_lt _ (B.right_all (right_cut hr 15 19))
    have hl4 : (s.extract 15 19).data.toList.length = 4 := by rw [B.size_len, ByteArray.size_extract]; omega
    rw [hl4] at hnl
    have HD := fun hd => size_dlc (n := 19) h hb (by omega) hd
    have HK := fun hd => size_ok (n := 19) h hb (by omega) hd (by omega)
    simp only [show 19 - 4 = 15 from rfl, show 19 - 7 = 12 from rfl] at HD HK
    obtain ⟨d, hd⟩ : ∃ d, d = B.num (s.extract 15 19).data.toList := ⟨_, rfl⟩
    rw [← hd] at CN hnl HD HK
    clear hd hb hl4
    by_cases h8 : 8 < d
    · have hz := Lib.hid (HD h8)
      have h8' : (8 : Int) < d := by omega
      clear HD HK
      go_enter Try.func21, Try.ntmps21
      go_wp2_with (go_at_call 26; (with_reducible refine (CN.out _).mono ?_); rintro e w' ⟨rfl, rfl⟩)
      go_ret2
      exact ⟨ret_two (by rw [hz.out]; rfl) (by rw [hz.out]; rfl), rfl⟩
    · have hz := HK (by omega)
      have h8' : ¬ (8 : Int) < d := by omega
      have h7 : 12 < s.size := by omega
      by_cases hR : s[12].toNat = 49
      · rw [if_pos hR] at hz
        have HZ := Lib.hid hz
        have hR' : ((s[12].toNat : Int) == 49) = true := by simp; omega
        clear HD HK hz
        go_enter Try.func21, Try.ntmps21
        go_wp2_with (go_at_call 26; (with_reducible refine (CN.out _).mono ?_); rintro e w' ⟨rfl, rfl⟩)
        go_ret2
        exact ⟨ret_two (by rw [HZ.out]; omega) (by rw [HZ.out]; rfl), rfl⟩
      · rw [if_neg hR] at hz
        have HZ := Lib.hid hz
        have hR' : ((s[12].toNat : Int) == 49) = false := by simp; omega
        clear HD HK hz
        go_enter Try.func21, Try.ntmps21
        go_wp2_with (go_at_call 26; (with_reducible refine (CN.out _).mono ?_); rintro e w' ⟨rfl, rfl⟩)
        go_ret2
        exact ⟨ret_two (by rw [HZ.out]; simp only; omega) (by rw [HZ.out]; rfl), rfl⟩

set_option maxHeartbeats 1000000 in
theorem refsize_39 (s : ByteArray) (w : World) (hr : B.right s = true) (h : 13 < s.size) (h13 : s[13].toNat = 49) :
    Calls Try.prog 21 #[.string s] w fun e w' => e = .returned (.tuple #[.int .i64 (B.sizeL s.data.toList).1, .int .i64 (B.sizeL s.data.toList).2]) ∧ w = w' := by
  have h4 := B.right_size hr
  have hb : (if s[13].toNat = 49 then 39 else 19) = 39 := by rw [if_pos h13]
  have h13' : ((s[13].toNat : Int) == 49) = true := by simp; omega
  have h14 : ¬ (s.size : Int) < 14 := by omega
  by_cases hn : s.size < 39
  · have hz := Lib.hid (size_base h hb hn)
    have hn' : (s.size : Int) < 39 := by omega
    clear hb hn
    go_enter Try.func21, Try.ntmps21
    go_wp2
    go_ret2
    exact ⟨ret_two (by rw [hz.out]; rfl) (by rw [hz.out]; rfl), rfl⟩
  · have hn' : ¬ (s.size : Int) < 39 := by omega
    have hn2 : (39 : Int) ≤ s.size := by omega
    have CN := Lib.hid (fun w => refnum_any (s.extract 35 39) w (by rw [ByteArray.size_extract]; omega) (right_cut hr 35 39))
    have hnl := B.num_lt _ (B.right_all (right_cut hr 35 39))
    have hl4 : (s.extract 35 39).data.toList.length = 4 := by rw [B.size_len, ByteArray.size_extract]; omega
    rw [hl4] at hnl
    have HD := fun hd => size_dlc (n := 39) h hb (by omega) hd
    have HK := fun hd => size_ok (n := 39) h hb (by omega) hd (by omega)
    simp only [show 39 - 4 = 35 from rfl, show 39 - 7 = 32 from rfl] at HD HK
    obtain ⟨d, hd⟩ : ∃ d, d = B.num (s.extract 35 39).data.toList := ⟨_, rfl⟩
    rw [← hd] at CN hnl HD HK
    clear hd hb hl4
    by_cases h8 : 8 < d
    · have hz := Lib.hid (HD h8)
      have h8' : (8 : Int) < d := by omega
      clear HD HK
      go_enter Try.func21, Try.ntmps21
      go_wp2_with (go_at_call 26; (with_reducible refine (CN.out _).mono ?_); rintro e w' ⟨rfl, rfl⟩)
      go_ret2
      exact ⟨ret_two (by rw [hz.out]; rfl) (by rw [hz.out]; rfl), rfl⟩
    · have hz := HK (by omega)
      have h8' : ¬ (8 : Int) < d := by omega
      have h7 : 32 < s.size := by omega
      by_cases hR : s[32].toNat = 49
      · rw [if_pos hR] at hz
        have HZ := Lib.hid hz
        have hR' : ((s[32].toNat : Int) == 49) = true := by simp; omega
        clear HD HK hz
        go_enter Try.func21, Try.ntmps21
        go_wp2_with (go_at_call 26; (with_reducible refine (CN.out _).mono ?_); rintro e w' ⟨rfl, rfl⟩)
        go_ret2
        exact ⟨ret_two (by rw [HZ.out]; omega) (by rw [HZ.out]; rfl), rfl⟩
      · rw [if_neg hR] at hz
        have HZ := Lib.hid hz
        have hR' : ((s[32].toNat : Int) == 49) = false := by simp; omega
        clear HD HK hz
        go_enter Try.func21, Try.ntmps21
        go_wp2_with (go_at_call 26; (with_reducible refine (CN.out _).mono ?_); rintro e w' ⟨rfl, rfl⟩)
        go_ret2
        exact ⟨ret_two (by rw [HZ.out]; simp only; omega) (by rw [HZ.out]; rfl), rfl⟩

set_option maxHeartbeats 400000 in
theorem refsize_any (s : ByteArray) (w : World) (hr : B.right s = true) :
    Calls Try.prog 21 #[.string s] w fun e w' => e = .returned (.tuple #[.int .i64 (B.sizeL s.data.toList).1, .int .i64 (B.sizeL s.data.toList).2]) ∧ w = w' := by
  by_cases h : 13 < s.size
  · by_cases h13 : s[13].toNat = 49
    · exact refsize_39 s w hr h h13
    · exact refsize_19 s w hr h h13
  · have hz := Lib.hid (size_14 (s := s) (by omega))
    have h14 : (s.size : Int) < 14 := by omega
    clear hr
    go_enter Try.func21, Try.ntmps21
    go_wp2
    go_ret2
    exact ⟨ret_two (by rw [hz.out]; rfl) (by rw [hz.out]; rfl), rfl⟩
end Go.Proofs.Ytdpfmpbnahhjmaa
