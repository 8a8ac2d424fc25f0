/- The walk of layer 2's law CrcSteps. -/
import Derived.Test.YtdgobggepcmojaaLaw02
import Derived.Test.YtdgobggepcmojaaRefRight
import Derived.Lib.Strings
namespace Go.Proofs.Ytdgobggepcmojaa
open Go.RowKit Go.Lib

set_option maxHeartbeats 1000000 in
theorem steps_no (s t : ByteArray) (cut : Int) (w : World) (htz : t.size ≤ 300) (ht : (300 < s.size ∧ s.extract 0 300 = t) ∨ (s.size ≤ 300 ∧ s = t)) (hr : B.right t = false) :
    Calls Try.prog 6 #[.string s, .int .i64 cut] w fun e w' => e = .returned (.bool true) ∧ Below w.heap.size w w' := by
  have hB : Below w.heap.size w w := Below.refl _ _
  rcases ht with ⟨h1, ht⟩ | ⟨h1, rfl⟩
  all_goals
    go_enter Try.func6, Try.ntmps6
    go_wp2_with (first | (go_at_call 10; (with_reducible refine (refright_any _ _ (by unfold maxLen; omega)).mono ?_); rintro e w' ⟨rfl, rfl⟩) | (go_at_call 15; (with_reducible refine (alive_any _).mono ?_); rintro e w' ⟨rfl, hb⟩; replace hB := hB.trans (hb.mono hB.size)))
    go_ret
    exact ⟨rfl, hB⟩

theorem right_take {t : ByteArray} {c : Nat} (hr : B.right t = true) (h : c ≤ t.size) : B.right (t.extract 0 c) = true := by
  have h4 := B.right_size hr
  unfold B.right
  rw [Lib.extract_data, List.drop_zero, Nat.sub_zero, B.all_take (B.right_all hr), ByteArray.size_extract]
  simp; omega

set_option maxHeartbeats 1000000 in
theorem steps_all (s t : ByteArray) (cut : Int) (w : World) (htz : t.size ≤ 300) (ht : (300 < s.size ∧ s.extract 0 300 = t) ∨ (s.size ≤ 300 ∧ t = s)) (hr : B.right t = true) (h0 : (t.size : Int) < cut) :
    Calls Try.prog 6 #[.string s, .int .i64 cut] w fun e w' => e = .returned (.bool true) ∧ Below w.heap.size w w' := by
  have hB : Below w.heap.size w w := Below.refl _ _
  have CX : Hid (∀ w, Calls Try.prog 8 #[.string (t)] w fun e w' => e = .returned (.tuple #[.int .u32 (B.crc 0 (t.data.toList.take t.size)), .int .i64 0]) ∧ Below w.heap.size w w') := Lib.hid (fun w => by
    have := crcof_yes (t) w hr
    rwa [show B.sum (t) = B.crc 0 (t.data.toList.take t.size) from (by unfold B.sum; rw [List.take_of_length_le (by rw [B.size_len]; exact Nat.le_refl _)])] at this)
  have CA : Hid (∀ w, Calls Try.prog 8 #[.string t] w fun e w' => e = .returned (.tuple #[.int .u32 (B.sum t), .int .i64 0]) ∧ Below w.heap.size w w') := Lib.hid (fun w => crcof_yes t w hr)
  rcases ht with ⟨h1, ht⟩ | ⟨h1, rfl⟩
  all_goals
    go_enter Try.func6, Try.ntmps6
    go_wp2_with (first | (go_at_call 8; (with_reducible refine (CX.out _).mono ?_); rintro e w' ⟨rfl, hb⟩; replace hB := hB.trans (hb.mono hB.size)) | (go_at_call 10; (with_reducible refine (refright_any _ _ (by unfold maxLen; omega)).mono ?_); rintro e w' ⟨rfl, rfl⟩))
    go_loopw [5, 7] (fun n i wr => ∃ k : Nat, k ≤ t.size ∧ i = .int .i64 k ∧ n = .int .u32 (B.crc 0 (t.data.toList.take k)) ∧ Below w.heap.size w wr) (fun _ i _ => t.size - (intOf i).toNat)
    case atStart => exact ⟨t.size, Nat.le_refl _, rfl, rfl, hB⟩
    case round =>
      clear hB CX
      obtain ⟨k, hk, rfl, rfl, hB⟩ := hrel
      by_cases hlt : k < t.size
      · have hS := Lib.hid (B.crc_take_succ 0 t k hlt)
        have hO := Lib.hid (B.one_dec t[k])
        have hl := B.crc_lt (t.data.toList.take k)
        obtain ⟨m, hm⟩ : ∃ m, m = B.crc 0 (t.data.toList.take k) := ⟨_, rfl⟩
        rw [← hm] at hl
        rw [← hm]
        have CS : Hid (∀ w, Calls Try.prog 11 #[.int .u32 m, .int .u8 (t[k].toNat : Int)] w fun e w' => e = .returned (.int .u32 (B.stepN m (decide (t[k].toNat = 49)))) ∧ w = w') := Lib.hid (fun w => step_any m t[k].toNat w (by omega))
        have hm' := Lib.hid hm
        clear hm
        go_wp2_with (go_at_call 11; (with_reducible refine (CS.out _).mono ?_); rintro e w' ⟨rfl, rfl⟩)
        go_roundw
        case rel => exact ⟨k + 1, by omega, by go_num, by rw [hS.out, hO.out, ← hm'.out], hB⟩
        case measure => simp [intOf]; omega
      · have hE := Lib.hid (show t.data.toList.take k = t.data.toList from List.take_of_length_le (by rw [B.size_len]; omega))
        rw [hE.out]
        go_wp2_with (first | (go_at_call 8; (with_reducible refine (CA.out _).mono ?_); rintro e w' ⟨rfl, hb⟩; replace hB := hB.trans (hb.mono hB.size)) | (go_at_call 15; (with_reducible refine (alive_any _).mono ?_); rintro e w' ⟨rfl, hb⟩; replace hB := hB.trans (hb.mono hB.size)))
        go_ret
        exact ⟨ret_bool (by simp [B.sum]), hB⟩

set_option maxHeartbeats 1000000 in
theorem steps_none (s t : ByteArray) (cut : Int) (w : World) (htz : t.size ≤ 300) (ht : (300 < s.size ∧ s.extract 0 300 = t) ∨ (s.size ≤ 300 ∧ t = s)) (hr : B.right t = true) (h0 : cut < 0) :
    Calls Try.prog 6 #[.string s, .int .i64 cut] w fun e w' => e = .returned (.bool true) ∧ Below w.heap.size w w' := by
  have hB : Below w.heap.size w w := Below.refl _ _
  have CX : Hid (∀ w, Calls Try.prog 8 #[.string (ByteArray.empty)] w fun e w' => e = .returned (.tuple #[.int .u32 (B.crc 0 (t.data.toList.take 0)), .int .i64 0]) ∧ Below w.heap.size w w') := Lib.hid (fun w => by
    have := crcof_yes (ByteArray.empty) w (by decide)
    rwa [show B.sum (ByteArray.empty) = B.crc 0 (t.data.toList.take 0) from rfl] at this)
  have CA : Hid (∀ w, Calls Try.prog 8 #[.string t] w fun e w' => e = .returned (.tuple #[.int .u32 (B.sum t), .int .i64 0]) ∧ Below w.heap.size w w') := Lib.hid (fun w => crcof_yes t w hr)
  rcases ht with ⟨h1, ht⟩ | ⟨h1, rfl⟩
  all_goals
    go_enter Try.func6, Try.ntmps6
    go_wp2_with (first | (go_at_call 8; (with_reducible refine (CX.out _).mono ?_); rintro e w' ⟨rfl, hb⟩; replace hB := hB.trans (hb.mono hB.size)) | (go_at_call 10; (with_reducible refine (refright_any _ _ (by unfold maxLen; omega)).mono ?_); rintro e w' ⟨rfl, rfl⟩))
    go_loopw [5, 7] (fun n i wr => ∃ k : Nat, k ≤ t.size ∧ i = .int .i64 k ∧ n = .int .u32 (B.crc 0 (t.data.toList.take k)) ∧ Below w.heap.size w wr) (fun _ i _ => t.size - (intOf i).toNat)
    case atStart => exact ⟨0, Nat.zero_le _, rfl, rfl, hB⟩
    case round =>
      clear hB CX
      obtain ⟨k, hk, rfl, rfl, hB⟩ := hrel
      by_cases hlt : k < t.size
      · have hS := Lib.hid (B.crc_take_succ 0 t k hlt)
        have hO := Lib.hid (B.one_dec t[k])
        have hl := B.crc_lt (t.data.toList.take k)
        obtain ⟨m, hm⟩ : ∃ m, m = B.crc 0 (t.data.toList.take k) := ⟨_, rfl⟩
        rw [← hm] at hl
        rw [← hm]
        have CS : Hid (∀ w, Calls Try.prog 11 #[.int .u32 m, .int .u8 (t[k].toNat : Int)] w fun e w' => e = .returned (.int .u32 (B.stepN m (decide (t[k].toNat = 49)))) ∧ w = w') := Lib.hid (fun w => step_any m t[k].toNat w (by omega))
        have hm' := Lib.hid hm
        clear hm
        go_wp2_with (go_at_call 11; (with_reducible refine (CS.out _).mono ?_); rintro e w' ⟨rfl, rfl⟩)
        go_roundw
        case rel => exact ⟨k + 1, by omega, by go_num, by rw [hS.out, hO.out, ← hm'.out], hB⟩
        case measure => simp [intOf]; omega
      · have hE := Lib.hid (show t.data.toList.take k = t.data.toList from List.take_of_length_le (by rw [B.size_len]; omega))
        rw [hE.out]
        go_wp2_with (first | (go_at_call 8; (with_reducible refine (CA.out _).mono ?_); rintro e w' ⟨rfl, hb⟩; replace hB := hB.trans (hb.mono hB.size)) | (go_at_call 15; (with_reducible refine (alive_any _).mono ?_); rintro e w' ⟨rfl, hb⟩; replace hB := hB.trans (hb.mono hB.size)))
        go_ret
        exact ⟨ret_bool (by simp [B.sum]), hB⟩

set_option maxHeartbeats 1000000 in
theorem steps_some (s t : ByteArray) (c : Nat) (w : World) (htz : t.size ≤ 300) (ht : (300 < s.size ∧ s.extract 0 300 = t) ∨ (s.size ≤ 300 ∧ t = s)) (hr : B.right t = true) (h0 : c ≤ t.size) :
    Calls Try.prog 6 #[.string s, .int .i64 c] w fun e w' => e = .returned (.bool true) ∧ Below w.heap.size w w' := by
  have hB : Below w.heap.size w w := Below.refl _ _
  have CX : Hid (∀ w, Calls Try.prog 8 #[.string (t.extract 0 c)] w fun e w' => e = .returned (.tuple #[.int .u32 (B.crc 0 (t.data.toList.take c)), .int .i64 0]) ∧ Below w.heap.size w w') := Lib.hid (fun w => by
    have := crcof_yes (t.extract 0 c) w (right_take hr h0)
    rwa [show B.sum (t.extract 0 c) = B.crc 0 (t.data.toList.take c) from (by unfold B.sum; rw [Lib.extract_data, List.drop_zero, Nat.sub_zero])] at this)
  have CA : Hid (∀ w, Calls Try.prog 8 #[.string t] w fun e w' => e = .returned (.tuple #[.int .u32 (B.sum t), .int .i64 0]) ∧ Below w.heap.size w w') := Lib.hid (fun w => crcof_yes t w hr)
  have h0' : (c : Int) ≤ t.size := by omega
  rcases ht with ⟨h1, ht⟩ | ⟨h1, rfl⟩
  all_goals
    go_enter Try.func6, Try.ntmps6
    go_wp2_with (first | (go_at_call 8; (with_reducible refine (CX.out _).mono ?_); rintro e w' ⟨rfl, hb⟩; replace hB := hB.trans (hb.mono hB.size)) | (go_at_call 10; (with_reducible refine (refright_any _ _ (by unfold maxLen; omega)).mono ?_); rintro e w' ⟨rfl, rfl⟩))
    go_loopw [5, 7] (fun n i wr => ∃ k : Nat, k ≤ t.size ∧ i = .int .i64 k ∧ n = .int .u32 (B.crc 0 (t.data.toList.take k)) ∧ Below w.heap.size w wr) (fun _ i _ => t.size - (intOf i).toNat)
    case atStart => exact ⟨c, h0, rfl, rfl, hB⟩
    case round =>
      clear hB CX
      obtain ⟨k, hk, rfl, rfl, hB⟩ := hrel
      by_cases hlt : k < t.size
      · have hS := Lib.hid (B.crc_take_succ 0 t k hlt)
        have hO := Lib.hid (B.one_dec t[k])
        have hl := B.crc_lt (t.data.toList.take k)
        obtain ⟨m, hm⟩ : ∃ m, m = B.crc 0 (t.data.toList.take k) := ⟨_, rfl⟩
        rw [← hm] at hl
        rw [← hm]
        have CS : Hid (∀ w, Calls Try.prog 11 #[.int .u32 m, .int .u8 (t[k].toNat : Int)] w fun e w' => e = .returned (.int .u32 (B.stepN m (decide (t[k].toNat = 49)))) ∧ w = w') := Lib.hid (fun w => step_any m t[k].toNat w (by omega))
        have hm' := Lib.hid hm
        clear hm
        go_wp2_with (go_at_call 11; (with_reducible refine (CS.out _).mono ?_); rintro e w' ⟨rfl, rfl⟩)
        go_roundw
        case rel => exact ⟨k + 1, by omega, by go_num, by rw [hS.out, hO.out, ← hm'.out], hB⟩
        case measure => simp [intOf]; omega
      · have hE := Lib.hid (show t.data.toList.take k = t.data.toList from List.take_of_length_le (by rw [B.size_len]; omega))
        rw [hE.out]
        go_wp2_with (first | (go_at_call 8; (with_reducible refine (CA.out _).mono ?_); rintro e w' ⟨rfl, hb⟩; replace hB := hB.trans (hb.mono hB.size)) | (go_at_call 15; (with_reducible refine (alive_any _).mono ?_); rintro e w' ⟨rfl, hb⟩; replace hB := hB.trans (hb.mono hB.size)))
        go_ret
        exact ⟨ret_bool (by simp [B.sum]), hB⟩

theorem steps_any (s : ByteArray) (cut : Int) (w : World) :
    Calls Try.prog 6 #[.string s, .int .i64 cut] w fun e w' => e = .returned (.bool true) ∧ Below w.heap.size w w' := by
  obtain ⟨t, htz, ht⟩ := cut_at s 300
  cases hr : B.right t
  · exact steps_no s t cut w htz ht hr
  · have ht' : (300 < s.size ∧ s.extract 0 300 = t) ∨ (s.size ≤ 300 ∧ t = s) := ht.imp id (fun h => ⟨h.1, h.2.symm⟩)
    by_cases h1 : cut < 0
    · exact steps_none s t cut w htz ht' hr h1
    · by_cases h2 : (t.size : Int) < cut
      · exact steps_all s t cut w htz ht' hr h2
      · obtain ⟨c, rfl⟩ := Int.eq_ofNat_of_zero_le (show 0 ≤ cut by omega)
        exact steps_some s t c w htz ht' hr (by omega)
end Go.Proofs.Ytdgobggepcmojaa
