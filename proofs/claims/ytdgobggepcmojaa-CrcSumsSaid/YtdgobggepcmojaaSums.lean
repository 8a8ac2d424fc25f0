/- The walk of layer 2's law CrcSums. -/
import Derived.Test.YtdgobggepcmojaaLaw02
import Derived.Test.YtdgobggepcmojaaRefRight
import Derived.Test.YtdgobggepcmojaaRefOf
import Derived.Test.YtdgobggepcmojaaRefCrc
namespace Go.Proofs.Ytdgobggepcmojaa
open Go.RowKit Go.Lib

theorem frame_yes' (s : ByteArray) (w : World) (hr : B.right s = true) (hz : s.size ≤ 3985) :
    Calls Try.prog 9 #[.string s] w fun e w' => e = .returned (.tuple #[.string (s ++ B.ofn (B.sum s) 15), .int .i64 0]) ∧ Below w.heap.size w w' := frame_yes s w hr hz
theorem check_short' (s : ByteArray) (w : World) (h : s.size < 15) : Calls Try.prog 13 #[.string s] w fun e w' => e = .returned (.bool false) ∧ Below w.heap.size w w' := by
  have := check_any s w (by unfold maxLen; omega)
  rwa [B.check_short h] at this
theorem check_bad' (s : ByteArray) (w : World) (h : s.size ≤ 4010) (hr : B.right s = false) : Calls Try.prog 13 #[.string s] w fun e w' => e = .returned (.bool false) ∧ Below w.heap.size w w' := by
  have := check_any s w (by unfold maxLen; omega)
  rwa [B.check_bad hr] at this
theorem check_good' (s : ByteArray) (w : World) (h : 15 ≤ s.size) (hr : B.right s = true) : Calls Try.prog 13 #[.string s] w fun e w' => e = .returned (.bool (((B.sum s : Nat) : Int) == 0)) ∧ Below w.heap.size w w' := by
  have := check_any s w (by have := B.right_size hr; unfold maxLen; omega)
  rwa [← B.check_good h hr] at this
theorem refof_15 (n : Nat) (w : World) (h : n < 32768) : Calls Try.prog 16 #[.int .u64 n, .int .i64 15] w fun e w' => e = .returned (.string (B.ofn n 15)) ∧ w = w' :=
  refof_any n 15 w (by omega) (by omega)

set_option maxRecDepth 100000 in
set_option maxHeartbeats 2000000 in
theorem sums_no (s t : ByteArray) (n c : Nat) (w : World) (hn : n < 4294967296) (htz : t.size ≤ 4010) (ht : (4010 < s.size ∧ s.extract 0 4010 = t) ∨ (s.size ≤ 4010 ∧ t = s)) (hr : B.right t = false) :
    Calls Try.prog 3 #[.string s, .int .u32 n, .int .u8 c] w fun e w' => e = .returned (.bool true) ∧ Below w.heap.size w w' := by
  have hB : Below w.heap.size w w := Below.refl _ _
  have C1 := Lib.hid (fun w => step_any n c w hn)
  have C2 := Lib.hid (fun w => refstep_any n c w)
  have CR := Lib.hid (fun w => refright_any t w (by unfold maxLen; omega))
  have CO := Lib.hid (fun w => crcof_no t w (by unfold maxLen; omega) hr)
  have CF := Lib.hid (fun w => frame_no t w (by unfold maxLen; omega) (.inl hr))
  have CK := Lib.hid (fun w => check_bad' t w htz hr)
  rcases ht with ⟨h1, ht⟩ | ⟨h1, rfl⟩
  all_goals
    go_enter Try.func3, Try.ntmps3
    go_wp2_with (first | (go_at_call 8; (with_reducible refine (CO.out _).mono ?_); rintro e w' ⟨rfl, rfl⟩) | (go_at_call 9; (with_reducible refine (CF.out _).mono ?_); rintro e w' ⟨rfl, rfl⟩) | (go_at_call 13; (with_reducible refine (CK.out _).mono ?_); rintro e w' ⟨rfl, hb⟩; replace hB := hB.trans (hb.mono hB.size)) | (go_at_call 10; (with_reducible refine (CR.out _).mono ?_); rintro e w' ⟨rfl, rfl⟩) | (go_at_call 11; (with_reducible refine (C1.out _).mono ?_); rintro e w' ⟨rfl, rfl⟩) | (go_at_call 12; (with_reducible refine (C2.out _).mono ?_); rintro e w' ⟨rfl, rfl⟩) | (go_at_call 15; (with_reducible refine (alive_any _).mono ?_); rintro e w' ⟨rfl, hb⟩; replace hB := hB.trans (hb.mono hB.size)))
    go_ret
    exact ⟨rfl, hB⟩

set_option maxRecDepth 100000 in
set_option maxHeartbeats 2000000 in
theorem sums_short (s t : ByteArray) (n c : Nat) (w : World) (hn : n < 4294967296) (htz : t.size ≤ 4010) (ht : (4010 < s.size ∧ s.extract 0 4010 = t) ∨ (s.size ≤ 4010 ∧ t = s)) (hr : B.right t = true) (h0 : t.size < 15) :
    Calls Try.prog 3 #[.string s, .int .u32 n, .int .u8 c] w fun e w' => e = .returned (.bool true) ∧ Below w.heap.size w w' := by
  have hB : Below w.heap.size w w := Below.refl _ _
  have C1 := Lib.hid (fun w => step_any n c w hn)
  have C2 := Lib.hid (fun w => refstep_any n c w)
  have CR := Lib.hid (fun w => refright_any t w (by unfold maxLen; omega))
  have hs15 := B.sum_lt t
  have CO := Lib.hid (fun w => crcof_yes t w hr)
  have CD := Lib.hid (fun w => refcrc_any t w hr)
  have CF := Lib.hid (fun w => frame_yes' t w hr (by omega))
  have CP := Lib.hid (fun w => refof_15 (B.sum t) w hs15)
  have hpz := B.ofn_size (B.sum t) 15
  have CK := Lib.hid (fun w => check_short' t w h0)
  rcases ht with ⟨h1, ht⟩ | ⟨h1, rfl⟩
  all_goals
    go_enter Try.func3, Try.ntmps3
    go_wp2_with (first | (go_at_call 8; (with_reducible refine (CO.out _).mono ?_); rintro e w' ⟨rfl, hb⟩; replace hB := hB.trans (hb.mono hB.size)) | (go_at_call 9; (with_reducible refine (CF.out _).mono ?_); rintro e w' ⟨rfl, hb⟩; replace hB := hB.trans (hb.mono hB.size)) | (go_at_call 13; (with_reducible refine (CK.out _).mono ?_); rintro e w' ⟨rfl, hb⟩; replace hB := hB.trans (hb.mono hB.size)) | (go_at_call 14; (with_reducible refine (CD.out _).mono ?_); rintro e w' ⟨rfl, hb⟩; replace hB := hB.trans (hb.mono hB.size)) | (go_at_call 16; (with_reducible refine (CP.out _).mono ?_); rintro e w' ⟨rfl, rfl⟩) | (go_at_call 10; (with_reducible refine (CR.out _).mono ?_); rintro e w' ⟨rfl, rfl⟩) | (go_at_call 11; (with_reducible refine (C1.out _).mono ?_); rintro e w' ⟨rfl, rfl⟩) | (go_at_call 12; (with_reducible refine (C2.out _).mono ?_); rintro e w' ⟨rfl, rfl⟩) | (go_at_call 15; (with_reducible refine (alive_any _).mono ?_); rintro e w' ⟨rfl, hb⟩; replace hB := hB.trans (hb.mono hB.size)))
    go_ret
    exact ⟨rfl, hB⟩

set_option maxRecDepth 100000 in
set_option maxHeartbeats 2000000 in
theorem sums_mid (s t : ByteArray) (n c : Nat) (w : World) (hn : n < 4294967296) (htz : t.size ≤ 4010) (ht : (4010 < s.size ∧ s.extract 0 4010 = t) ∨ (s.size ≤ 4010 ∧ t = s)) (hr : B.right t = true) (h0 : 15 ≤ t.size) (h9 : t.size ≤ 3985) :
    Calls Try.prog 3 #[.string s, .int .u32 n, .int .u8 c] w fun e w' => e = .returned (.bool true) ∧ Below w.heap.size w w' := by
  have hB : Below w.heap.size w w := Below.refl _ _
  have C1 := Lib.hid (fun w => step_any n c w hn)
  have C2 := Lib.hid (fun w => refstep_any n c w)
  have CR := Lib.hid (fun w => refright_any t w (by unfold maxLen; omega))
  have hs15 := B.sum_lt t
  have CO := Lib.hid (fun w => crcof_yes t w hr)
  have CD := Lib.hid (fun w => refcrc_any t w hr)
  have CF := Lib.hid (fun w => frame_yes' t w hr (by omega))
  have CP := Lib.hid (fun w => refof_15 (B.sum t) w hs15)
  have hpz := B.ofn_size (B.sum t) 15
  have CK := Lib.hid (fun w => check_good' t w h0 hr)
  rcases ht with ⟨h1, ht⟩ | ⟨h1, rfl⟩
  all_goals
    go_enter Try.func3, Try.ntmps3
    go_wp2_with (first | (go_at_call 8; (with_reducible refine (CO.out _).mono ?_); rintro e w' ⟨rfl, hb⟩; replace hB := hB.trans (hb.mono hB.size)) | (go_at_call 9; (with_reducible refine (CF.out _).mono ?_); rintro e w' ⟨rfl, hb⟩; replace hB := hB.trans (hb.mono hB.size)) | (go_at_call 13; (with_reducible refine (CK.out _).mono ?_); rintro e w' ⟨rfl, hb⟩; replace hB := hB.trans (hb.mono hB.size)) | (go_at_call 14; (with_reducible refine (CD.out _).mono ?_); rintro e w' ⟨rfl, hb⟩; replace hB := hB.trans (hb.mono hB.size)) | (go_at_call 16; (with_reducible refine (CP.out _).mono ?_); rintro e w' ⟨rfl, rfl⟩) | (go_at_call 10; (with_reducible refine (CR.out _).mono ?_); rintro e w' ⟨rfl, rfl⟩) | (go_at_call 11; (with_reducible refine (C1.out _).mono ?_); rintro e w' ⟨rfl, rfl⟩) | (go_at_call 12; (with_reducible refine (C2.out _).mono ?_); rintro e w' ⟨rfl, rfl⟩) | (go_at_call 15; (with_reducible refine (alive_any _).mono ?_); rintro e w' ⟨rfl, hb⟩; replace hB := hB.trans (hb.mono hB.size)))
    go_ret
    exact ⟨rfl, hB⟩

set_option maxRecDepth 100000 in
set_option maxHeartbeats 2000000 in
theorem sums_long (s t : ByteArray) (n c : Nat) (w : World) (hn : n < 4294967296) (htz : t.size ≤ 4010) (ht : (4010 < s.size ∧ s.extract 0 4010 = t) ∨ (s.size ≤ 4010 ∧ t = s)) (hr : B.right t = true) (h9 : 3985 < t.size) :
    Calls Try.prog 3 #[.string s, .int .u32 n, .int .u8 c] w fun e w' => e = .returned (.bool true) ∧ Below w.heap.size w w' := by
  have hB : Below w.heap.size w w := Below.refl _ _
  have C1 := Lib.hid (fun w => step_any n c w hn)
  have C2 := Lib.hid (fun w => refstep_any n c w)
  have CR := Lib.hid (fun w => refright_any t w (by unfold maxLen; omega))
  have hs15 := B.sum_lt t
  have CO := Lib.hid (fun w => crcof_yes t w hr)
  have CD := Lib.hid (fun w => refcrc_any t w hr)
  have CF := Lib.hid (fun w => frame_no t w (by unfold maxLen; omega) (.inr h9))
  have CK := Lib.hid (fun w => check_good' t w (by omega) hr)
  rcases ht with ⟨h1, ht⟩ | ⟨h1, rfl⟩
  all_goals
    go_enter Try.func3, Try.ntmps3
    go_wp2_with (first | (go_at_call 8; (with_reducible refine (CO.out _).mono ?_); rintro e w' ⟨rfl, hb⟩; replace hB := hB.trans (hb.mono hB.size)) | (go_at_call 9; (with_reducible refine (CF.out _).mono ?_); rintro e w' ⟨rfl, rfl⟩) | (go_at_call 13; (with_reducible refine (CK.out _).mono ?_); rintro e w' ⟨rfl, hb⟩; replace hB := hB.trans (hb.mono hB.size)) | (go_at_call 14; (with_reducible refine (CD.out _).mono ?_); rintro e w' ⟨rfl, hb⟩; replace hB := hB.trans (hb.mono hB.size)) | (go_at_call 10; (with_reducible refine (CR.out _).mono ?_); rintro e w' ⟨rfl, rfl⟩) | (go_at_call 11; (with_reducible refine (C1.out _).mono ?_); rintro e w' ⟨rfl, rfl⟩) | (go_at_call 12; (with_reducible refine (C2.out _).mono ?_); rintro e w' ⟨rfl, rfl⟩) | (go_at_call 15; (with_reducible refine (alive_any _).mono ?_); rintro e w' ⟨rfl, hb⟩; replace hB := hB.trans (hb.mono hB.size)))
    go_ret
    exact ⟨rfl, hB⟩

theorem sums_any (s : ByteArray) (n c : Nat) (w : World) (hn : n < 4294967296) :
    Calls Try.prog 3 #[.string s, .int .u32 n, .int .u8 c] w fun e w' => e = .returned (.bool true) ∧ Below w.heap.size w w' := by
  obtain ⟨t, htz, ht⟩ := cut_at s 4010
  have ht' : (4010 < s.size ∧ s.extract 0 4010 = t) ∨ (s.size ≤ 4010 ∧ t = s) := ht.imp id (fun h => ⟨h.1, h.2.symm⟩)
  cases hr : B.right t
  · exact sums_no s t n c w hn htz ht' hr
  · by_cases h1 : t.size < 15
    · exact sums_short s t n c w hn htz ht' hr h1
    · by_cases h2 : t.size ≤ 3985
      · exact sums_mid s t n c w hn htz ht' hr (by omega) h2
      · exact sums_long s t n c w hn htz ht' hr (by omega)
end Go.Proofs.Ytdgobggepcmojaa
