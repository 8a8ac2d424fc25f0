/- The walk of layer 2's law CrcZeros. -/
import Derived.Test.YtdgobggepcmojaaLaw02
import Derived.Test.YtdgobggepcmojaaRefRight
import Derived.Test.YtdgobggepcmojaaZeros1
namespace Go.Proofs.Ytdgobggepcmojaa
open Go.RowKit Go.Lib

/-- the contracts for a row of dominant bits -/
theorem crcof_zs (k : Nat) (w : World) (h : k ≤ 100) : Calls Try.prog 8 #[.string (B.zs k)] w fun e w' => e = .returned (.tuple #[.int .u32 0, .int .i64 0]) ∧ Below w.heap.size w w' := by
  have := crcof_yes (B.zs k) w (B.zs_right (by omega))
  rwa [B.sum_zs] at this
theorem check_zs (k : Nat) (w : World) (h : k ≤ 100) : Calls Try.prog 13 #[.string (B.zs k)] w fun e w' => e = .returned (.bool (decide ((15 : Int) ≤ ((B.zs k).size : Int)))) ∧ Below w.heap.size w w' := by
  have := check_any (B.zs k) w (by rw [B.zs_size]; unfold maxLen; omega)
  rwa [B.check_zs (by omega), show decide (15 ≤ k) = decide ((15 : Int) ≤ ((B.zs k).size : Int)) from by rw [decide_eq_decide, B.zs_size]; omega] at this

set_option maxHeartbeats 2000000 in
theorem zeros_no_low (s t : ByteArray) (z : Int) (w : World) (htz : t.size ≤ 300) (ht : (300 < s.size ∧ s.extract 0 300 = t) ∨ (s.size ≤ 300 ∧ t = s)) (hr : B.right t = false) (h0 : z < 0) :
    Calls Try.prog 7 #[.string s, .int .i64 z] w fun e w' => e = .returned (.bool true) ∧ Below w.heap.size w w' := by
  have hB : Below w.heap.size w w := Below.refl _ _
  have CZ := Lib.hid (fun w => crcof_zs 0 w (by omega))
  have CK := Lib.hid (fun w => check_zs 0 w (by omega))
  have CF := Lib.hid (fun w => frame_no t w (by unfold maxLen; omega) (.inl hr))
  have htm : t.size ≤ maxLen := by unfold maxLen; omega
  rcases ht with ⟨h1, ht⟩ | ⟨h1, rfl⟩
  all_goals
    go_enter Try.func7, Try.ntmps7
    go_wp2_with fail
    go_loopw [5, 20] (fun v i wr => ∃ k : Nat, k ≤ 0 ∧ i = .int .i64 k ∧ v = .string (B.zs k) ∧ Below w.heap.size w wr) (fun _ i _ => 0 - (intOf i).toNat)
    case atStart => exact ⟨0, Nat.zero_le _, rfl, rfl, hB⟩
    case round =>
      clear hB
      obtain ⟨k, hk, rfl, rfl, hB⟩ := hrel
      by_cases hlt : k < 0
      · exact absurd hlt (Nat.not_lt_zero _)
      · have hkm : 0 = k := by omega
        subst hkm
        have hz : (B.zs 0).size ≤ 100 := by rw [B.zs_size]; omega
        go_wp2_with (first | (go_at_call 8; (with_reducible refine (CZ.out _).mono ?_); rintro e w' ⟨rfl, hb⟩; replace hB := hB.trans (hb.mono hB.size)) | (go_at_call 9; (with_reducible refine (CF.out _).mono ?_); rintro e w' ⟨rfl, rfl⟩) | (go_at_call 13; (with_reducible refine (CK.out _).mono ?_); rintro e w' ⟨rfl, hb⟩; replace hB := hB.trans (hb.mono hB.size)) | (go_at_call 10; (with_reducible refine (refright_any _ _ htm).mono ?_); rintro e w' ⟨rfl, rfl⟩) | (go_at_call 15; (with_reducible refine (alive_any _).mono ?_); rintro e w' ⟨rfl, hb⟩; replace hB := hB.trans (hb.mono hB.size)))
        go_ret
        exact ⟨rfl, hB⟩

set_option maxHeartbeats 2000000 in
theorem zeros_no_high (s t : ByteArray) (z : Int) (w : World) (htz : t.size ≤ 300) (ht : (300 < s.size ∧ s.extract 0 300 = t) ∨ (s.size ≤ 300 ∧ t = s)) (hr : B.right t = false) (h0 : 100 < z) :
    Calls Try.prog 7 #[.string s, .int .i64 z] w fun e w' => e = .returned (.bool true) ∧ Below w.heap.size w w' := by
  have hB : Below w.heap.size w w := Below.refl _ _
  have CZ := Lib.hid (fun w => crcof_zs 100 w (by omega))
  have CK := Lib.hid (fun w => check_zs 100 w (by omega))
  have CF := Lib.hid (fun w => frame_no t w (by unfold maxLen; omega) (.inl hr))
  have htm : t.size ≤ maxLen := by unfold maxLen; omega
  rcases ht with ⟨h1, ht⟩ | ⟨h1, rfl⟩
  all_goals
    go_enter Try.func7, Try.ntmps7
    go_wp2_with fail
    go_loopw [5, 20] (fun v i wr => ∃ k : Nat, k ≤ 100 ∧ i = .int .i64 k ∧ v = .string (B.zs k) ∧ Below w.heap.size w wr) (fun _ i _ => 100 - (intOf i).toNat)
    case atStart => exact ⟨0, Nat.zero_le _, rfl, rfl, hB⟩
    case round =>
      clear hB
      obtain ⟨k, hk, rfl, rfl, hB⟩ := hrel
      by_cases hlt : k < 100
      · have hz := B.zs_size k
        have hs := Lib.hid (B.zs_succ k)
        go_wp2
        go_roundw
        case rel => exact ⟨k + 1, by omega, by go_num, val_str hs.out, hB⟩
        case measure => simp [intOf]; omega
      · have hkm : 100 = k := by omega
        subst hkm
        have hz : (B.zs 100).size ≤ 100 := by rw [B.zs_size]; omega
        go_wp2_with (first | (go_at_call 8; (with_reducible refine (CZ.out _).mono ?_); rintro e w' ⟨rfl, hb⟩; replace hB := hB.trans (hb.mono hB.size)) | (go_at_call 9; (with_reducible refine (CF.out _).mono ?_); rintro e w' ⟨rfl, rfl⟩) | (go_at_call 13; (with_reducible refine (CK.out _).mono ?_); rintro e w' ⟨rfl, hb⟩; replace hB := hB.trans (hb.mono hB.size)) | (go_at_call 10; (with_reducible refine (refright_any _ _ htm).mono ?_); rintro e w' ⟨rfl, rfl⟩) | (go_at_call 15; (with_reducible refine (alive_any _).mono ?_); rintro e w' ⟨rfl, hb⟩; replace hB := hB.trans (hb.mono hB.size)))
        go_ret
        exact ⟨rfl, hB⟩

set_option maxHeartbeats 2000000 in
theorem zeros_no_mid (s t : ByteArray) (m : Nat) (w : World) (htz : t.size ≤ 300) (ht : (300 < s.size ∧ s.extract 0 300 = t) ∨ (s.size ≤ 300 ∧ t = s)) (hr : B.right t = false) (h0 : m ≤ 100) :
    Calls Try.prog 7 #[.string s, .int .i64 m] w fun e w' => e = .returned (.bool true) ∧ Below w.heap.size w w' := by
  have hB : Below w.heap.size w w := Below.refl _ _
  have CZ := Lib.hid (fun w => crcof_zs m w (by omega))
  have CK := Lib.hid (fun w => check_zs m w (by omega))
  have CF := Lib.hid (fun w => frame_no t w (by unfold maxLen; omega) (.inl hr))
  have htm : t.size ≤ maxLen := by unfold maxLen; omega
  rcases ht with ⟨h1, ht⟩ | ⟨h1, rfl⟩
  all_goals
    go_enter Try.func7, Try.ntmps7
    go_wp2_with fail
    go_loopw [5, 20] (fun v i wr => ∃ k : Nat, k ≤ m ∧ i = .int .i64 k ∧ v = .string (B.zs k) ∧ Below w.heap.size w wr) (fun _ i _ => m - (intOf i).toNat)
    case atStart => exact ⟨0, Nat.zero_le _, rfl, rfl, hB⟩
    case round =>
      clear hB
      obtain ⟨k, hk, rfl, rfl, hB⟩ := hrel
      by_cases hlt : k < m
      · have hz := B.zs_size k
        have hs := Lib.hid (B.zs_succ k)
        go_wp2
        go_roundw
        case rel => exact ⟨k + 1, by omega, by go_num, val_str hs.out, hB⟩
        case measure => simp [intOf]; omega
      · have hkm : m = k := by omega
        subst hkm
        have hz : (B.zs m).size ≤ 100 := by rw [B.zs_size]; omega
        go_wp2_with (first | (go_at_call 8; (with_reducible refine (CZ.out _).mono ?_); rintro e w' ⟨rfl, hb⟩; replace hB := hB.trans (hb.mono hB.size)) | (go_at_call 9; (with_reducible refine (CF.out _).mono ?_); rintro e w' ⟨rfl, rfl⟩) | (go_at_call 13; (with_reducible refine (CK.out _).mono ?_); rintro e w' ⟨rfl, hb⟩; replace hB := hB.trans (hb.mono hB.size)) | (go_at_call 10; (with_reducible refine (refright_any _ _ htm).mono ?_); rintro e w' ⟨rfl, rfl⟩) | (go_at_call 15; (with_reducible refine (alive_any _).mono ?_); rintro e w' ⟨rfl, hb⟩; replace hB := hB.trans (hb.mono hB.size)))
        go_ret
        exact ⟨rfl, hB⟩

set_option maxHeartbeats 2000000 in
theorem zeros_yes_low (s t : ByteArray) (z : Int) (w : World) (htz : t.size ≤ 300) (ht : (300 < s.size ∧ s.extract 0 300 = t) ∨ (s.size ≤ 300 ∧ t = s)) (hr : B.right t = true) (h0 : z < 0) :
    Calls Try.prog 7 #[.string s, .int .i64 z] w fun e w' => e = .returned (.bool true) ∧ Below w.heap.size w w' := by
  have hB : Below w.heap.size w w := Below.refl _ _
  have CZ := Lib.hid (fun w => crcof_zs 0 w (by omega))
  have CK := Lib.hid (fun w => check_zs 0 w (by omega))
  have hur := B.framed_right hr (by omega)
  have hu0 := B.sum_framed t
  have huc := B.framed_check hr (by omega)
  have huz := B.framed_size t
  have CF0 := fun w => frame_yes t w hr (by omega)
  obtain ⟨u, hu⟩ : ∃ u, u = B.framed t := ⟨_, rfl⟩
  rw [← hu] at hur hu0 huc huz
  simp only [← hu] at CF0
  have CF := Lib.hid CF0
  clear CF0 hu
  have hvc := B.framed_check hur (by omega)
  have hvz := B.framed_size u
  have CG0 := fun w => frame_yes u w hur (by omega)
  rw [B.framed_zero hu0] at hvc hvz
  simp only [B.framed_zero hu0] at CG0
  have CG := Lib.hid CG0
  clear CG0
  have CU : Hid (∀ w, Calls Try.prog 13 #[.string u] w fun e w' => e = .returned (.bool true) ∧ Below w.heap.size w w') := Lib.hid fun w => by
    have := check_any u w (by unfold maxLen; omega)
    rwa [huc] at this
  have CV : Hid (∀ w, Calls Try.prog 13 #[.string (u ++ ⟨#[48, 48, 48, 48, 48, 48, 48, 48, 48, 48, 48, 48, 48, 48, 48]⟩)] w fun e w' => e = .returned (.bool true) ∧ Below w.heap.size w w') := Lib.hid fun w => by
    have := check_any (u ++ ⟨#[48, 48, 48, 48, 48, 48, 48, 48, 48, 48, 48, 48, 48, 48, 48]⟩) w (by unfold maxLen; omega)
    rwa [hvc] at this
  have CW : Hid (∀ w, Calls Try.prog 13 #[.string (B.zs 0 ++ u)] w fun e w' => e = .returned (.bool true) ∧ Below w.heap.size w w') := Lib.hid fun w => by
    have := check_any (B.zs 0 ++ u) w (by rw [ByteArray.size_append, B.zs_size]; unfold maxLen; omega)
    rwa [B.check_zs_cat (k := 0) hur (by omega) hu0 (by omega)] at this
  have huz' : u.size ≤ 315 := by omega
  clear huz hvz huc hvc
  rcases ht with ⟨h1, ht⟩ | ⟨h1, rfl⟩
  all_goals
    go_enter Try.func7, Try.ntmps7
    go_wp2_with fail
    go_loopw [5, 20] (fun v i wr => ∃ k : Nat, k ≤ 0 ∧ i = .int .i64 k ∧ v = .string (B.zs k) ∧ Below w.heap.size w wr) (fun _ i _ => 0 - (intOf i).toNat)
    case atStart => exact ⟨0, Nat.zero_le _, rfl, rfl, hB⟩
    case round =>
      clear hB
      obtain ⟨k, hk, rfl, rfl, hB⟩ := hrel
      by_cases hlt : k < 0
      · exact absurd hlt (Nat.not_lt_zero _)
      · have hkm : 0 = k := by omega
        subst hkm
        have hz : (B.zs 0).size ≤ 100 := by rw [B.zs_size]; omega
        go_wp2_with (first | (go_at_call 8; (with_reducible refine (CZ.out _).mono ?_); rintro e w' ⟨rfl, hb⟩; replace hB := hB.trans (hb.mono hB.size)) | (go_at_call 9; (with_reducible refine (CF.out _).mono ?_); rintro e w' ⟨rfl, hb⟩; replace hB := hB.trans (hb.mono hB.size)) | (go_at_call 9; (with_reducible refine (CG.out _).mono ?_); rintro e w' ⟨rfl, hb⟩; replace hB := hB.trans (hb.mono hB.size)) | (go_at_call 13; (with_reducible refine (CU.out _).mono ?_); rintro e w' ⟨rfl, hb⟩; replace hB := hB.trans (hb.mono hB.size)) | (go_at_call 13; (with_reducible refine (CV.out _).mono ?_); rintro e w' ⟨rfl, hb⟩; replace hB := hB.trans (hb.mono hB.size)) | (go_at_call 13; (with_reducible refine (CW.out _).mono ?_); rintro e w' ⟨rfl, hb⟩; replace hB := hB.trans (hb.mono hB.size)) | (go_at_call 13; (with_reducible refine (CK.out _).mono ?_); rintro e w' ⟨rfl, hb⟩; replace hB := hB.trans (hb.mono hB.size)) | (go_at_call 15; (with_reducible refine (alive_any _).mono ?_); rintro e w' ⟨rfl, hb⟩; replace hB := hB.trans (hb.mono hB.size)))
        go_ret
        exact ⟨rfl, hB⟩

set_option maxHeartbeats 2000000 in
theorem zeros_yes_high (s t : ByteArray) (z : Int) (w : World) (htz : t.size ≤ 300) (ht : (300 < s.size ∧ s.extract 0 300 = t) ∨ (s.size ≤ 300 ∧ t = s)) (hr : B.right t = true) (h0 : 100 < z) :
    Calls Try.prog 7 #[.string s, .int .i64 z] w fun e w' => e = .returned (.bool true) ∧ Below w.heap.size w w' := by
  have hB : Below w.heap.size w w := Below.refl _ _
  have CZ := Lib.hid (fun w => crcof_zs 100 w (by omega))
  have CK := Lib.hid (fun w => check_zs 100 w (by omega))
  have hur := B.framed_right hr (by omega)
  have hu0 := B.sum_framed t
  have huc := B.framed_check hr (by omega)
  have huz := B.framed_size t
  have CF0 := fun w => frame_yes t w hr (by omega)
  obtain ⟨u, hu⟩ : ∃ u, u = B.framed t := ⟨_, rfl⟩
  rw [← hu] at hur hu0 huc huz
  simp only [← hu] at CF0
  have CF := Lib.hid CF0
  clear CF0 hu
  have hvc := B.framed_check hur (by omega)
  have hvz := B.framed_size u
  have CG0 := fun w => frame_yes u w hur (by omega)
  rw [B.framed_zero hu0] at hvc hvz
  simp only [B.framed_zero hu0] at CG0
  have CG := Lib.hid CG0
  clear CG0
  have CU : Hid (∀ w, Calls Try.prog 13 #[.string u] w fun e w' => e = .returned (.bool true) ∧ Below w.heap.size w w') := Lib.hid fun w => by
    have := check_any u w (by unfold maxLen; omega)
    rwa [huc] at this
  have CV : Hid (∀ w, Calls Try.prog 13 #[.string (u ++ ⟨#[48, 48, 48, 48, 48, 48, 48, 48, 48, 48, 48, 48, 48, 48, 48]⟩)] w fun e w' => e = .returned (.bool true) ∧ Below w.heap.size w w') := Lib.hid fun w => by
    have := check_any (u ++ ⟨#[48, 48, 48, 48, 48, 48, 48, 48, 48, 48, 48, 48, 48, 48, 48]⟩) w (by unfold maxLen; omega)
    rwa [hvc] at this
  have CW : Hid (∀ w, Calls Try.prog 13 #[.string (B.zs 100 ++ u)] w fun e w' => e = .returned (.bool true) ∧ Below w.heap.size w w') := Lib.hid fun w => by
    have := check_any (B.zs 100 ++ u) w (by rw [ByteArray.size_append, B.zs_size]; unfold maxLen; omega)
    rwa [B.check_zs_cat (k := 100) hur (by omega) hu0 (by omega)] at this
  have huz' : u.size ≤ 315 := by omega
  clear huz hvz huc hvc
  rcases ht with ⟨h1, ht⟩ | ⟨h1, rfl⟩
  all_goals
    go_enter Try.func7, Try.ntmps7
    go_wp2_with fail
    go_loopw [5, 20] (fun v i wr => ∃ k : Nat, k ≤ 100 ∧ i = .int .i64 k ∧ v = .string (B.zs k) ∧ Below w.heap.size w wr) (fun _ i _ => 100 - (intOf i).toNat)
    case atStart => exact ⟨0, Nat.zero_le _, rfl, rfl, hB⟩
    case round =>
      clear hB
      obtain ⟨k, hk, rfl, rfl, hB⟩ := hrel
      by_cases hlt : k < 100
      · have hz := B.zs_size k
        have hs := Lib.hid (B.zs_succ k)
        go_wp2
        go_roundw
        case rel => exact ⟨k + 1, by omega, by go_num, val_str hs.out, hB⟩
        case measure => simp [intOf]; omega
      · have hkm : 100 = k := by omega
        subst hkm
        have hz : (B.zs 100).size ≤ 100 := by rw [B.zs_size]; omega
        go_wp2_with (first | (go_at_call 8; (with_reducible refine (CZ.out _).mono ?_); rintro e w' ⟨rfl, hb⟩; replace hB := hB.trans (hb.mono hB.size)) | (go_at_call 9; (with_reducible refine (CF.out _).mono ?_); rintro e w' ⟨rfl, hb⟩; replace hB := hB.trans (hb.mono hB.size)) | (go_at_call 9; (with_reducible refine (CG.out _).mono ?_); rintro e w' ⟨rfl, hb⟩; replace hB := hB.trans (hb.mono hB.size)) | (go_at_call 13; (with_reducible refine (CU.out _).mono ?_); rintro e w' ⟨rfl, hb⟩; replace hB := hB.trans (hb.mono hB.size)) | (go_at_call 13; (with_reducible refine (CV.out _).mono ?_); rintro e w' ⟨rfl, hb⟩; replace hB := hB.trans (hb.mono hB.size)) | (go_at_call 13; (with_reducible refine (CW.out _).mono ?_); rintro e w' ⟨rfl, hb⟩; replace hB := hB.trans (hb.mono hB.size)) | (go_at_call 13; (with_reducible refine (CK.out _).mono ?_); rintro e w' ⟨rfl, hb⟩; replace hB := hB.trans (hb.mono hB.size)) | (go_at_call 15; (with_reducible refine (alive_any _).mono ?_); rintro e w' ⟨rfl, hb⟩; replace hB := hB.trans (hb.mono hB.size)))
        go_ret
        exact ⟨rfl, hB⟩

set_option maxHeartbeats 2000000 in
theorem zeros_yes_mid (s t : ByteArray) (m : Nat) (w : World) (htz : t.size ≤ 300) (ht : (300 < s.size ∧ s.extract 0 300 = t) ∨ (s.size ≤ 300 ∧ t = s)) (hr : B.right t = true) (h0 : m ≤ 100) :
    Calls Try.prog 7 #[.string s, .int .i64 m] w fun e w' => e = .returned (.bool true) ∧ Below w.heap.size w w' := by
  have hB : Below w.heap.size w w := Below.refl _ _
  have CZ := Lib.hid (fun w => crcof_zs m w (by omega))
  have CK := Lib.hid (fun w => check_zs m w (by omega))
  have hur := B.framed_right hr (by omega)
  have hu0 := B.sum_framed t
  have huc := B.framed_check hr (by omega)
  have huz := B.framed_size t
  have CF0 := fun w => frame_yes t w hr (by omega)
  obtain ⟨u, hu⟩ : ∃ u, u = B.framed t := ⟨_, rfl⟩
  rw [← hu] at hur hu0 huc huz
  simp only [← hu] at CF0
  have CF := Lib.hid CF0
  clear CF0 hu
  have hvc := B.framed_check hur (by omega)
  have hvz := B.framed_size u
  have CG0 := fun w => frame_yes u w hur (by omega)
  rw [B.framed_zero hu0] at hvc hvz
  simp only [B.framed_zero hu0] at CG0
  have CG := Lib.hid CG0
  clear CG0
  have CU : Hid (∀ w, Calls Try.prog 13 #[.string u] w fun e w' => e = .returned (.bool true) ∧ Below w.heap.size w w') := Lib.hid fun w => by
    have := check_any u w (by unfold maxLen; omega)
    rwa [huc] at this
  have CV : Hid (∀ w, Calls Try.prog 13 #[.string (u ++ ⟨#[48, 48, 48, 48, 48, 48, 48, 48, 48, 48, 48, 48, 48, 48, 48]⟩)] w fun e w' => e = .returned (.bool true) ∧ Below w.heap.size w w') := Lib.hid fun w => by
    have := check_any (u ++ ⟨#[48, 48, 48, 48, 48, 48, 48, 48, 48, 48, 48, 48, 48, 48, 48]⟩) w (by unfold maxLen; omega)
    rwa [hvc] at this
  have CW : Hid (∀ w, Calls Try.prog 13 #[.string (B.zs m ++ u)] w fun e w' => e = .returned (.bool true) ∧ Below w.heap.size w w') := Lib.hid fun w => by
    have := check_any (B.zs m ++ u) w (by rw [ByteArray.size_append, B.zs_size]; unfold maxLen; omega)
    rwa [B.check_zs_cat (k := m) hur (by omega) hu0 (by omega)] at this
  have huz' : u.size ≤ 315 := by omega
  clear huz hvz huc hvc
  rcases ht with ⟨h1, ht⟩ | ⟨h1, rfl⟩
  all_goals
    go_enter Try.func7, Try.ntmps7
    go_wp2_with fail
    go_loopw [5, 20] (fun v i wr => ∃ k : Nat, k ≤ m ∧ i = .int .i64 k ∧ v = .string (B.zs k) ∧ Below w.heap.size w wr) (fun _ i _ => m - (intOf i).toNat)
    case atStart => exact ⟨0, Nat.zero_le _, rfl, rfl, hB⟩
    case round =>
      clear hB
      obtain ⟨k, hk, rfl, rfl, hB⟩ := hrel
      by_cases hlt : k < m
      · have hz := B.zs_size k
        have hs := Lib.hid (B.zs_succ k)
        go_wp2
        go_roundw
        case rel => exact ⟨k + 1, by omega, by go_num, val_str hs.out, hB⟩
        case measure => simp [intOf]; omega
      · have hkm : m = k := by omega
        subst hkm
        have hz : (B.zs m).size ≤ 100 := by rw [B.zs_size]; omega
        go_wp2_with (first | (go_at_call 8; (with_reducible refine (CZ.out _).mono ?_); rintro e w' ⟨rfl, hb⟩; replace hB := hB.trans (hb.mono hB.size)) | (go_at_call 9; (with_reducible refine (CF.out _).mono ?_); rintro e w' ⟨rfl, hb⟩; replace hB := hB.trans (hb.mono hB.size)) | (go_at_call 9; (with_reducible refine (CG.out _).mono ?_); rintro e w' ⟨rfl, hb⟩; replace hB := hB.trans (hb.mono hB.size)) | (go_at_call 13; (with_reducible refine (CU.out _).mono ?_); rintro e w' ⟨rfl, hb⟩; replace hB := hB.trans (hb.mono hB.size)) | (go_at_call 13; (with_reducible refine (CV.out _).mono ?_); rintro e w' ⟨rfl, hb⟩; replace hB := hB.trans (hb.mono hB.size)) | (go_at_call 13; (with_reducible refine (CW.out _).mono ?_); rintro e w' ⟨rfl, hb⟩; replace hB := hB.trans (hb.mono hB.size)) | (go_at_call 13; (with_reducible refine (CK.out _).mono ?_); rintro e w' ⟨rfl, hb⟩; replace hB := hB.trans (hb.mono hB.size)) | (go_at_call 15; (with_reducible refine (alive_any _).mono ?_); rintro e w' ⟨rfl, hb⟩; replace hB := hB.trans (hb.mono hB.size)))
        go_ret
        exact ⟨rfl, hB⟩

theorem zeros_any (s : ByteArray) (z : Int) (w : World) :
    Calls Try.prog 7 #[.string s, .int .i64 z] w fun e w' => e = .returned (.bool true) ∧ Below w.heap.size w w' := by
  obtain ⟨t, htz, ht⟩ := cut_at s 300
  have ht' : (300 < s.size ∧ s.extract 0 300 = t) ∨ (s.size ≤ 300 ∧ t = s) := ht.imp id (fun h => ⟨h.1, h.2.symm⟩)
  by_cases h1 : z < 0
  · cases hr : B.right t
    · exact zeros_no_low s t z w htz ht' hr h1
    · exact zeros_yes_low s t z w htz ht' hr h1
  · by_cases h2 : 100 < z
    · cases hr : B.right t
      · exact zeros_no_high s t z w htz ht' hr h2
      · exact zeros_yes_high s t z w htz ht' hr h2
    · obtain ⟨m, rfl⟩ := Int.eq_ofNat_of_zero_le (show 0 ≤ z by omega)
      cases hr : B.right t
      · exact zeros_no_mid s t m w htz ht' hr (by omega)
      · exact zeros_yes_mid s t m w htz ht' hr (by omega)
end Go.Proofs.Ytdgobggepcmojaa
