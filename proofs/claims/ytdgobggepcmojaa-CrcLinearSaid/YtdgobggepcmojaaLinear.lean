/- The walk of layer 2's law CrcLinear. -/
import Derived.Test.YtdgobggepcmojaaLaw02
import Derived.Test.YtdgobggepcmojaaRefRight
import Derived.Test.YtdgobggepcmojaaRefXor
import Derived.Deep.CutRange
import Derived.Lib.Strings
namespace Go.Proofs.Ytdgobggepcmojaa
open Go.RowKit Go.Lib

/-- the two rows as the law cuts them -/
structure Cut2 (a b x y s t : ByteArray) (n : Nat) : Prop where
  hx : (300 < a.size ∧ a.extract 0 300 = x) ∨ (a.size ≤ 300 ∧ x = a)
  hy : (300 < b.size ∧ b.extract 0 300 = y) ∨ (b.size ≤ 300 ∧ y = b)
  ht : (x.size ≤ y.size ∧ y.extract 0 x.size = t) ∨ (y.size < x.size ∧ t = y)
  hs : x.extract 0 n = s
  sz : s.size = n
  tz : t.size = n
  nx : n ≤ x.size
  xz : x.size ≤ 300
  yz : y.size ≤ 300
theorem cut2 (a b : ByteArray) : ∃ x y s t n, Cut2 a b x y s t n := by
  obtain ⟨x, hxz, hx⟩ := cut_at a 300
  obtain ⟨y, hyz, hy⟩ := cut_at b 300
  have hx' := hx.imp id (fun h => And.intro h.1 h.2.symm)
  have hy' := hy.imp id (fun h => And.intro h.1 h.2.symm)
  by_cases h : x.size ≤ y.size
  · exact ⟨x, y, _, _, x.size, hx', hy', .inl ⟨h, rfl⟩, rfl, by rw [ByteArray.size_extract]; omega, by rw [ByteArray.size_extract]; omega, Nat.le_refl _, hxz, hyz⟩
  · exact ⟨x, y, _, y, y.size, hx', hy', .inr ⟨by omega, rfl⟩, rfl, by rw [ByteArray.size_extract]; omega, rfl, by omega, hxz, hyz⟩

theorem crcof_cat (k : Nat) (s : ByteArray) (w : World) (h : k ≤ 50) (hs : s.size ≤ 300) (hr : B.right s = true) : Calls Try.prog 8 #[.string (B.zs k ++ s)] w fun e w' => e = .returned (.tuple #[.int .u32 (B.sum s), .int .i64 0]) ∧ Below w.heap.size w w' := by
  have := crcof_yes (B.zs k ++ s) w (B.cat_right (B.zs_right (by omega)) hr (by rw [B.zs_size]; omega))
  rwa [B.sum_zs_cat] at this

set_option maxRecDepth 100000 in
set_option maxHeartbeats 2000000 in
theorem linear_no1 (a b x y s t : ByteArray) (n : Nat) (z : Int) (w : World) (hc : Cut2 a b x y s t n) (hr1 : B.right s = false) :
    Calls Try.prog 5 #[.string a, .string b, .int .i64 z] w fun e w' => e = .returned (.bool true) ∧ Below w.heap.size w w' := by
  have hB : Below w.heap.size w w := Below.refl _ _
  obtain ⟨hx, hy, ht, hs, hsz, htz, hnx, hxz, hyz⟩ := hc
  have hsm : s.size ≤ maxLen := by unfold maxLen; omega
  have htm : t.size ≤ maxLen := by unfold maxLen; omega
  go_enter Try.func5, Try.ntmps5
  go_upto_region 1 with fail
  go_cut [0, 1] from 16 to 25 (fun u v wc => u = .string x ∧ v = .string y ∧ Below w.heap.size w wc)
  case first =>
    clear ht hs hsz htz hnx hxz hyz
    rcases hx with ⟨h1, hx⟩ | ⟨h1, rfl⟩
    all_goals
      rcases hy with ⟨h2, hy⟩ | ⟨h2, rfl⟩
      all_goals
        go_wp2_with fail
        go_quiet (fail)
        rename_i nq
        replace hB := below_drewN hB nq
        go_wp2
        go_meet
        case rel => exact ⟨rfl, rfl, hB⟩
  case rest =>
    clear hx hy hB
    obtain ⟨rfl, rfl, hB⟩ := hcut
    go_upto_region 2 with fail
    go_cut [1] from 26 to 32 (fun v wd => v = .string t ∧ wd = wc)
    case first =>
      clear hs hsz htz hnx
      rcases ht with ⟨h1, ht⟩ | ⟨h1, rfl⟩
      all_goals
        go_wp2
        go_meet
        case rel => exact ⟨rfl, rfl⟩
    case rest =>
      clear ht
      obtain ⟨rfl, rfl⟩ := hcut
      go_wp2_with (first | (go_at_call 10; (with_reducible refine (refright_any _ _ hsm).mono ?_); rintro e w' ⟨rfl, rfl⟩) | (go_at_call 10; (with_reducible refine (refright_any _ _ htm).mono ?_); rintro e w' ⟨rfl, rfl⟩) | (go_at_call 15; (with_reducible refine (alive_any _).mono ?_); rintro e w' ⟨rfl, hb⟩; replace hB := hB.trans (hb.mono hB.size)))
      go_ret
      exact ⟨rfl, hB⟩

set_option maxRecDepth 100000 in
set_option maxHeartbeats 2000000 in
theorem linear_no2 (a b x y s t : ByteArray) (n : Nat) (z : Int) (w : World) (hc : Cut2 a b x y s t n) (hr1 : B.right s = true) (hr2 : B.right t = false) :
    Calls Try.prog 5 #[.string a, .string b, .int .i64 z] w fun e w' => e = .returned (.bool true) ∧ Below w.heap.size w w' := by
  have hB : Below w.heap.size w w := Below.refl _ _
  obtain ⟨hx, hy, ht, hs, hsz, htz, hnx, hxz, hyz⟩ := hc
  have hsm : s.size ≤ maxLen := by unfold maxLen; omega
  have htm : t.size ≤ maxLen := by unfold maxLen; omega
  go_enter Try.func5, Try.ntmps5
  go_upto_region 1 with fail
  go_cut [0, 1] from 16 to 25 (fun u v wc => u = .string x ∧ v = .string y ∧ Below w.heap.size w wc)
  case first =>
    clear ht hs hsz htz hnx hxz hyz
    rcases hx with ⟨h1, hx⟩ | ⟨h1, rfl⟩
    all_goals
      rcases hy with ⟨h2, hy⟩ | ⟨h2, rfl⟩
      all_goals
        go_wp2_with fail
        go_quiet (fail)
        rename_i nq
        replace hB := below_drewN hB nq
        go_wp2
        go_meet
        case rel => exact ⟨rfl, rfl, hB⟩
  case rest =>
    clear hx hy hB
    obtain ⟨rfl, rfl, hB⟩ := hcut
    go_upto_region 2 with fail
    go_cut [1] from 26 to 32 (fun v wd => v = .string t ∧ wd = wc)
    case first =>
      clear hs hsz htz hnx
      rcases ht with ⟨h1, ht⟩ | ⟨h1, rfl⟩
      all_goals
        go_wp2
        go_meet
        case rel => exact ⟨rfl, rfl⟩
    case rest =>
      clear ht
      obtain ⟨rfl, rfl⟩ := hcut
      go_wp2_with (first | (go_at_call 10; (with_reducible refine (refright_any _ _ hsm).mono ?_); rintro e w' ⟨rfl, rfl⟩) | (go_at_call 10; (with_reducible refine (refright_any _ _ htm).mono ?_); rintro e w' ⟨rfl, rfl⟩) | (go_at_call 15; (with_reducible refine (alive_any _).mono ?_); rintro e w' ⟨rfl, hb⟩; replace hB := hB.trans (hb.mono hB.size)))
      go_ret
      exact ⟨rfl, hB⟩

set_option maxRecDepth 100000 in
set_option maxHeartbeats 2000000 in
theorem linear_low (a b x y s t : ByteArray) (n : Nat) (z : Int) (w : World) (hc : Cut2 a b x y s t n) (hr1 : B.right s = true) (hr2 : B.right t = true) (h0 : z < 0) :
    Calls Try.prog 5 #[.string a, .string b, .int .i64 z] w fun e w' => e = .returned (.bool true) ∧ Below w.heap.size w w' := by
  have hB : Below w.heap.size w w := Below.refl _ _
  obtain ⟨hx, hy, ht, hs, hsz, htz, hnx, hxz, hyz⟩ := hc
  have hsm : s.size ≤ maxLen := by unfold maxLen; omega
  have htm : t.size ≤ maxLen := by unfold maxLen; omega
  have hst : s.size = t.size := by omega
  have hX := Lib.hid (B.sum_xor_u32 hst hr1 hr2)
  have hL : ((B.sum s : Nat) : Int) < 32768 := by have := B.sum_lt s; omega
  have CA := Lib.hid (fun w => crcof_yes s w hr1)
  have CB := Lib.hid (fun w => crcof_yes t w hr2)
  have CX := Lib.hid (fun w => refxor_any s t w hst (by omega))
  have CY := Lib.hid (fun w => crcof_yes (B.xorS s t) w (B.xorS_right hst (by omega)))
  have CW := Lib.hid (fun w => crcof_cat 0 s w (by omega) (by omega) hr1)
  clear hst
  go_enter Try.func5, Try.ntmps5
  go_upto_region 1 with fail
  go_cut [0, 1] from 16 to 25 (fun u v wc => u = .string x ∧ v = .string y ∧ Below w.heap.size w wc)
  case first =>
    clear ht hs hsz htz hnx hxz hyz
    rcases hx with ⟨h1, hx⟩ | ⟨h1, rfl⟩
    all_goals
      rcases hy with ⟨h2, hy⟩ | ⟨h2, rfl⟩
      all_goals
        go_wp2_with fail
        go_quiet (fail)
        rename_i nq
        replace hB := below_drewN hB nq
        go_wp2
        go_meet
        case rel => exact ⟨rfl, rfl, hB⟩
  case rest =>
    clear hx hy hB
    obtain ⟨rfl, rfl, hB⟩ := hcut
    go_upto_region 2 with fail
    go_cut [1] from 26 to 32 (fun v wd => v = .string t ∧ wd = wc)
    case first =>
      clear hs hsz htz hnx
      rcases ht with ⟨h1, ht⟩ | ⟨h1, rfl⟩
      all_goals
        go_wp2
        go_meet
        case rel => exact ⟨rfl, rfl⟩
    case rest =>
      clear ht
      obtain ⟨rfl, rfl⟩ := hcut
      go_wp2_with (first | (go_at_call 10; (with_reducible refine (refright_any _ _ hsm).mono ?_); rintro e w' ⟨rfl, rfl⟩) | (go_at_call 10; (with_reducible refine (refright_any _ _ htm).mono ?_); rintro e w' ⟨rfl, rfl⟩) | (go_at_call 8; (with_reducible refine (CA.out _).mono ?_); rintro e w' ⟨rfl, hb⟩; replace hB := hB.trans (hb.mono hB.size)) | (go_at_call 8; (with_reducible refine (CB.out _).mono ?_); rintro e w' ⟨rfl, hb⟩; replace hB := hB.trans (hb.mono hB.size)) | (go_at_call 8; (with_reducible refine (CY.out _).mono ?_); rintro e w' ⟨rfl, hb⟩; replace hB := hB.trans (hb.mono hB.size)) | (go_at_call 8; (with_reducible refine (CW.out _).mono ?_); rintro e w' ⟨rfl, hb⟩; replace hB := hB.trans (hb.mono hB.size)) | (go_at_call 18; (with_reducible refine (CX.out _).mono ?_); rintro e w' ⟨rfl, hb⟩; replace hB := hB.trans (hb.mono hB.size)) | (go_at_call 15; (with_reducible refine (alive_any _).mono ?_); rintro e w' ⟨rfl, hb⟩; replace hB := hB.trans (hb.mono hB.size)))
      go_loopw [13, 66] (fun v i wr => ∃ k : Nat, k ≤ 0 ∧ i = .int .i64 k ∧ v = .string (B.zs k) ∧ Below w.heap.size w wr) (fun _ i _ => 0 - (intOf i).toNat)
      case atStart => exact ⟨0, Nat.zero_le _, rfl, rfl, hB⟩
      case round =>
        clear hB
        obtain ⟨k, hk, rfl, rfl, hB⟩ := hrel
        by_cases hlt : k < 0
        · exact absurd hlt (Nat.not_lt_zero _)
        · have hkm : 0 = k := by omega
          subst hkm
          have hz : (B.zs 0).size ≤ 50 := by rw [B.zs_size]; omega
          have hX' := hX.out
          go_wp2_with (first | (go_at_call 10; (with_reducible refine (refright_any _ _ hsm).mono ?_); rintro e w' ⟨rfl, rfl⟩) | (go_at_call 10; (with_reducible refine (refright_any _ _ htm).mono ?_); rintro e w' ⟨rfl, rfl⟩) | (go_at_call 8; (with_reducible refine (CA.out _).mono ?_); rintro e w' ⟨rfl, hb⟩; replace hB := hB.trans (hb.mono hB.size)) | (go_at_call 8; (with_reducible refine (CB.out _).mono ?_); rintro e w' ⟨rfl, hb⟩; replace hB := hB.trans (hb.mono hB.size)) | (go_at_call 8; (with_reducible refine (CY.out _).mono ?_); rintro e w' ⟨rfl, hb⟩; replace hB := hB.trans (hb.mono hB.size)) | (go_at_call 8; (with_reducible refine (CW.out _).mono ?_); rintro e w' ⟨rfl, hb⟩; replace hB := hB.trans (hb.mono hB.size)) | (go_at_call 18; (with_reducible refine (CX.out _).mono ?_); rintro e w' ⟨rfl, hb⟩; replace hB := hB.trans (hb.mono hB.size)) | (go_at_call 15; (with_reducible refine (alive_any _).mono ?_); rintro e w' ⟨rfl, hb⟩; replace hB := hB.trans (hb.mono hB.size)))
          go_ret
          exact ⟨rfl, hB⟩

set_option maxRecDepth 100000 in
set_option maxHeartbeats 2000000 in
theorem linear_high (a b x y s t : ByteArray) (n : Nat) (z : Int) (w : World) (hc : Cut2 a b x y s t n) (hr1 : B.right s = true) (hr2 : B.right t = true) (h0 : 50 < z) :
    Calls Try.prog 5 #[.string a, .string b, .int .i64 z] w fun e w' => e = .returned (.bool true) ∧ Below w.heap.size w w' := by
  have hB : Below w.heap.size w w := Below.refl _ _
  obtain ⟨hx, hy, ht, hs, hsz, htz, hnx, hxz, hyz⟩ := hc
  have hsm : s.size ≤ maxLen := by unfold maxLen; omega
  have htm : t.size ≤ maxLen := by unfold maxLen; omega
  have hst : s.size = t.size := by omega
  have hX := Lib.hid (B.sum_xor_u32 hst hr1 hr2)
  have hL : ((B.sum s : Nat) : Int) < 32768 := by have := B.sum_lt s; omega
  have CA := Lib.hid (fun w => crcof_yes s w hr1)
  have CB := Lib.hid (fun w => crcof_yes t w hr2)
  have CX := Lib.hid (fun w => refxor_any s t w hst (by omega))
  have CY := Lib.hid (fun w => crcof_yes (B.xorS s t) w (B.xorS_right hst (by omega)))
  have CW := Lib.hid (fun w => crcof_cat 50 s w (by omega) (by omega) hr1)
  clear hst
  go_enter Try.func5, Try.ntmps5
  go_upto_region 1 with fail
  go_cut [0, 1] from 16 to 25 (fun u v wc => u = .string x ∧ v = .string y ∧ Below w.heap.size w wc)
  case first =>
    clear ht hs hsz htz hnx hxz hyz
    rcases hx with ⟨h1, hx⟩ | ⟨h1, rfl⟩
    all_goals
      rcases hy with ⟨h2, hy⟩ | ⟨h2, rfl⟩
      all_goals
        go_wp2_with fail
        go_quiet (fail)
        rename_i nq
        replace hB := below_drewN hB nq
        go_wp2
        go_meet
        case rel => exact ⟨rfl, rfl, hB⟩
  case rest =>
    clear hx hy hB
    obtain ⟨rfl, rfl, hB⟩ := hcut
    go_upto_region 2 with fail
    go_cut [1] from 26 to 32 (fun v wd => v = .string t ∧ wd = wc)
    case first =>
      clear hs hsz htz hnx
      rcases ht with ⟨h1, ht⟩ | ⟨h1, rfl⟩
      all_goals
        go_wp2
        go_meet
        case rel => exact ⟨rfl, rfl⟩
    case rest =>
      clear ht
      obtain ⟨rfl, rfl⟩ := hcut
      go_wp2_with (first | (go_at_call 10; (with_reducible refine (refright_any _ _ hsm).mono ?_); rintro e w' ⟨rfl, rfl⟩) | (go_at_call 10; (with_reducible refine (refright_any _ _ htm).mono ?_); rintro e w' ⟨rfl, rfl⟩) | (go_at_call 8; (with_reducible refine (CA.out _).mono ?_); rintro e w' ⟨rfl, hb⟩; replace hB := hB.trans (hb.mono hB.size)) | (go_at_call 8; (with_reducible refine (CB.out _).mono ?_); rintro e w' ⟨rfl, hb⟩; replace hB := hB.trans (hb.mono hB.size)) | (go_at_call 8; (with_reducible refine (CY.out _).mono ?_); rintro e w' ⟨rfl, hb⟩; replace hB := hB.trans (hb.mono hB.size)) | (go_at_call 8; (with_reducible refine (CW.out _).mono ?_); rintro e w' ⟨rfl, hb⟩; replace hB := hB.trans (hb.mono hB.size)) | (go_at_call 18; (with_reducible refine (CX.out _).mono ?_); rintro e w' ⟨rfl, hb⟩; replace hB := hB.trans (hb.mono hB.size)) | (go_at_call 15; (with_reducible refine (alive_any _).mono ?_); rintro e w' ⟨rfl, hb⟩; replace hB := hB.trans (hb.mono hB.size)))
      go_loopw [13, 66] (fun v i wr => ∃ k : Nat, k ≤ 50 ∧ i = .int .i64 k ∧ v = .string (B.zs k) ∧ Below w.heap.size w wr) (fun _ i _ => 50 - (intOf i).toNat)
      case atStart => exact ⟨0, Nat.zero_le _, rfl, rfl, hB⟩
      case round =>
        clear hB
        obtain ⟨k, hk, rfl, rfl, hB⟩ := hrel
        by_cases hlt : k < 50
        · have hz := B.zs_size k
          have hzs := Lib.hid (B.zs_succ k)
          clear hs hsz htz hnx hxz hyz hsm htm hL
          go_wp2
          go_roundw
          case rel => exact ⟨k + 1, by omega, by go_num, val_str hzs.out, hB⟩
          case measure => simp [intOf]; omega
        · have hkm : 50 = k := by omega
          subst hkm
          have hz : (B.zs 50).size ≤ 50 := by rw [B.zs_size]; omega
          have hX' := hX.out
          go_wp2_with (first | (go_at_call 10; (with_reducible refine (refright_any _ _ hsm).mono ?_); rintro e w' ⟨rfl, rfl⟩) | (go_at_call 10; (with_reducible refine (refright_any _ _ htm).mono ?_); rintro e w' ⟨rfl, rfl⟩) | (go_at_call 8; (with_reducible refine (CA.out _).mono ?_); rintro e w' ⟨rfl, hb⟩; replace hB := hB.trans (hb.mono hB.size)) | (go_at_call 8; (with_reducible refine (CB.out _).mono ?_); rintro e w' ⟨rfl, hb⟩; replace hB := hB.trans (hb.mono hB.size)) | (go_at_call 8; (with_reducible refine (CY.out _).mono ?_); rintro e w' ⟨rfl, hb⟩; replace hB := hB.trans (hb.mono hB.size)) | (go_at_call 8; (with_reducible refine (CW.out _).mono ?_); rintro e w' ⟨rfl, hb⟩; replace hB := hB.trans (hb.mono hB.size)) | (go_at_call 18; (with_reducible refine (CX.out _).mono ?_); rintro e w' ⟨rfl, hb⟩; replace hB := hB.trans (hb.mono hB.size)) | (go_at_call 15; (with_reducible refine (alive_any _).mono ?_); rintro e w' ⟨rfl, hb⟩; replace hB := hB.trans (hb.mono hB.size)))
          go_ret
          exact ⟨rfl, hB⟩

set_option maxRecDepth 100000 in
set_option maxHeartbeats 2000000 in
theorem linear_mid (a b x y s t : ByteArray) (n : Nat) (m : Nat) (w : World) (hc : Cut2 a b x y s t n) (hr1 : B.right s = true) (hr2 : B.right t = true) (h0 : m ≤ 50) :
    Calls Try.prog 5 #[.string a, .string b, .int .i64 m] w fun e w' => e = .returned (.bool true) ∧ Below w.heap.size w w' := by
  have hB : Below w.heap.size w w := Below.refl _ _
  obtain ⟨hx, hy, ht, hs, hsz, htz, hnx, hxz, hyz⟩ := hc
  have hsm : s.size ≤ maxLen := by unfold maxLen; omega
  have htm : t.size ≤ maxLen := by unfold maxLen; omega
  have hst : s.size = t.size := by omega
  have hX := Lib.hid (B.sum_xor_u32 hst hr1 hr2)
  have hL : ((B.sum s : Nat) : Int) < 32768 := by have := B.sum_lt s; omega
  have CA := Lib.hid (fun w => crcof_yes s w hr1)
  have CB := Lib.hid (fun w => crcof_yes t w hr2)
  have CX := Lib.hid (fun w => refxor_any s t w hst (by omega))
  have CY := Lib.hid (fun w => crcof_yes (B.xorS s t) w (B.xorS_right hst (by omega)))
  have CW := Lib.hid (fun w => crcof_cat m s w (by omega) (by omega) hr1)
  clear hst
  go_enter Try.func5, Try.ntmps5
  go_upto_region 1 with fail
  go_cut [0, 1] from 16 to 25 (fun u v wc => u = .string x ∧ v = .string y ∧ Below w.heap.size w wc)
  case first =>
    clear ht hs hsz htz hnx hxz hyz
    rcases hx with ⟨h1, hx⟩ | ⟨h1, rfl⟩
    all_goals
      rcases hy with ⟨h2, hy⟩ | ⟨h2, rfl⟩
      all_goals
        go_wp2_with fail
        go_quiet (fail)
        rename_i nq
        replace hB := below_drewN hB nq
        go_wp2
        go_meet
        case rel => exact ⟨rfl, rfl, hB⟩
  case rest =>
    clear hx hy hB
    obtain ⟨rfl, rfl, hB⟩ := hcut
    go_upto_region 2 with fail
    go_cut [1] from 26 to 32 (fun v wd => v = .string t ∧ wd = wc)
    case first =>
      clear hs hsz htz hnx
      rcases ht with ⟨h1, ht⟩ | ⟨h1, rfl⟩
      all_goals
        go_wp2
        go_meet
        case rel => exact ⟨rfl, rfl⟩
    case rest =>
      clear ht
      obtain ⟨rfl, rfl⟩ := hcut
      go_wp2_with (first | (go_at_call 10; (with_reducible refine (refright_any _ _ hsm).mono ?_); rintro e w' ⟨rfl, rfl⟩) | (go_at_call 10; (with_reducible refine (refright_any _ _ htm).mono ?_); rintro e w' ⟨rfl, rfl⟩) | (go_at_call 8; (with_reducible refine (CA.out _).mono ?_); rintro e w' ⟨rfl, hb⟩; replace hB := hB.trans (hb.mono hB.size)) | (go_at_call 8; (with_reducible refine (CB.out _).mono ?_); rintro e w' ⟨rfl, hb⟩; replace hB := hB.trans (hb.mono hB.size)) | (go_at_call 8; (with_reducible refine (CY.out _).mono ?_); rintro e w' ⟨rfl, hb⟩; replace hB := hB.trans (hb.mono hB.size)) | (go_at_call 8; (with_reducible refine (CW.out _).mono ?_); rintro e w' ⟨rfl, hb⟩; replace hB := hB.trans (hb.mono hB.size)) | (go_at_call 18; (with_reducible refine (CX.out _).mono ?_); rintro e w' ⟨rfl, hb⟩; replace hB := hB.trans (hb.mono hB.size)) | (go_at_call 15; (with_reducible refine (alive_any _).mono ?_); rintro e w' ⟨rfl, hb⟩; replace hB := hB.trans (hb.mono hB.size)))
      go_loopw [13, 66] (fun v i wr => ∃ k : Nat, k ≤ m ∧ i = .int .i64 k ∧ v = .string (B.zs k) ∧ Below w.heap.size w wr) (fun _ i _ => m - (intOf i).toNat)
      case atStart => exact ⟨0, Nat.zero_le _, rfl, rfl, hB⟩
      case round =>
        clear hB
        obtain ⟨k, hk, rfl, rfl, hB⟩ := hrel
        by_cases hlt : k < m
        · have hz := B.zs_size k
          have hzs := Lib.hid (B.zs_succ k)
          clear hs hsz htz hnx hxz hyz hsm htm hL
          go_wp2
          go_roundw
          case rel => exact ⟨k + 1, by omega, by go_num, val_str hzs.out, hB⟩
          case measure => simp [intOf]; omega
        · have hkm : m = k := by omega
          subst hkm
          have hz : (B.zs m).size ≤ 50 := by rw [B.zs_size]; omega
          have hX' := hX.out
          go_wp2_with (first | (go_at_call 10; (with_reducible refine (refright_any _ _ hsm).mono ?_); rintro e w' ⟨rfl, rfl⟩) | (go_at_call 10; (with_reducible refine (refright_any _ _ htm).mono ?_); rintro e w' ⟨rfl, rfl⟩) | (go_at_call 8; (with_reducible refine (CA.out _).mono ?_); rintro e w' ⟨rfl, hb⟩; replace hB := hB.trans (hb.mono hB.size)) | (go_at_call 8; (with_reducible refine (CB.out _).mono ?_); rintro e w' ⟨rfl, hb⟩; replace hB := hB.trans (hb.mono hB.size)) | (go_at_call 8; (with_reducible refine (CY.out _).mono ?_); rintro e w' ⟨rfl, hb⟩; replace hB := hB.trans (hb.mono hB.size)) | (go_at_call 8; (with_reducible refine (CW.out _).mono ?_); rintro e w' ⟨rfl, hb⟩; replace hB := hB.trans (hb.mono hB.size)) | (go_at_call 18; (with_reducible refine (CX.out _).mono ?_); rintro e w' ⟨rfl, hb⟩; replace hB := hB.trans (hb.mono hB.size)) | (go_at_call 15; (with_reducible refine (alive_any _).mono ?_); rintro e w' ⟨rfl, hb⟩; replace hB := hB.trans (hb.mono hB.size)))
          go_ret
          exact ⟨rfl, hB⟩

theorem linear_any (a b : ByteArray) (z : Int) (w : World) :
    Calls Try.prog 5 #[.string a, .string b, .int .i64 z] w fun e w' => e = .returned (.bool true) ∧ Below w.heap.size w w' := by
  obtain ⟨x, y, s, t, n, hc⟩ := cut2 a b
  cases hr1 : B.right s
  · exact linear_no1 a b x y s t n z w hc hr1
  · cases hr2 : B.right t
    · exact linear_no2 a b x y s t n z w hc hr1 hr2
    · by_cases h1 : z < 0
      · exact linear_low a b x y s t n z w hc hr1 hr2 h1
      · by_cases h2 : 50 < z
        · exact linear_high a b x y s t n z w hc hr1 hr2 h2
        · obtain ⟨m, rfl⟩ := Int.eq_ofNat_of_zero_le (show 0 ≤ z by omega)
          exact linear_mid a b x y s t n m w hc hr1 hr2 (by omega)
end Go.Proofs.Ytdgobggepcmojaa
