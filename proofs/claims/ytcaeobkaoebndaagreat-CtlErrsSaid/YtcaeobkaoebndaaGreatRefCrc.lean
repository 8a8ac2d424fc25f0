/- The walk of the reference's Of (layer 2): dividing on paper. -/
import Derived.Test.YtcaeobkaoebndaaGreatJ1
import Derived.Test.YtcaeobkaoebndaaGreatJ2
import Derived.Test.YtcaeobkaoebndaaGreatPlain
namespace Go.Proofs.YtcaeobkaoebndaaGreat
open Go.RowKit Go.Lib

theorem Tryz.info5b : (Tryz.prog.info? 5).map (fun i => (i.zero, i.size, i.bytes)) = some (some (.int .u8 0), 1, 1) := by kernel_rfl
theorem refof_p : ∃ p : ByteArray, Hid (∀ w, Calls Tryz.prog 44 #[.int .u64 50585, .int .i64 16] w fun e w' => e = .returned (.string p) ∧ w = w') ∧ p.size = 16 ∧ (∀ k (h : k < p.size), ((p[k].toNat : Int) - 48) = ((B.divisor k).toNat : Int)) ∧ (∀ k (h : k < p.size), 48 ≤ p[k].toNat ∧ p[k].toNat ≤ 49) :=
  ⟨B.ofn 50585 16, Lib.hid fun w => refof_any 50585 16 w (by omega) (by omega), B.ofn_size _ _, B.divisor_at, B.divisor_byte⟩
theorem val_u32 {a b : Int} (h : a = b) : Value.int .u32 a = .int .u32 b := by rw [h]
set_option maxRecDepth 100000 in
set_option maxHeartbeats 2000000 in
theorem refcrc_any (s : ByteArray) (w : World) (hr : B.right s = true) :
    Calls Tryz.prog 45 #[.string s] w fun e w' => e = .returned (.int .u32 (B.sum s)) ∧ Below w.heap.size w w' := by
  have hsz := B.right_size hr
  obtain ⟨p, CP, hpz, hpd, hpb⟩ := refof_p
  obtain ⟨i0, hi, hz0, hz1, hz2⟩ := info_parts Tryz.info5b
  obtain ⟨B0, hB⟩ : ∃ b, b = w.heap.size := ⟨_, rfl⟩
  have hlit := World.ownsRow_lit (base := w.heap.size) (e := 5) (size := 1) w #[] 0 (Nat.le_refl _) (by simp) (by simp)
  rw [← hB] at hlit ⊢
  have HB := Lib.hid hB
  have HLIT := Lib.hid hlit
  clear hB hlit
  go_enter Tryz.func45, Tryz.ntmps45
  go_wp2
  go_loopw [3, 4] (fun v i wr => ∃ k : Nat, k ≤ s.size ∧ i = .int .i64 k ∧ wr.ownsRow B0 5 1 v k (B.rowD (B.msg s) k) ∧ Below B0 w wr) (fun _ i _ => s.size - (RowKit.intOf i).toNat)
  case atStart => exact ⟨0, Nat.zero_le _, rfl, by rw [← HB.out]; exact HLIT.out, by rw [HB.out]; exact (Below.refl _ _).alloc (Nat.le_refl _) _⟩
  case round =>
    obtain ⟨k, hk, rfl, ho, hb⟩ := hrel
    by_cases hlt : k < s.size
    · have HO := Lib.hid ho
      have hdig := Lib.hid (B.dig_byte hr hlt)
      have hby := B.right_bound hr k hlt
      clear ho HLIT
      go_wp2_with (at_builtin; refine wpList_append_own _ rfl (.tmp 18) (.tmp 23) 67 rfl B0 5 i0 (.int .u8 0) 1 1 Tryz.underlying67 hi hz0 hz1 hz2 rfl (by decide) _ _ _ rfl (HO.out.alloc _) ⟨wr.heap.size, 0, none⟩ 1 1 [.int .u8 ((s[k].toNat : Int) - 48)] rfl rfl ?c1a ?c2a ?c3a ?c4a ?c5a ?_)
      case c1a =>
        intro j u hj
        match j, hj with
        | 0, hj => simp at hj; subst hj; simp [Addr.add]
      case c2a => intro u hu; simp at hu; subst hu; rfl
      case c3a => unfold maxLen; omega
      case c4a => omega
      case c5a => have := hb.size; have := HB.out; simp; omega
      intro v' w1 hown' hgrow _
      have hb1 : Below B0 w w1 := (hb.alloc (by have := hb.size; have := HB.out; omega) _).grown hgrow (by have := hb.size; have := HB.out; simp; omega) (fun g hg => (HO.out.lt g hg).1)
      clear hgrow hb
      rw [hdig.out, B.rowD_succ] at hown'
      have HOWN := Lib.hid hown'
      clear hown'
      go_wp2
      go_roundw
      case rel => exact ⟨k + 1, by omega, by go_num, HOWN.out, hb1⟩
      case measure => simp [RowKit.intOf]; omega
    · have hkn : k = s.size := by omega
      subst hkn
      clear HLIT
      go_wp2
      go_loopw [3, 5] (fun v i wr => ∃ k : Nat, k ≤ 15 ∧ i = .int .i64 k ∧ wr.ownsRow B0 5 1 v (s.size + k) (B.rowD (B.msg s) (s.size + k)) ∧ Below B0 w wr) (fun _ i _ => 15 - (RowKit.intOf i).toNat)
      case atStart => exact ⟨0, Nat.zero_le _, rfl, ho, hb⟩
      case round =>
        clear ho hb hlt hk
        obtain ⟨k, hk, rfl, ho, hb⟩ := hrel
        by_cases hlt : k < 15
        · have HO := Lib.hid ho
          have hdig := Lib.hid (show Value.int .u8 0 = B.dig (B.msg s (s.size + k)) from by rw [B.msg_out (by omega)]; rfl)
          clear ho
          go_wp2_with (at_builtin; refine wpList_append_own _ rfl (.tmp 29) (.tmp 30) 67 rfl B0 5 i0 (.int .u8 0) 1 1 Tryz.underlying67 hi hz0 hz1 hz2 rfl (by decide) _ _ _ rfl (HO.out.alloc _) ⟨wr.heap.size, 0, none⟩ 1 1 [.int .u8 0] rfl rfl ?c1b ?c2b ?c3b ?c4b ?c5b ?_)
          case c1b =>
            intro j u hj
            match j, hj with
            | 0, hj => simp at hj; subst hj; simp [Addr.add]
          case c2b => intro u hu; simp at hu; subst hu; rfl
          case c3b => unfold maxLen; omega
          case c4b => omega
          case c5b => have := hb.size; have := HB.out; simp; omega
          intro v' w1 hown' hgrow _
          have hb1 : Below B0 w w1 := (hb.alloc (by have := hb.size; have := HB.out; omega) _).grown hgrow (by have := hb.size; have := HB.out; simp; omega) (fun g hg => (HO.out.lt g hg).1)
          clear hgrow hb
          rw [hdig.out, B.rowD_succ] at hown'
          have HOWN := Lib.hid hown'
          clear hown'
          go_wp2
          go_roundw
          case rel => exact ⟨k + 1, by omega, by go_num, HOWN.out, hb1⟩
          case measure => simp [RowKit.intOf]; omega
        · have hkn : k = 15 := by omega
          subst hkn
          obtain ⟨g, cap, rfl, hg1, hg2⟩ := own_form ho (own_not_nil ho (by omega))
          rw [B.at0_zero] at ho
          clear hlt hk
          have HO := Lib.hid ho
          clear ho
          go_wp2_with (go_at_call 44; (with_reducible refine (CP.out _).mono ?_); rintro e w' ⟨rfl, rfl⟩)
          go_loopw [7] (fun i wr => ∃ k : Nat, k ≤ s.size ∧ i = .int .i64 k ∧ wr.ownsRow B0 5 1 (.slice (some ⟨g, 0, none⟩) (s.size + 15) cap) (s.size + 15) (B.rowD (B.at0 s k) (s.size + 15)) ∧ Below B0 w wr) (fun i _ => s.size - (RowKit.intOf i).toNat)
          case atStart => exact ⟨0, Nat.zero_le _, rfl, HO.out, hb⟩
          case round =>
            clear HO hb
            obtain ⟨i, hk, rfl, ho, hb⟩ := hrel
            by_cases hlt : i < s.size
            · have HO := Lib.hid ho
              have hc := ho.cellAt i (by omega)
              rw [B.rowD_at _ _ _ (by omega)] at hc
              cases h1 : B.at0 s i i
              · have hn := Lib.hid (B.at0_skip hlt h1 (s.size + 15))
                rw [h1] at hc
                have hc' : wr.cell? ⟨g, i, none⟩ = some (.int .u8 0) := hc
                clear hc h1 ho
                go_wp2
                go_roundw
                case rel => exact ⟨i + 1, by omega, by go_num, by rw [← hn.out]; exact HO.out, hb⟩
                case measure => simp [RowKit.intOf]; omega
              · have hn := Lib.hid (B.at1_full hlt h1 (s.size + 15))
                rw [h1] at hc
                have hc' : wr.cell? ⟨g, i, none⟩ = some (.int .u8 1) := hc
                clear hc h1 ho
                go_wp2
                clear hc'
                go_loopw [8] (fun j wr => ∃ k : Nat, k ≤ 16 ∧ j = .int .i64 k ∧ wr.ownsRow B0 5 1 (.slice (some ⟨g, 0, none⟩) (s.size + 15) cap) (s.size + 15) (B.rowD (B.at1 s i k) (s.size + 15)) ∧ Below B0 w wr) (fun j _ => 16 - (RowKit.intOf j).toNat)
                case atStart => exact ⟨0, Nat.zero_le _, rfl, by rw [← B.at1_zero]; exact HO.out, hb⟩
                case round =>
                  clear HO hb
                  obtain ⟨k, hk16, rfl, ho, hb⟩ := hrel
                  by_cases hlk : k < 16
                  · have HO := Lib.hid ho
                    have hfree := ho.frozenAt (i + k)
                    have hcell := ho.cellAt (i + k) (by omega)
                    rw [B.rowD_at _ _ _ (by omega), B.at1_here] at hcell
                    unfold B.dig at hcell
                    obtain ⟨d, hd⟩ : ∃ d, d = B.at0 s i (i + k) := ⟨_, rfl⟩
                    rw [← hd] at hcell
                    have hst := Lib.hid (B.at1_succ s i k (s.size + 15))
                    rw [← hd] at hst
                    have hx := Lib.hid (B.dig_xor d (B.divisor k))
                    have hkp : k < p.size := by omega
                    have hpk := hpd k hkp
                    have hpk2 := hpb k hkp
                    obtain ⟨c, hcp⟩ : ∃ c : UInt8, p[k]'hkp = c := ⟨_, rfl⟩
                    rw [hcp] at hpk hpk2
                    have q1 : IntKind.i64.wrap ((i : Int) + (k : Int)) = (i : Int) + (k : Int) := IntWalk.i64_in _ (by omega)
                    have q2 : ((i : Int) + (k : Int)).toNat = i + k := by omega
                    have q3 : 0 ≤ (i : Int) + (k : Int) := by omega
                    have q4 : (i : Int) + (k : Int) < ((s.size + 15 : Nat) : Int) := by omega
                    clear ho hd
                    clear hpd hpb hpz
                    go_wp2_with fail
                    go_region
                    go_wp2
                    go_roundw
                    case rel =>
                      refine ⟨k + 1, by omega, by go_num, ?_, (hb.setCell hg1 _).drew⟩
                      rw [hx.out, ← hst.out]
                      exact ((HO.out.stored (i + k) _).1).drew
                    case measure => simp [RowKit.intOf]; omega
                  · have hk' : k = 16 := by omega
                    rw [hk', hn.out] at ho
                    have HO := Lib.hid ho
                    clear ho
                    go_wp2
                    go_roundw
                    case rel => exact ⟨i + 1, by omega, by go_num, HO.out, hb⟩
                    case measure => simp [RowKit.intOf]; omega
            · have hi' : i = s.size := by omega
              rw [hi'] at ho
              have HO := Lib.hid ho
              clear ho
              go_wp2
              go_loopw [9, 10] (fun n j wr => ∃ k : Nat, k ≤ 15 ∧ j = .int .i64 ((s.size + k : Nat) : Int) ∧ n = .int .u32 ((B.sum s / 2 ^ (15 - k) : Nat) : Int) ∧ wr.ownsRow B0 5 1 (.slice (some ⟨g, 0, none⟩) (s.size + 15) cap) (s.size + 15) (B.rowD (B.at0 s s.size) (s.size + 15)) ∧ Below B0 w wr) (fun _ j _ => s.size + 15 - (RowKit.intOf j).toNat)
              case atStart => exact ⟨0, Nat.zero_le _, by go_num, by rw [B.div_begin]; rfl, HO.out, hb⟩
              case round =>
                clear HO hb
                obtain ⟨k, hk15, rfl, rfl, ho, hb⟩ := hrel
                have hs15 := B.sum_lt s
                have hdl := Nat.div_le_self (B.sum s) (2 ^ (15 - k))
                by_cases hlt : k < 15
                · have HO := Lib.hid ho
                  have hc := ho.cellAt (s.size + k) (by omega)
                  rw [B.rowD_at _ _ _ (by omega), B.at0_end s k hlt] at hc
                  unfold B.dig at hc
                  have hst := Lib.hid (B.div_step (B.sum s) k hlt)
                  obtain ⟨m, hm⟩ : ∃ m, m = B.sum s / 2 ^ (15 - k) := ⟨_, rfl⟩
                  obtain ⟨d, hd⟩ : ∃ d, d = ((B.sum s).testBit (14 - k)).toNat := ⟨_, rfl⟩
                  have hd1 : d ≤ 1 := by rw [hd]; exact Bool.toNat_le _
                  rw [← hd] at hc
                  have hst' : Hid (2 * m + d = B.sum s / 2 ^ (15 - (k + 1))) := Lib.hid (by rw [hm, hd]; exact hst.out)
                  rw [← hm] at hdl ⊢
                  clear ho hm hd hst
                  go_wp2
                  go_roundw
                  case rel => exact ⟨k + 1, by omega, by go_num, by rw [← hst'.out]; exact val_u32 (by omega), HO.out, hb⟩
                  case measure => simp [RowKit.intOf]; omega
                · have hk' : k = 15 := by omega
                  subst hk'
                  clear ho
                  go_wp2
                  go_ret
                  exact ⟨by simp, hb⟩
end Go.Proofs.YtcaeobkaoebndaaGreat
