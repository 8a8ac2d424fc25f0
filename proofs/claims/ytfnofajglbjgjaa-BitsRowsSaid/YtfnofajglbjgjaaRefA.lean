/- The walks of the reference's And, Turn, Runs and Same. -/
import Derived.Test.YtfnofajglbjgjaaShort
import Derived.Test.YtfnofajglbjgjaaRuns
import Derived.Test.YtfnofajglbjgjaaRefA1
namespace Go.Proofs.Ytfnofajglbjgjaa
open Go.RowKit Go.Lib

theorem val_one {a b : UInt8} (h : a = b) : Value.string ⟨#[a]⟩ = .string ⟨#[b]⟩ := by rw [h]

set_option maxHeartbeats 1000000 in
theorem refand_any (g cap : Nat) (ss : List ByteArray) (w : World) (hn : ss.length ≤ maxLen) (hz : (B.at_ ss 0).size ≤ 4000) (hc : RowS w g ss) (ha : B.alike ss = true) :
    Calls Try.prog 18 #[.slice (some ⟨g, 0, none⟩) ss.length cap] w fun e w' => e = .returned (.string ⟨(B.andL ss).toArray⟩) ∧ w = w' := by
  unfold maxLen at hn
  have hp := B.alike_pos ha
  have h0 := hc 0 hp
  obtain ⟨s0, hs0⟩ : ∃ s, B.at_ ss 0 = s := ⟨_, rfl⟩
  obtain ⟨n, hln⟩ : ∃ n, ss.length = n := ⟨_, rfl⟩
  rw [hs0] at h0 hz
  rw [hln] at hn hp ⊢
  have HL := Lib.hid hln
  have HS0 := Lib.hid hs0
  have HC := Lib.hid hc
  clear hln hs0 hc
  go_enter Try.func18, Try.ntmps18
  go_wp2
  go_loop [3, 4] (fun o i => ∃ k : Nat, k ≤ s0.size ∧ i = .int .i64 k ∧ o = .string (B.andB ss k)) (fun _ i => s0.size - (RowKit.intOf i).toNat)
  case atStart => exact ⟨0, Nat.zero_le _, rfl, by rw [B.andB_zero]⟩
  case round =>
    obtain ⟨k, hk, rfl, rfl⟩ := hrel
    by_cases hlt : k < s0.size
    · have hsz := B.andB_size ss k
      have hnx := Lib.hid (B.andB_succ ha k (by rw [HS0.out]; exact hlt))
      rw [HL.out] at hnx
      go_wp2
      go_loop [5, 18] (fun b j => ∃ m : Nat, m ≤ n ∧ j = .int .i64 m ∧ b = .string ⟨#[B.bitTo ss k m]⟩) (fun _ j => n - (RowKit.intOf j).toNat)
      case atStart => exact ⟨0, Nat.zero_le _, rfl, val_one (B.bitTo_zero ss k).symm⟩
      case round =>
        obtain ⟨m, hm, rfl, rfl⟩ := hrel
        by_cases hmn : m < n
        · have hx := HC.out m (by rw [HL.out]; exact hmn)
          have hrow := B.alike_row ha m (by rw [HL.out]; exact hmn)
          rw [HS0.out] at hrow
          obtain ⟨s, hs⟩ : ∃ s, B.at_ ss m = s := ⟨_, rfl⟩
          rw [hs] at hx hrow
          have hkm : k < s.size := by omega
          have hbit : s.data.toList[k]? = some s[k] := by rw [List.getElem?_eq_getElem (by rw [B.size_len]; exact hkm)]; rfl
          by_cases h48 : s[k].toNat = 48
          · have hh := Lib.hid (B.bitTo_hit (ss := ss) (i := k) (j := m) (by rw [HL.out]; exact hmn) (by rw [hs, hbit, UInt8.toNat_inj.1 (show s[k].toNat = (48 : UInt8).toNat from h48)]))
            clear hbit hs hrow
            go_wp2
            go_round
            case rel => exact ⟨m + 1, by omega, by go_num, val_one hh.out.symm⟩
            case measure => simp [RowKit.intOf]; omega
          · have hh := Lib.hid (B.bitTo_miss (ss := ss) (i := k) (j := m) (by rw [HL.out]; exact hmn) (by rw [hs, hbit]; intro e; apply h48; rw [Option.some.inj e]; rfl))
            clear hbit hs hrow
            go_wp2
            go_round
            case rel => exact ⟨m + 1, by omega, by go_num, val_one hh.out.symm⟩
            case measure => simp [RowKit.intOf]; omega
        · have hmn' : m = n := by omega
          have HMN := Lib.hid hmn'
          clear hmn'
          go_wp2
          go_round
          case rel => exact ⟨k + 1, by omega, by go_num, val_str (by rw [HMN.out]; exact hnx.out)⟩
          case measure => simp [RowKit.intOf]; omega
    · go_wp2
      go_ret
      exact ⟨ret_str1 (by rw [← B.andB_full ha, HS0.out, show s0.size = k from by omega]), rfl⟩

set_option maxHeartbeats 1000000 in
theorem refturn_any (s : ByteArray) (k : Nat) (w : World) (hk : k < s.size) (hs : s.size ≤ 4000) (hr : B.right s = true) :
    Calls Try.prog 22 #[.string s, .int .i64 k] w fun e w' => e = .returned (.string (B.turnB s k)) ∧ Below w.heap.size w w' := by
  have hb := B.right_bound hr k hk
  by_cases h48 : s[k].toNat = 48
  · have hh := Lib.hid (B.turnB_eq hk 49 (by rw [UInt8.toNat_inj.1 (show s[k].toNat = (48 : UInt8).toNat from h48)]; rfl))
    have he : ((s[k].toNat : Int) == 48) = true := by simp; omega
    clear h48 hb
    go_enter Try.func22, Try.ntmps22
    go_wp2_with fail
    go_quiet (fail)
    rename_i nq
    go_wp2
    go_ret
    exact ⟨ret_str1 hh.out, below_drewN (Below.refl _ _) nq⟩
  · have hh := Lib.hid (B.turnB_eq hk 48 (by rw [UInt8.toNat_inj.1 (show s[k].toNat = (49 : UInt8).toNat from by show s[k].toNat = 49; omega)]; rfl))
    have he : ((s[k].toNat : Int) == 48) = false := by simp; omega
    clear h48 hb
    go_enter Try.func22, Try.ntmps22
    go_wp2_with fail
    go_quiet (fail)
    rename_i nq
    go_wp2
    go_ret
    exact ⟨ret_str1 hh.out, below_drewN (Below.refl _ _) nq⟩

set_option maxHeartbeats 1600000 in
theorem refruns_any (s : ByteArray) (w : World) (hsz : s.size ≤ 4000) :
    Calls Try.prog 24 #[.string s] w fun e w' => ∃ v, e = .returned v ∧ w'.ownsRow w.heap.size 51 2 v (B.runsOf s.data.toList).length (B.runCells (B.runsOf s.data.toList)) ∧ Below w.heap.size w w' := by
  obtain ⟨i0, hi, hz0, hz1, hz2⟩ := info_parts Try.info51
  obtain ⟨B0, hB⟩ : ∃ b, b = w.heap.size := ⟨_, rfl⟩
  have hlit := World.ownsRow_lit (base := w.heap.size) (e := 51) (size := 2) w #[] 0 (Nat.le_refl _) (by simp) (by simp)
  rw [← hB] at hlit ⊢
  have HB := Lib.hid hB
  have HLIT := Lib.hid hlit
  clear hB hlit
  go_enter Try.func24, Try.ntmps24
  go_wp2
  go_loopw [3, 4, 5] (fun v m i wr => ∃ (k n : Nat) (out : List (UInt8 × Nat)), k ≤ s.size ∧ i = .int .i64 k ∧ m = .int .i64 n ∧ n ≤ k ∧ out.length ≤ k ∧ wr.ownsRow B0 51 2 v out.length (B.runCells out) ∧ B.preR s k out n ∧ Below B0 w wr) (fun _ _ i _ => s.size - (RowKit.intOf i).toNat)
  case atStart => exact ⟨0, 0, [], Nat.zero_le _, rfl, rfl, Nat.le_refl _, Nat.le_refl _, by rw [← HB.out]; exact HLIT.out, B.preR_zero s, by rw [HB.out]; exact (Below.refl _ _).alloc (Nat.le_refl _) _⟩
  case round =>
    obtain ⟨k, n, out, hk, rfl, rfl, hnk, hol, ho, hpr, hb⟩ := hrel
    by_cases hlt : k < s.size
    · by_cases he : k + 1 = s.size
      · have hg : ((k : Int) + 1 == s.size) = true := by simp; omega
        have q1 : IntKind.i64.wrap ((k : Int) + 1) = (k : Int) + 1 := IntWalk.i64_in _ (by omega)
        go_wp2_with fail
        go_quiet (fail)
        rename_i nq
        have ho := ownsRow_drewN ho nq
        have hb := below_drewN hb nq
        generalize wr.drewN nq = wq at *
        have HO := Lib.hid ho
        have hpr' := Lib.hid (B.preR_end hlt hpr ((.inl he)))
        clear ho q1
        go_wp2_with (at_builtin; refine wpList_append_own _ rfl (.tmp 30) (.tmp 36) 41 rfl B0 51 i0 (.agg #[.int .u8 0, .int .i64 0]) 2 16 Try.underlying41 hi hz0 hz1 hz2 rfl (by decide) _ _ _ rfl (HO.out.alloc _) ⟨wq.heap.size, 0, none⟩ 1 1 [.int .u8 (s[k].toNat : Int), .int .i64 ((n : Int) + 1)] rfl rfl ?c1a ?c2a ?c3a ?c4a ?c5a ?_)
        case c1a =>
          intro j u hj
          match j, hj with
          | 0, hj => simp at hj; subst hj; simp [Addr.add]
          | 1, hj => simp at hj; subst hj; simp [Addr.add]
        case c2a => intro u hu; simp at hu; rcases hu with rfl | rfl <;> rfl
        case c3a => unfold maxLen; omega
        case c4a => omega
        case c5a => have := hb.size; have := HB.out; simp; omega
        intro v' w1 hown' hgrow _
        have hb1 : Below B0 w w1 := (hb.alloc (by have := hb.size; have := HB.out; omega) _).grown hgrow (by have := hb.size; have := HB.out; simp; omega) (fun g hg => (HO.out.lt g hg).1)
        clear hgrow hb
        have hx : B.runCells out ++ [.int .u8 (s[k].toNat : Int), .int .i64 ((n : Int) + 1)] = B.runCells (out ++ [(s[k], n + 1)]) := by rw [B.runCells_append]; rfl
        rw [hx] at hown'
        have HOWN := Lib.hid hown'
        clear hx hown' hpr
        go_wp2
        go_roundw
        case rel => exact ⟨k + 1, 0, out ++ [(s[k], n + 1)], by omega, by go_num, rfl, by omega, by simp; omega, by rw [List.length_append]; exact HOWN.out, hpr'.out, hb1⟩
        case measure => simp [RowKit.intOf]; omega
      · have hg : ((k : Int) + 1 == s.size) = false := by simp; omega
        have hk1 : k + 1 < s.size := by omega
        obtain ⟨c1, hc1⟩ : ∃ c : UInt8, s[k + 1] = c := ⟨_, rfl⟩
        by_cases hd : c1.toNat = s[k].toNat
        · have hne : ((c1.toNat : Int) != s[k].toNat) = false := by simp; omega
          have hpr' := Lib.hid (B.preR_more hlt hpr hk1 (by rw [hc1]; exact hd))
          have q2 : ((k : Int) + 1).toNat = k + 1 := by omega
          have q3 : 0 ≤ (k : Int) + 1 := by omega
          have q4 : (k : Int) + 1 < s.size := by omega
          have q1 : IntKind.i64.wrap ((k : Int) + 1) = (k : Int) + 1 := IntWalk.i64_in _ (by omega)
          go_wp2_with fail
          go_quiet (fail)
          rename_i nq
          clear hc1 q1 q2 hpr hd
          go_wp2
          go_roundw
          case rel => exact ⟨k + 1, n + 1, out, by omega, by go_num, by go_num, by omega, by omega, ownsRow_drewN ho nq, hpr'.out, below_drewN hb nq⟩
          case measure => simp [RowKit.intOf]; omega
        · have hne : ((c1.toNat : Int) != s[k].toNat) = true := by simp; omega
          have q2 : ((k : Int) + 1).toNat = k + 1 := by omega
          have q3 : 0 ≤ (k : Int) + 1 := by omega
          have q4 : (k : Int) + 1 < s.size := by omega
          have q1 : IntKind.i64.wrap ((k : Int) + 1) = (k : Int) + 1 := IntWalk.i64_in _ (by omega)
          go_wp2_with fail
          go_quiet (fail)
          rename_i nq
          have ho := ownsRow_drewN ho nq
          have hb := below_drewN hb nq
          generalize wr.drewN nq = wq at *
          have HO := Lib.hid ho
          have hpr' := Lib.hid (B.preR_end hlt hpr ((.inr ⟨hk1, by rw [hc1]; exact hd⟩)))
          clear ho hc1 q1 q2
          go_wp2_with (at_builtin; refine wpList_append_own _ rfl (.tmp 30) (.tmp 36) 41 rfl B0 51 i0 (.agg #[.int .u8 0, .int .i64 0]) 2 16 Try.underlying41 hi hz0 hz1 hz2 rfl (by decide) _ _ _ rfl (HO.out.alloc _) ⟨wq.heap.size, 0, none⟩ 1 1 [.int .u8 (s[k].toNat : Int), .int .i64 ((n : Int) + 1)] rfl rfl ?c1b ?c2b ?c3b ?c4b ?c5b ?_)
          case c1b =>
            intro j u hj
            match j, hj with
            | 0, hj => simp at hj; subst hj; simp [Addr.add]
            | 1, hj => simp at hj; subst hj; simp [Addr.add]
          case c2b => intro u hu; simp at hu; rcases hu with rfl | rfl <;> rfl
          case c3b => unfold maxLen; omega
          case c4b => omega
          case c5b => have := hb.size; have := HB.out; simp; omega
          intro v' w1 hown' hgrow _
          have hb1 : Below B0 w w1 := (hb.alloc (by have := hb.size; have := HB.out; omega) _).grown hgrow (by have := hb.size; have := HB.out; simp; omega) (fun g hg => (HO.out.lt g hg).1)
          clear hgrow hb
          have hx : B.runCells out ++ [.int .u8 (s[k].toNat : Int), .int .i64 ((n : Int) + 1)] = B.runCells (out ++ [(s[k], n + 1)]) := by rw [B.runCells_append]; rfl
          rw [hx] at hown'
          have HOWN := Lib.hid hown'
          clear hx hown' hpr
          go_wp2
          go_roundw
          case rel => exact ⟨k + 1, 0, out ++ [(s[k], n + 1)], by omega, by go_num, rfl, by omega, by simp; omega, by rw [List.length_append]; exact HOWN.out, hpr'.out, hb1⟩
          case measure => simp [RowKit.intOf]; omega
    · have hks : k = s.size := by omega
      have hfin : out = B.runsOf s.data.toList := by
        rw [hpr.2 hks]; unfold B.runsTo; rw [List.take_of_length_le (by rw [B.size_len]; omega)]
      rw [hfin] at ho
      have HO := Lib.hid ho
      clear ho hfin hpr hks
      go_wp2
      go_ret
      exact ⟨_, rfl, HO.out, hb⟩
end Go.Proofs.Ytfnofajglbjgjaa
