/- Layer 6: the law CountNever. -/
import Derived.Test.YthgbfidghhlldaaCn4
import Derived.Deep.DeepCutAuto
import Derived.Deep.RegionWith
namespace Go.Proofs.Ythgbfidghhlldaa
open Go.RowKit Go.Lib Go.Maps

theorem come_any (K : Int) (hK : K = 4 ∨ K = 6) (t r : Nat) (w : World) (ht : t ≤ 255) (hr : r ≤ 255) : Calls Try.prog 7 #[.agg #[.int .i64 (t : Int), .int .i64 (r : Int), .bool false, .int .i64 0], .int .i64 K] w fun e w' => ∃ x : Nat, r ≤ x ∧ x ≤ 255 ∧ e = .returned (.tuple #[.agg #[.int .i64 (t : Int), .int .i64 (x : Int), .bool false, .int .i64 0], .int .i64 0]) ∧ Below w.heap.size w w' := by
  rcases hK with rfl | rfl
  · by_cases h : r + 1 ≤ 255
    · exact (step_come4lo t r w ht h).mono fun e w' ⟨he, hb⟩ => ⟨r + 1, by omega, by omega, he, hb⟩
    · exact (step_come4hi t r w ht hr (by omega)).mono fun e w' ⟨he, hb⟩ => ⟨255, by omega, by omega, he, hb⟩
  · by_cases h : r + 8 ≤ 255
    · exact (step_come6lo t r w ht h).mono fun e w' ⟨he, hb⟩ => ⟨r + 8, by omega, by omega, he, hb⟩
    · exact (step_come6hi t r w ht hr (by omega)).mono fun e w' ⟨he, hb⟩ => ⟨255, by omega, by omega, he, hb⟩

def NeverRel (w : World) (wr : World) : Prop :=
  (∃ r : Nat, r ≤ 255 ∧ Blk wr w.heap.size #[.int .i64 0, .int .i64 (r : Int), .bool false, .int .i64 0] 25) ∧ Blk wr (w.heap.size + 1) #[.int .i64 0, .int .i64 0, .bool false, .int .i64 0] 25 ∧ Below w.heap.size w wr
def NeverIn (w : World) (gx gy r x k : Nat) (wr : World) : Prop :=
  Blk wr w.heap.size #[.int .i64 0, .int .i64 (r : Int), .bool false, .int .i64 0] 25 ∧ Blk wr (w.heap.size + 1) #[.int .i64 0, .int .i64 0, .bool false, .int .i64 0] 25 ∧ Blk wr gx #[.int .i64 0, .int .i64 (x : Int), .bool false, .int .i64 0] 25 ∧ Blk wr gy #[.int .i64 ((8 - k : Nat) : Int), .int .i64 0, .bool false, .int .i64 0] 25 ∧
  Below w.heap.size w wr

set_option maxRecDepth 100000 in
set_option maxHeartbeats 8000000 in
theorem never_any (a : Int) (A : Option Addr) (n cap : Nat) (w : World) (hin : InRow IsBool w A n cap) : Calls Try.prog 5 #[.int .i64 a, .slice A n cap] w fun e w' => e = .returned (.bool true) ∧ Below w.heap.size w w' := by
  have CA : Hid (∀ w, Calls Try.prog 8 #[] w fun e w' => e = .returned (.bool true) ∧ Below w.heap.size w w') := Lib.hid alive6_any
  have CX : Hid (∀ (K : Int) (r : Nat) w, (K = 4 ∨ K = 6) → r ≤ 255 → Calls Try.prog 7 #[.agg #[.int .i64 0, .int .i64 (r : Int), .bool false, .int .i64 0], .int .i64 K] w fun e w' => ∃ x : Nat, r ≤ x ∧ x ≤ 255 ∧ e = .returned (.tuple #[.agg #[.int .i64 0, .int .i64 (x : Int), .bool false, .int .i64 0], .int .i64 0]) ∧ Below w.heap.size w w') := Lib.hid (fun K r w hK hr => come_any K hK 0 r w (by omega) hr)
  have CY : Hid (∀ w, Calls Try.prog 7 #[.agg #[.int .i64 0, .int .i64 0, .bool false, .int .i64 0], .int .i64 3] w fun e w' => e = .returned (.tuple #[.agg #[.int .i64 8, .int .i64 0, .bool false, .int .i64 0], .int .i64 0]) ∧ Below w.heap.size w w') := Lib.hid (fun w => step_err3lo 0 0 w (by omega) (by omega))
  have CZ : Hid (∀ s w, s + 1 ≤ 255 → Calls Try.prog 7 #[.agg #[.int .i64 ((s : Nat) + 1 : Int), .int .i64 0, .bool false, .int .i64 0], .int .i64 1] w fun e w' => e = .returned (.tuple #[.agg #[.int .i64 (s : Int), .int .i64 0, .bool false, .int .i64 0], .int .i64 0]) ∧ Below w.heap.size w w') := Lib.hid (fun s w hs => step_sent1 s 0 w hs (by omega))
  have CSt : Hid (∀ (r : Nat) w, r ≤ 255 → Calls Try.prog 6 #[.agg #[.int .i64 0, .int .i64 (r : Int), .bool false, .int .i64 0]] w fun e w' => e = .returned (.tuple #[.int .i64 (stateOn 0 r : Int), .int .i64 0]) ∧ Below w.heap.size w w') := Lib.hid (fun r w hr => cstate_on 0 r w (by omega) hr)
  go_enter Try.func5, Try.ntmps5
  go_upto_region 1 with fail
  go_cut [0] from 17 to 19 (fun v wc => ∃ m : Nat, m ≤ 300 ∧ v = .int .i64 m ∧ wc = w)
  case first =>
    rcases Int.lt_or_le a 0 with h1 | h1
    · go_wp2
      all_goals (go_meet; case rel => exact ⟨0, by omega, rfl, rfl⟩)
    · obtain ⟨m, rfl⟩ := Int.eq_ofNat_of_zero_le h1
      clear h1
      by_cases h2 : m ≤ 300
      · go_wp2
        all_goals (go_meet; case rel => first | exact ⟨m, h2, rfl, rfl⟩ | exact ⟨0, by omega, rfl, rfl⟩ | exact ⟨300, by omega, rfl, rfl⟩)
      · go_wp2
        all_goals (go_meet; case rel => first | exact ⟨300, by omega, rfl, rfl⟩ | exact ⟨0, by omega, rfl, rfl⟩)
  case rest =>
    obtain ⟨m, hm, rfl, rfl⟩ := hcut
    obtain ⟨w0, rfl⟩ : ∃ w0 : World, w0 = wc := ⟨_, rfl⟩
    go_wp2
    have hb0 : Below w0.heap.size w0 ((w0.alloc (.cells #[.int .i64 0, .int .i64 0, .bool false, .int .i64 0] 25)).alloc (.cells #[.int .i64 0, .int .i64 0, .bool false, .int .i64 0] 25)) := ((Below.refl _ _).alloc (Nat.le_refl _) _).alloc (by simp) _
    go_loopw [23] (fun i wr => ∃ k : Nat, k ≤ m ∧ i = .int .i64 k ∧ NeverRel w0 wr) (fun i _ => m - (intOf i).toNat)
    case atStart => exact ⟨0, by omega, rfl, ⟨0, by omega, ((blk_new w0 _ _ _ rfl).alloc _)⟩, blk_new _ _ _ _ (by simp), hb0⟩
    case round =>
      obtain ⟨k, hk, rfl, ⟨r, hr, hA⟩, hB, hb⟩ := hrel
      clear hb0
      by_cases hlt : k < m
      · go_upto_region 7 with fail
        go_cut [35] (fun v wd => ∃ q : Bool, v = .bool q ∧ wd = wr)
        case first =>
          by_cases hkn : k < n
          · obtain ⟨b, o, v, rfl, hbl, ⟨q, rfl⟩, hcell⟩ := (hin.keep hb).at_ k hkn
            go_wp2
            go_meet
            case rel => exact ⟨q, rfl, rfl⟩
          · go_wp2
            go_meet
            case rel => exact ⟨false, rfl, rfl⟩
        case rest =>
        obtain ⟨q, rfl, rfl⟩ := hcut
        go_upto_if 35 with (fail)
        go_cut [8] (fun v we => ∃ K : Int, (K = 4 ∨ K = 6) ∧ v = .int .i64 K ∧ we = wc)
        case first =>
          cases q
          · go_wp2
            go_meet
            case rel => exact ⟨4, .inl rfl, rfl, rfl⟩
          · go_wp2
            go_meet
            case rel => exact ⟨6, .inr rfl, rfl, rfl⟩
        case rest =>
          obtain ⟨K, hK, rfl, rfl⟩ := hcut
          have a0 := hA.cell 0 _ rfl
          have a1 := hA.cell 1 _ rfl
          have a2 := hA.cell 2 _ rfl
          have a3 := hA.cell 3 _ rfl
          have al := hA.lt
          have b0 := hB.cell 0 _ rfl
          have b1 := hB.cell 1 _ rfl
          have b2 := hB.cell 2 _ rfl
          have b3 := hB.cell 3 _ rfl
          have bl := hB.lt
          have hgab : w0.heap.size + 1 < wc.heap.size := bl
          go_wp2_with (first
            | (go_at_call 7; (with_reducible refine (CX.out K r _ hK hr).mono ?_); rintro e w2 ⟨x, hx1, hx2, rfl, hb2⟩; have hxr : decide (x < r) = false := (by simp; omega); have A2 := hA.keep hb2; have B2 := hB.keep hb2; have hb' := hb.trans (hb2.mono hb.size); have hz2 : w0.heap.size + 1 < w2.heap.size := (by have := hb2.size; omega); clear hb2; clear a0 a1 a2 a3 al b0 b1 b2 b3 bl; have a0 := A2.cell 0 _ rfl; have a1 := A2.cell 1 _ rfl; have a2 := A2.cell 2 _ rfl; have a3 := A2.cell 3 _ rfl; have al := A2.lt; have b0 := B2.cell 0 _ rfl; have b1 := B2.cell 1 _ rfl; have b2 := B2.cell 2 _ rfl; have b3 := B2.cell 3 _ rfl; have bl := B2.lt)
            | (go_at_call 7; (with_reducible refine (CY.out _).mono ?_); rintro e w3 ⟨rfl, hb3⟩; have A3 := (A2.alloc _).keep hb3; have B3 := (B2.alloc _).keep hb3; have X3 := (blk_new w2 #[.int .i64 0, .int .i64 (x : Int), .bool false, .int .i64 0] 25 _ rfl).keep hb3; have hb'' := (hb'.alloc hb'.size _).trans (hb3.mono (by have := hb'.size; simp; omega)); clear hb3; clear a0 a1 a2 a3 al b0 b1 b2 b3 bl; have a0 := A3.cell 0 _ rfl; have a1 := A3.cell 1 _ rfl; have a2 := A3.cell 2 _ rfl; have a3 := A3.cell 3 _ rfl; have al := A3.lt; have x0 := X3.cell 0 _ rfl; have x1 := X3.cell 1 _ rfl; have x2 := X3.cell 2 _ rfl; have x3 := X3.cell 3 _ rfl; have xl := X3.lt))
          have n1 : w2.heap.size ≠ w3.heap.size := by omega
          have n2 : w0.heap.size ≠ w3.heap.size := by omega
          have n3 : w0.heap.size + 1 ≠ w3.heap.size := by omega
          have hg0 : w0.heap.size ≤ w3.heap.size := by omega
          have hg1 : w0.heap.size ≠ w2.heap.size := by omega
          have hg2 : w0.heap.size + 1 ≠ w2.heap.size := by omega
          have h0 : NeverIn w0 w2.heap.size w3.heap.size r x 0 (w3.alloc (.cells #[.int .i64 8, .int .i64 0, .bool false, .int .i64 0] 25)) := ⟨A3.alloc _, B3.alloc _, X3.alloc _, blk_new w3 _ _ _ rfl, hb''.alloc hb''.size _⟩
          clear hA hB hb hgab A2 B2 hb' hz2 A3 B3 X3 hb'' a0 a1 a2 a3 al x0 x1 x2 x3 xl
          go_loopw [73] (fun i wr => ∃ j : Nat, j ≤ 8 ∧ i = .int .i64 j ∧ NeverIn w0 w2.heap.size w3.heap.size r x j wr) (fun i _ => 8 - (intOf i).toNat)
          case atStart => exact ⟨0, by omega, rfl, h0⟩
          case round =>
            obtain ⟨j, hj, rfl, hA, hB, hX, hY, hb⟩ := hrel
            clear h0
            by_cases hjl : j < 8
            · obtain ⟨s, hs⟩ : ∃ s, 8 - j = s + 1 := ⟨8 - j - 1, by omega⟩
              rw [hs] at hY
              have hs2 : Hid (8 - (j + 1) = s) := Lib.hid (by omega)
              have hs3 : s + 1 ≤ 255 := by omega
              clear hs
              have y0 := hY.cell 0 _ rfl
              have y1 := hY.cell 1 _ rfl
              have y2 := hY.cell 2 _ rfl
              have y3 := hY.cell 3 _ rfl
              have yl := hY.lt
              go_wp2_with (go_at_call 7; (with_reducible refine (CZ.out _ _ hs3).mono ?_); rintro e w4 ⟨rfl, hb4⟩; have A4 := hA.keep hb4; have B4 := hB.keep hb4; have X4 := hX.keep hb4; have Y4 := hY.keep hb4; have hb' := hb.trans (hb4.mono hb.size); clear hb4; clear y0 y1 y2 y3 yl; have y0 := Y4.cell 0 _ rfl; have y1 := Y4.cell 1 _ rfl; have y2 := Y4.cell 2 _ rfl; have y3 := Y4.cell 3 _ rfl; have z0 := Y4.free 0; have z1 := Y4.free 1; have z2 := Y4.free 2; have z3 := Y4.free 3; have yl := Y4.lt)
              go_roundw
              case rel => exact ⟨j + 1, by omega, by go_num, ((((A4.other n2 _).other n2 _).other n2 _).other n2 _).alloc _, ((((B4.other n3 _).other n3 _).other n3 _).other n3 _).alloc _, ((((X4.other n1 _).other n1 _).other n1 _).other n1 _).alloc _, by rw [hs2.out]; exact ((((Y4.set 0 _).set 1 _).set 2 _).set 3 _).alloc _, ((((hb'.setCell (p := ⟨_, _, none⟩) hg0 _).setCell (p := ⟨_, _, none⟩) hg0 _).setCell (p := ⟨_, _, none⟩) hg0 _).setCell (p := ⟨_, _, none⟩) hg0 _).alloc (by simpa using hb'.size) _⟩
              case measure => simp [intOf]; omega
            · have hY' : Blk wr w3.heap.size #[.int .i64 0, .int .i64 0, .bool false, .int .i64 0] 25 := by
                have e : 8 - j = 0 := by omega
                rw [e] at hY; exact hY
              have hjl' : ¬ (j : Int) < 8 := by omega
              clear hY hjl
              have a0 := hA.cell 0 _ rfl
              have a1 := hA.cell 1 _ rfl
              have a2 := hA.cell 2 _ rfl
              have a3 := hA.cell 3 _ rfl
              have za0 := hA.free 0
              have za1 := hA.free 1
              have za2 := hA.free 2
              have za3 := hA.free 3
              have al := hA.lt
              have b0 := hB.cell 0 _ rfl
              have b1 := hB.cell 1 _ rfl
              have b2 := hB.cell 2 _ rfl
              have b3 := hB.cell 3 _ rfl
              have zb0 := hB.free 0
              have zb1 := hB.free 1
              have zb2 := hB.free 2
              have zb3 := hB.free 3
              have bl := hB.lt
              have x0 := hX.cell 0 _ rfl
              have x1 := hX.cell 1 _ rfl
              have x2 := hX.cell 2 _ rfl
              have x3 := hX.cell 3 _ rfl
              have xl := hX.lt
              have y0 := hY'.cell 0 _ rfl
              have y1 := hY'.cell 1 _ rfl
              have y2 := hY'.cell 2 _ rfl
              have y3 := hY'.cell 3 _ rfl
              have yl := hY'.lt
              go_wp2
              go_region
              all_goals
                go_wp2
                go_roundw
                case rel => exact ⟨k + 1, by omega, by go_num, ⟨x, hx2, (((((((((hA.set 0 _).set 1 _).set 2 _).set 3 _).other (show w0.heap.size ≠ w0.heap.size + 1 by omega) _).other (show w0.heap.size ≠ w0.heap.size + 1 by omega) _).other (show w0.heap.size ≠ w0.heap.size + 1 by omega) _).other (show w0.heap.size ≠ w0.heap.size + 1 by omega) _)).drew⟩, ((((((((hB.other (show w0.heap.size + 1 ≠ w0.heap.size by omega) _).other (show w0.heap.size + 1 ≠ w0.heap.size by omega) _).other (show w0.heap.size + 1 ≠ w0.heap.size by omega) _).other (show w0.heap.size + 1 ≠ w0.heap.size by omega) _).set 0 _).set 1 _).set 2 _).set 3 _).drew, (((((((((hb.setCell (p := ⟨_, _, none⟩) (Nat.le_refl _) _).setCell (p := ⟨_, _, none⟩) (Nat.le_refl _) _).setCell (p := ⟨_, _, none⟩) (Nat.le_refl _) _).setCell (p := ⟨_, _, none⟩) (Nat.le_refl _) _).setCell (p := ⟨_, _, none⟩) (Nat.le_succ _) _).setCell (p := ⟨_, _, none⟩) (Nat.le_succ _) _).setCell (p := ⟨_, _, none⟩) (Nat.le_succ _) _).setCell (p := ⟨_, _, none⟩) (Nat.le_succ _) _)).drew⟩
                case measure => simp [intOf]; omega
      · have hlt' : ¬ (k : Int) < m := by omega
        clear hlt
        by_cases h127 : 127 < r
        · have CSt' : Hid (∀ w, Calls Try.prog 6 #[.agg #[.int .i64 0, .int .i64 (r : Int), .bool false, .int .i64 0]] w fun e w' => e = .returned (.tuple #[.int .i64 2, .int .i64 0]) ∧ Below w.heap.size w w') := Lib.hid (fun w => by
            have := CSt.out r w hr
            rwa [show stateOn 0 r = 2 by unfold stateOn; rw [if_pos (.inr h127)]] at this)
          have hd : decide ((127 : Int) < (r : Int)) = true := by simp; omega
          clear CSt
          have a0 := hA.cell 0 _ rfl
          have a1 := hA.cell 1 _ rfl
          have a2 := hA.cell 2 _ rfl
          have a3 := hA.cell 3 _ rfl
          have al := hA.lt
          go_wp2_with (first
            | (go_at_call 6; (with_reducible refine (CSt'.out _).mono ?_); rintro e w2 ⟨rfl, hb2⟩; have A2 := hA.keep hb2; have B2 := hB.keep hb2; have hb' := hb.trans (hb2.mono hb.size); clear hb2; clear a0 a1 a2 a3 al)
            | (go_at_call 8; (with_reducible refine (CA.out _).mono ?_); rintro e w3 ⟨rfl, hb3⟩; have A3 := A2.keep hb3; have B3 := B2.keep hb3; have hb'' := hb'.trans (hb3.mono hb'.size); clear hb3; have a0 := A3.cell 0 _ rfl; have a1 := A3.cell 1 _ rfl; have a2 := A3.cell 2 _ rfl; have a3 := A3.cell 3 _ rfl; have al := A3.lt; have b0 := B3.cell 0 _ rfl; have b1 := B3.cell 1 _ rfl; have b2 := B3.cell 2 _ rfl; have b3 := B3.cell 3 _ rfl; have bl := B3.lt))
          go_ret
          exact ⟨rfl, hb''⟩
        · have CSt' : Hid (∀ w, Calls Try.prog 6 #[.agg #[.int .i64 0, .int .i64 (r : Int), .bool false, .int .i64 0]] w fun e w' => e = .returned (.tuple #[.int .i64 1, .int .i64 0]) ∧ Below w.heap.size w w') := Lib.hid (fun w => by
            have := CSt.out r w hr
            rwa [show stateOn 0 r = 1 by unfold stateOn; rw [if_neg (by omega)]] at this)
          have hd : decide ((127 : Int) < (r : Int)) = false := by simp; omega
          clear CSt
          have a0 := hA.cell 0 _ rfl
          have a1 := hA.cell 1 _ rfl
          have a2 := hA.cell 2 _ rfl
          have a3 := hA.cell 3 _ rfl
          have al := hA.lt
          go_wp2_with (first
            | (go_at_call 6; (with_reducible refine (CSt'.out _).mono ?_); rintro e w2 ⟨rfl, hb2⟩; have A2 := hA.keep hb2; have B2 := hB.keep hb2; have hb' := hb.trans (hb2.mono hb.size); clear hb2; clear a0 a1 a2 a3 al)
            | (go_at_call 8; (with_reducible refine (CA.out _).mono ?_); rintro e w3 ⟨rfl, hb3⟩; have A3 := A2.keep hb3; have B3 := B2.keep hb3; have hb'' := hb'.trans (hb3.mono hb'.size); clear hb3; have a0 := A3.cell 0 _ rfl; have a1 := A3.cell 1 _ rfl; have a2 := A3.cell 2 _ rfl; have a3 := A3.cell 3 _ rfl; have al := A3.lt; have b0 := B3.cell 0 _ rfl; have b1 := B3.cell 1 _ rfl; have b2 := B3.cell 2 _ rfl; have b3 := B3.cell 3 _ rfl; have bl := B3.lt))
          go_ret
          exact ⟨rfl, hb''⟩
end Go.Proofs.Ythgbfidghhlldaa
