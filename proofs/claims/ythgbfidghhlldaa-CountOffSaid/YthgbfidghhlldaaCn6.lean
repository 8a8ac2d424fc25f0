/- Layer 6: the law CountOff. -/
import Derived.Test.YthgbfidghhlldaaCn5
namespace Go.Proofs.Ythgbfidghhlldaa
open Go.RowKit Go.Lib Go.Maps

theorem keep_any (K : Int) (hK : K = 2 ∨ K = 4 ∨ K = 6 ∨ K = 7) (t r : Nat) (w : World) (ht : t ≤ 255) (hr : r ≤ 255) : Calls Try.prog 7 #[.agg #[.int .i64 (t : Int), .int .i64 (r : Int), .bool false, .int .i64 0], .int .i64 K] w fun e w' => ∃ x : Nat, x ≤ 255 ∧ e = .returned (.tuple #[.agg #[.int .i64 (t : Int), .int .i64 (x : Int), .bool false, .int .i64 0], .int .i64 0]) ∧ Below w.heap.size w w' := by
  rcases hK with rfl | rfl | rfl | rfl
  · exact (came_any t r w ht hr).mono fun e w' ⟨x, h1, _, _, he, hb⟩ => ⟨x, by omega, he, hb⟩
  · exact (come_any 4 (.inl rfl) t r w ht hr).mono fun e w' ⟨x, _, h, he, hb⟩ => ⟨x, h, he, hb⟩
  · exact (come_any 6 (.inr rfl) t r w ht hr).mono fun e w' ⟨x, _, h, he, hb⟩ => ⟨x, h, he, hb⟩
  · exact (step_reston t r w ht hr).mono fun e w' ⟨he, hb⟩ => ⟨r, hr, he, hb⟩
/-- what an error in sending makes of a count of t -/
def ErrTo (t r : Nat) (a b : Int) (o : Bool) (n : Int) : Prop := (t + 8 ≤ 255 ∧ a = (t : Int) + 8 ∧ b = (r : Int) ∧ o = false ∧ n = 0) ∨ (255 < t + 8 ∧ a = 0 ∧ b = 0 ∧ o = true ∧ n = 128)
theorem err_any (K : Int) (hK : K = 3 ∨ K = 5) (t r : Nat) (w : World) (ht : t ≤ 255) (hr : r ≤ 255) : Calls Try.prog 7 #[.agg #[.int .i64 (t : Int), .int .i64 (r : Int), .bool false, .int .i64 0], .int .i64 K] w fun e w' => ∃ a b o n, ErrTo t r a b o n ∧ e = .returned (.tuple #[.agg #[.int .i64 a, .int .i64 b, .bool o, .int .i64 n], .int .i64 0]) ∧ Below w.heap.size w w' := by
  rcases hK with rfl | rfl
  · by_cases h : t + 8 ≤ 255
    · exact (step_err3lo t r w h hr).mono fun e w' ⟨he, hb⟩ => ⟨_, _, _, _, .inl ⟨h, rfl, rfl, rfl, rfl⟩, he, hb⟩
    · exact (step_err3hi t r w ht (by omega) hr).mono fun e w' ⟨he, hb⟩ => ⟨_, _, _, _, .inr ⟨by omega, rfl, rfl, rfl, rfl⟩, he, hb⟩
  · by_cases h : t + 8 ≤ 255
    · exact (step_err5lo t r w h hr).mono fun e w' ⟨he, hb⟩ => ⟨_, _, _, _, .inl ⟨h, rfl, rfl, rfl, rfl⟩, he, hb⟩
    · exact (step_err5hi t r w ht (by omega) hr).mono fun e w' ⟨he, hb⟩ => ⟨_, _, _, _, .inr ⟨by omega, rfl, rfl, rfl, rfl⟩, he, hb⟩
theorem off_any (K : Int) (h0 : 1 ≤ K) (h6 : K ≤ 6) (n : Nat) (w : World) (h1 : 1 ≤ n) (hn : n ≤ 128) : Calls Try.prog 7 #[.agg #[.int .i64 0, .int .i64 0, .bool true, .int .i64 (n : Int)], .int .i64 K] w fun e w' => e = .returned (.tuple #[.agg #[.int .i64 0, .int .i64 0, .bool true, .int .i64 (n : Int)], .int .i64 0]) ∧ Below w.heap.size w w' := by
  have hK : K = 1 ∨ K = 2 ∨ K = 3 ∨ K = 4 ∨ K = 5 ∨ K = 6 := by omega
  rcases hK with rfl | rfl | rfl | rfl | rfl | rfl
  · exact step_off1 n w h1 hn
  · exact step_off2 n w h1 hn
  · exact step_off3 n w h1 hn
  · exact step_off4 n w h1 hn
  · exact step_off5 n w h1 hn
  · exact step_off6 n w h1 hn

/-- a count behind k of its 32 errors -/
def OffRel (w : World) (k : Nat) (wr : World) : Prop :=
  ∃ (a b : Int) (o : Bool) (n : Int), Blk wr w.heap.size #[.int .i64 a, .int .i64 b, .bool o, .int .i64 n] 25 ∧ (k < 32 → ∃ r : Nat, r ≤ 255 ∧ a = ((8 * k : Nat) : Int) ∧ b = (r : Int) ∧ o = false ∧ n = 0) ∧ (k = 32 → a = 0 ∧ b = 0 ∧ o = true ∧ n = 128) ∧ Below w.heap.size w wr
theorem OffRel.next {w : World} {k r : Nat} {wr : World} {a b : Int} {o : Bool} {n : Int} (hk : k < 32) (hr : r ≤ 255) (h : ErrTo (8 * k) r a b o n) (hB : Blk wr w.heap.size #[.int .i64 a, .int .i64 b, .bool o, .int .i64 n] 25) (hb : Below w.heap.size w wr) : OffRel w (k + 1) wr := by
  refine ⟨a, b, o, n, hB, fun h32 => ?_, fun h32 => ?_, hb⟩
  · rcases h with ⟨h, rfl, rfl, rfl, rfl⟩ | ⟨h, _⟩
    · exact ⟨r, hr, by omega, rfl, rfl, rfl⟩
    · omega
  · rcases h with ⟨h, _⟩ | ⟨_, h⟩
    · omega
    · exact h

theorem mod_small (z m : Int) (hm : 0 < m) : -(m - 1) ≤ z.tmod m ∧ z.tmod m ≤ m - 1 := by
  have h1 := Int.tmod_lt_of_pos z hm
  have h2 := Int.lt_tmod_of_pos z hm
  omega
/-- a count that is off, behind k rests -/
def OffRel2 (w : World) (k : Nat) (wr : World) : Prop :=
  ∃ (a b : Int) (o : Bool) (n : Int), Blk wr w.heap.size #[.int .i64 a, .int .i64 b, .bool o, .int .i64 n] 25 ∧ (k < 128 → a = 0 ∧ b = 0 ∧ o = true ∧ n = ((128 - k : Nat) : Int)) ∧ (k = 128 → a = 0 ∧ b = 0 ∧ o = false ∧ n = 0) ∧ Below w.heap.size w wr
set_option maxRecDepth 100000 in
set_option maxHeartbeats 16000000 in
theorem off_law (A : Option Addr) (n cap : Nat) (A1 : Option Addr) (n1 c1 : Nat) (w : World) (hin : InRow IsInt w A n cap) (hin1 : InRow IsBool w A1 n1 c1) : Calls Try.prog 3 #[.slice A n cap, .slice A1 n1 c1] w fun e w' => e = .returned (.bool true) ∧ Below w.heap.size w w' := by
  have CA : Hid (∀ w, Calls Try.prog 8 #[] w fun e w' => e = .returned (.bool true) ∧ Below w.heap.size w w') := Lib.hid alive6_any
  have CSt : Hid (∀ (t r : Nat) w, t ≤ 255 → r ≤ 255 → Calls Try.prog 6 #[.agg #[.int .i64 (t : Int), .int .i64 (r : Int), .bool false, .int .i64 0]] w fun e w' => ∃ s : Int, (s == 3) = false ∧ e = .returned (.tuple #[.int .i64 s, .int .i64 0]) ∧ Below w.heap.size w w') := Lib.hid (fun t r w ht hr => (cstate_on t r w ht hr).mono fun e w' ⟨he, hb⟩ => ⟨_, by unfold stateOn; split <;> decide, he, hb⟩)
  have CSo : Hid (∀ (q : Nat) w, 1 ≤ q → q ≤ 128 → Calls Try.prog 6 #[.agg #[.int .i64 0, .int .i64 0, .bool true, .int .i64 (q : Int)]] w fun e w' => e = .returned (.tuple #[.int .i64 3, .int .i64 0]) ∧ Below w.heap.size w w') := Lib.hid (fun q w h1 hn => cstate_off q w h1 hn)
  have CK : Hid (∀ (K : Int) (t r : Nat) w, (K = 2 ∨ K = 4 ∨ K = 6 ∨ K = 7) → t ≤ 255 → r ≤ 255 → Calls Try.prog 7 #[.agg #[.int .i64 (t : Int), .int .i64 (r : Int), .bool false, .int .i64 0], .int .i64 K] w fun e w' => ∃ x : Nat, x ≤ 255 ∧ e = .returned (.tuple #[.agg #[.int .i64 (t : Int), .int .i64 (x : Int), .bool false, .int .i64 0], .int .i64 0]) ∧ Below w.heap.size w w') := Lib.hid (fun K t r w hK ht hr => keep_any K hK t r w ht hr)
  have CE : Hid (∀ (K : Int) (t r : Nat) w, (K = 3 ∨ K = 5) → t ≤ 255 → r ≤ 255 → Calls Try.prog 7 #[.agg #[.int .i64 (t : Int), .int .i64 (r : Int), .bool false, .int .i64 0], .int .i64 K] w fun e w' => ∃ a b o n, ErrTo t r a b o n ∧ e = .returned (.tuple #[.agg #[.int .i64 a, .int .i64 b, .bool o, .int .i64 n], .int .i64 0]) ∧ Below w.heap.size w w') := Lib.hid (fun K t r w hK ht hr => err_any K hK t r w ht hr)
  have CR1 : Hid (∀ w, Calls Try.prog 7 #[.agg #[.int .i64 0, .int .i64 0, .bool true, .int .i64 1], .int .i64 7] w fun e w' => e = .returned (.tuple #[.agg #[.int .i64 0, .int .i64 0, .bool false, .int .i64 0], .int .i64 0]) ∧ Below w.heap.size w w') := Lib.hid step_rest1
  have CR2 : Hid (∀ (p : Nat) w, 1 ≤ p → p ≤ 127 → Calls Try.prog 7 #[.agg #[.int .i64 0, .int .i64 0, .bool true, .int .i64 ((p : Nat) + 1 : Int)], .int .i64 7] w fun e w' => e = .returned (.tuple #[.agg #[.int .i64 0, .int .i64 0, .bool true, .int .i64 (p : Int)], .int .i64 0]) ∧ Below w.heap.size w w') := Lib.hid (fun p w h1 h2 => step_rest2 p w h1 h2)
  have CO : Hid (∀ (K : Int) (p : Nat) w, 1 ≤ K → K ≤ 6 → 1 ≤ p → p ≤ 128 → Calls Try.prog 7 #[.agg #[.int .i64 0, .int .i64 0, .bool true, .int .i64 (p : Int)], .int .i64 K] w fun e w' => e = .returned (.tuple #[.agg #[.int .i64 0, .int .i64 0, .bool true, .int .i64 (p : Int)], .int .i64 0]) ∧ Below w.heap.size w w') := Lib.hid (fun K p w h0 h6 h1 h2 => off_any K h0 h6 p w h1 h2)
  go_enter Try.func3, Try.ntmps3
  go_wp2
  obtain ⟨w0, rfl⟩ : ∃ w0 : World, w0 = w := ⟨_, rfl⟩
  go_loopw [23] (fun i wr => ∃ k : Nat, k ≤ 32 ∧ i = .int .i64 k ∧ OffRel w0 k wr) (fun i _ => 32 - (intOf i).toNat)
  case atStart => exact ⟨0, by omega, rfl, 0, 0, false, 0, blk_new w0 _ _ _ rfl, fun _ => ⟨0, by omega, rfl, rfl, rfl, rfl⟩, fun h => by omega, (Below.refl _ _).alloc (Nat.le_refl _) _⟩
  case round =>
    obtain ⟨k, hk, rfl, a, b, o, q, hC, hlo, hhi, hb⟩ := hrel
    by_cases hlt : k < 32
    · obtain ⟨r, hr, rfl, rfl, rfl, rfl⟩ := hlo hlt
      obtain ⟨t, ht⟩ : ∃ t, t = 8 * k := ⟨_, rfl⟩
      rw [← ht] at hC
      have hk8 : t ≤ 255 := by omega
      have HT := Lib.hid ht
      clear hlo hhi ht
      have c0 := hC.cell 0 _ rfl
      have c1 := hC.cell 1 _ rfl
      have c2 := hC.cell 2 _ rfl
      have c3 := hC.cell 3 _ rfl
      have cl := hC.lt
      go_upto_if 40 with (first
        | (go_at_call 6; (with_reducible refine (CSt.out _ _ _ hk8 hr).mono ?_); rintro e w1 ⟨s, hs, rfl, hb1⟩))
      have C1 := hC.keep hb1
      have hb' := hb.trans (hb1.mono hb.size)
      clear hb1 hC hb c0 c1 c2 c3 cl
      go_cut [] (fun wd => (∃ x : Nat, x ≤ 255 ∧ Blk wd w0.heap.size #[.int .i64 (t : Int), .int .i64 (x : Int), .bool false, .int .i64 0] 25) ∧ Below w0.heap.size w0 wd)
      case first =>
        by_cases hkn : k < n
        · obtain ⟨bb, oo, v, rfl, hbl, ⟨z, rfl, hz1, hz2⟩, hcell⟩ := (hin.keep hb').at_ k hkn
          go_upto_region 9 with fail
          go_cut [9] (fun v wd => ∃ K : Int, (K = 2 ∨ K = 4 ∨ K = 6 ∨ K = 7) ∧ v = .int .i64 K ∧ Below w1.heap.size w1 wd)
          case first =>
            obtain ⟨d, hd⟩ : ∃ d, d = z.tmod 4 := ⟨_, rfl⟩
            have hd1 : -3 ≤ d ∧ d ≤ 3 := by rw [hd]; exact mod_small z 4 (by omega)
            obtain ⟨hd1, hd2⟩ := hd1
            have hd3 : 1 ≤ d + 4 := by omega
            have hd5 : (d + 4).tmod 4 = (d + 4) % 4 := Int.tmod_eq_emod_of_nonneg (by omega)
            have hj : (d + 4) % 4 = 0 ∨ (d + 4) % 4 = 1 ∨ (d + 4) % 4 = 2 ∨ (d + 4) % 4 = 3 := by omega
            replace hd := hd.symm
            rcases hj with hj | hj | hj | hj
            · go_wp2
              go_meet
              case rel => exact ⟨2, by omega, rfl, (Below.refl _ _).alloc (Nat.le_refl _) _⟩
            · go_wp2
              go_meet
              case rel => exact ⟨4, by omega, rfl, (Below.refl _ _).alloc (Nat.le_refl _) _⟩
            · go_wp2
              go_meet
              case rel => exact ⟨6, by omega, rfl, (Below.refl _ _).alloc (Nat.le_refl _) _⟩
            · go_wp2
              go_meet
              case rel => exact ⟨7, by omega, rfl, (Below.refl _ _).alloc (Nat.le_refl _) _⟩
          case rest =>
            obtain ⟨K, hK, rfl, hbc⟩ := hcut
            have C2 := C1.keep hbc
            have hb2 := hb'.trans (hbc.mono hb'.size)
            clear hbc C1 hcell hbl hz1 hz2
            have c0 := C2.cell 0 _ rfl
            have c1 := C2.cell 1 _ rfl
            have c2 := C2.cell 2 _ rfl
            have c3 := C2.cell 3 _ rfl
            have cl := C2.lt
            go_wp2_with (go_at_call 7; (with_reducible refine (CK.out _ _ _ _ hK hk8 hr).mono ?_); rintro e w3 ⟨x, hx, rfl, hb3⟩; have C3 := C2.keep hb3; have hb4 := hb2.trans (hb3.mono hb2.size); clear hb3; clear c0 c1 c2 c3 cl; have c0 := C3.cell 0 _ rfl; have c1 := C3.cell 1 _ rfl; have c2 := C3.cell 2 _ rfl; have c3 := C3.cell 3 _ rfl; have z0 := C3.free 0; have z1 := C3.free 1; have z2 := C3.free 2; have z3 := C3.free 3; have cl := C3.lt)
            go_meet
            case rel => exact ⟨⟨x, hx, (((((C3.set 0 _).set 1 _).set 2 _).set 3 _)).alloc _⟩, (((((hb4.setCell (p := ⟨_, _, none⟩) (Nat.le_refl _) _).setCell (p := ⟨_, _, none⟩) (Nat.le_refl _) _).setCell (p := ⟨_, _, none⟩) (Nat.le_refl _) _).setCell (p := ⟨_, _, none⟩) (Nat.le_refl _) _)).alloc (by simpa using hb4.size) _⟩
        · go_wp2
          go_meet
          case rel => exact ⟨⟨r, hr, C1⟩, hb'⟩
      case rest =>
        obtain ⟨⟨x, hx, C2⟩, hb2⟩ := hcut
        clear C1 hb' hr
        go_upto_region 15 with fail
        go_cut [76] (fun v wd => ∃ q : Bool, v = .bool q ∧ wd = wc)
        case first =>
          by_cases hkn : k < n1
          · obtain ⟨bb, oo, v, rfl, hbl, ⟨q, rfl⟩, hcell⟩ := (hin1.keep hb2).at_ k hkn
            go_wp2
            go_meet
            case rel => exact ⟨q, rfl, rfl⟩
          · go_wp2
            go_meet
            case rel => exact ⟨false, rfl, rfl⟩
        case rest =>
        obtain ⟨q, rfl, rfl⟩ := hcut
        go_upto_if 76 with (fail)
        go_cut [12] (fun v we => ∃ K : Int, (K = 3 ∨ K = 5) ∧ v = .int .i64 K ∧ we = wc)
        case first =>
          cases q
          · go_wp2
            go_meet
            case rel => exact ⟨3, .inl rfl, rfl, rfl⟩
          · go_wp2
            go_meet
            case rel => exact ⟨5, .inr rfl, rfl, rfl⟩
        case rest =>
          obtain ⟨K, hK, rfl, rfl⟩ := hcut
          have c0 := C2.cell 0 _ rfl
          have c1 := C2.cell 1 _ rfl
          have c2 := C2.cell 2 _ rfl
          have c3 := C2.cell 3 _ rfl
          have cl := C2.lt
          go_wp2_with (go_at_call 7; (with_reducible refine (CE.out _ _ _ _ hK hk8 hx).mono ?_); rintro e w3 ⟨a, b, o, q2, hE, rfl, hb3⟩; have C3 := C2.keep hb3; have hb4 := hb2.trans (hb3.mono hb2.size); clear hb3; clear c0 c1 c2 c3 cl; have c0 := C3.cell 0 _ rfl; have c1 := C3.cell 1 _ rfl; have c2 := C3.cell 2 _ rfl; have c3 := C3.cell 3 _ rfl; have z0 := C3.free 0; have z1 := C3.free 1; have z2 := C3.free 2; have z3 := C3.free 3; have cl := C3.lt)
          go_roundw
          case rel => exact ⟨k + 1, by omega, by go_num, OffRel.next hlt hx (HT.out ▸ hE) ((((((C3.set 0 _).set 1 _).set 2 _).set 3 _)).alloc _) ((((((hb4.setCell (p := ⟨_, _, none⟩) (Nat.le_refl _) _).setCell (p := ⟨_, _, none⟩) (Nat.le_refl _) _).setCell (p := ⟨_, _, none⟩) (Nat.le_refl _) _).setCell (p := ⟨_, _, none⟩) (Nat.le_refl _) _)).alloc (by simpa using hb4.size) _)⟩
          case measure => simp [intOf]; omega
    · have hlt' : ¬ (k : Int) < 32 := by omega
      obtain ⟨rfl, rfl, rfl, rfl⟩ := hhi (by omega)
      clear hlo hhi hlt
      go_wp2
      obtain ⟨wo, rfl⟩ : ∃ wo : World, wo = wr := ⟨_, rfl⟩
      go_loopw [87] (fun i wr => ∃ k : Nat, k ≤ 128 ∧ i = .int .i64 k ∧ OffRel2 w0 k wr) (fun i _ => 128 - (intOf i).toNat)
      case atStart => exact ⟨0, by omega, rfl, ⟨0, 0, true, 128, hC, fun _ => ⟨rfl, rfl, rfl, rfl⟩, fun h => by omega, hb⟩⟩
      case round =>
        clear hC hb
        obtain ⟨j, hj, rfl, a, b, o, q, hC, hlo, hhi, hb⟩ := hrel
        by_cases hlt : j < 128
        · obtain ⟨rfl, rfl, rfl, rfl⟩ := hlo hlt
          obtain ⟨m, hm⟩ : ∃ m, m = 128 - j := ⟨_, rfl⟩
          rw [← hm] at hC
          have hm1 : 1 ≤ m := by omega
          have hm2 : m ≤ 128 := by omega
          have HM := Lib.hid hm
          clear hlo hhi hm
          have c0 := hC.cell 0 _ rfl
          have c1 := hC.cell 1 _ rfl
          have c2 := hC.cell 2 _ rfl
          have c3 := hC.cell 3 _ rfl
          have cl := hC.lt
          go_upto_if 104 with (first
            | (go_at_call 6; (with_reducible refine (CSo.out _ _ hm1 hm2).mono ?_); rintro e w1 ⟨rfl, hb1⟩))
          have C1 := hC.keep hb1
          have hb' := hb.trans (hb1.mono hb.size)
          clear hb1 hC hb c0 c1 c2 c3 cl
          go_cut [] (fun wd => Blk wd w0.heap.size #[.int .i64 0, .int .i64 0, .bool true, .int .i64 (m : Int)] 25 ∧ Below w0.heap.size w0 wd)
          case first =>
            by_cases hkn : j < n
            · obtain ⟨bb, oo, v, rfl, hbl, ⟨z, rfl, hz1, hz2⟩, hcell⟩ := (hin.keep hb').at_ j hkn
              have c0 := C1.cell 0 _ rfl
              have c1 := C1.cell 1 _ rfl
              have c2 := C1.cell 2 _ rfl
              have c3 := C1.cell 3 _ rfl
              have cl := C1.lt
              obtain ⟨d, hd⟩ : ∃ d, d = z.tmod 6 := ⟨_, rfl⟩
              have hd1 : -5 ≤ d ∧ d ≤ 5 := by rw [hd]; exact mod_small z 6 (by omega)
              obtain ⟨hd1, hd2⟩ := hd1
              obtain ⟨y, hy⟩ : ∃ y, y = (d + 6).tmod 6 := ⟨_, rfl⟩
              have hy1 : 0 ≤ y ∧ y ≤ 5 := by
                rw [hy, Int.tmod_eq_emod_of_nonneg (by omega)]; omega
              obtain ⟨hy1, hy2⟩ := hy1
              have hj0 : (0 : Int) ≤ (j : Int) := by omega
              have CO' : Hid (∀ w, Calls Try.prog 7 #[.agg #[.int .i64 0, .int .i64 0, .bool true, .int .i64 (m : Int)], .int .i64 (y + 1)] w fun e w' => e = .returned (.tuple #[.agg #[.int .i64 0, .int .i64 0, .bool true, .int .i64 (m : Int)], .int .i64 0]) ∧ Below w.heap.size w w') := Lib.hid (fun w => CO.out (y + 1) m w (by omega) (by omega) hm1 hm2)
              have hw1 : IntKind.i64.wrap (d + 6) = d + 6 := IntWalk.i64_in _ (by omega)
              have hw3 : IntKind.i64.wrap (y + 1) = y + 1 := IntWalk.i64_in _ (by omega)
              replace hd := hd.symm
              replace hy := hy.symm
              have hjn : (j : Int).toNat = j := Int.toNat_natCast j
              clear hm1 hm2 hz1 hz2 hj hd1 hd2 hy1 hy2
              go_upto_region 29 with fail
              go_cut [18, 19] (fun u v wd => ∃ gd, u = .pointer (some ⟨gd, 0, none⟩) ∧ v = .int .i64 0 ∧ Blk wd gd #[.int .i64 0, .int .i64 0, .bool true, .int .i64 (m : Int)] 25 ∧ Blk wd w0.heap.size #[.int .i64 0, .int .i64 0, .bool true, .int .i64 (m : Int)] 25 ∧ Below w0.heap.size w0 wd)
              case first =>
                have hne : w0.heap.size ≠ w1.heap.size := Nat.ne_of_lt cl
                go_region_with (first
                  | (go_at_call 7; (with_reducible refine (CO'.out _).mono ?_); rintro e w2 ⟨rfl, hb2⟩; obtain ⟨hc2, hf2⟩ := bcell hb2))
                all_goals
                  go_wp2
                  go_meet
                  case rel => first
                    | (have hq : Below w1.drew.heap.size w1.drew w2 := by with_reducible exact hb2
                       exact ⟨_, rfl, rfl, blk_new w2 _ _ _ rfl, (C1.drew.keep hq).alloc _, (hb'.drew.trans (hq.mono hb'.size)).alloc (Nat.le_trans hb'.size hq.size) _⟩
                      )
                    | (have hq : Below (w1.alloc (.cells #[.int .i64 0, .int .i64 0, .bool false, .int .i64 0] 25)).drew.heap.size (w1.alloc (.cells #[.int .i64 0, .int .i64 0, .bool false, .int .i64 0] 25)).drew w2 := by with_reducible exact hb2
                       exact ⟨_, rfl, rfl, ((((((blk_new w1 #[.int .i64 0, .int .i64 0, .bool false, .int .i64 0] 25 _ rfl).drew.keep hq).set 0 _).set 1 _).set 2 _).set 3 _), ((((((C1.alloc _).drew.keep hq).other hne _).other hne _).other hne _).other hne _), ((((((hb'.alloc hb'.size _).drew.trans (hq.mono (by have := hb'.size; simp; omega))).setCell (p := ⟨_, _, none⟩) hb'.size _).setCell (p := ⟨_, _, none⟩) hb'.size _).setCell (p := ⟨_, _, none⟩) hb'.size _).setCell (p := ⟨_, _, none⟩) hb'.size _)⟩
                      )
              case rest =>
                obtain ⟨gd, rfl, rfl, D2, C2, hb2⟩ := hcut
                have c0 := C2.cell 0 _ rfl
                have c1 := C2.cell 1 _ rfl
                have c2 := C2.cell 2 _ rfl
                have c3 := C2.cell 3 _ rfl
                have cl := C2.lt
                have d0 := D2.cell 0 _ rfl
                have d1 := D2.cell 1 _ rfl
                have d2 := D2.cell 2 _ rfl
                have d3 := D2.cell 3 _ rfl
                have dl := D2.lt
                go_wp2
                go_meet
                case rel => exact ⟨C2, hb2⟩
            · go_wp2
              go_meet
              case rel => exact ⟨C1, hb'⟩
          case rest =>
            obtain ⟨C2, hb2⟩ := hcut
            have c0 := C2.cell 0 _ rfl
            have c1 := C2.cell 1 _ rfl
            have c2 := C2.cell 2 _ rfl
            have c3 := C2.cell 3 _ rfl
            have cl := C2.lt
            clear C1 hb'
            rcases Nat.lt_or_ge 1 m with h1 | h1
            · obtain ⟨p, rfl⟩ : ∃ p, m = p + 1 := ⟨m - 1, by omega⟩
              go_wp2_with (go_at_call 7; (with_reducible refine (CR2.out _ _ (by omega) (by omega)).mono ?_); rintro e w3 ⟨rfl, hb3⟩; have C3 := C2.keep hb3; have hb4 := hb2.trans (hb3.mono hb2.size); clear hb3; clear c0 c1 c2 c3 cl; have c0 := C3.cell 0 _ rfl; have c1 := C3.cell 1 _ rfl; have c2 := C3.cell 2 _ rfl; have c3 := C3.cell 3 _ rfl; have z0 := C3.free 0; have z1 := C3.free 1; have z2 := C3.free 2; have z3 := C3.free 3; have cl := C3.lt)
              go_roundw
              case rel => exact ⟨j + 1, by omega, by go_num, _, _, _, _, ((((((C3.set 0 _).set 1 _).set 2 _).set 3 _)).alloc _), fun _ => ⟨rfl, rfl, rfl, by have := HM.out; omega⟩, fun h => by have := HM.out; omega, ((((((hb4.setCell (p := ⟨_, _, none⟩) (Nat.le_refl _) _).setCell (p := ⟨_, _, none⟩) (Nat.le_refl _) _).setCell (p := ⟨_, _, none⟩) (Nat.le_refl _) _).setCell (p := ⟨_, _, none⟩) (Nat.le_refl _) _)).alloc (by simpa using hb4.size) _)⟩
              case measure => simp [intOf]; omega
            · obtain rfl : m = 1 := by omega
              go_wp2_with (go_at_call 7; (with_reducible refine (CR1.out _).mono ?_); rintro e w3 ⟨rfl, hb3⟩; have C3 := C2.keep hb3; have hb4 := hb2.trans (hb3.mono hb2.size); clear hb3; clear c0 c1 c2 c3 cl; have c0 := C3.cell 0 _ rfl; have c1 := C3.cell 1 _ rfl; have c2 := C3.cell 2 _ rfl; have c3 := C3.cell 3 _ rfl; have z0 := C3.free 0; have z1 := C3.free 1; have z2 := C3.free 2; have z3 := C3.free 3; have cl := C3.lt)
              go_roundw
              case rel => exact ⟨j + 1, by omega, by go_num, _, _, _, _, ((((((C3.set 0 _).set 1 _).set 2 _).set 3 _)).alloc _), fun h => by have := HM.out; omega, fun _ => ⟨rfl, rfl, rfl, rfl⟩, ((((((hb4.setCell (p := ⟨_, _, none⟩) (Nat.le_refl _) _).setCell (p := ⟨_, _, none⟩) (Nat.le_refl _) _).setCell (p := ⟨_, _, none⟩) (Nat.le_refl _) _).setCell (p := ⟨_, _, none⟩) (Nat.le_refl _) _)).alloc (by simpa using hb4.size) _)⟩
              case measure => simp [intOf]; omega
        · have hlt' : ¬ (j : Int) < 128 := by omega
          obtain ⟨rfl, rfl, rfl, rfl⟩ := hhi (by omega)
          clear hlo hhi hlt
          go_wp2_with (go_at_call 8; (with_reducible refine (CA.out _).mono ?_); rintro e w3 ⟨rfl, hb3⟩; have C3 := hC.keep hb3; have hb4 := hb.trans (hb3.mono hb.size); clear hb3; have c0 := C3.cell 0 _ rfl; have c1 := C3.cell 1 _ rfl; have c2 := C3.cell 2 _ rfl; have c3 := C3.cell 3 _ rfl; have cl := C3.lt)
          go_ret
          exact ⟨rfl, hb4⟩
end Go.Proofs.Ythgbfidghhlldaa
