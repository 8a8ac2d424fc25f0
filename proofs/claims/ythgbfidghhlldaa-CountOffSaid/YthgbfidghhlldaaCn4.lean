/- Layer 6: the law CountTurns. -/
import Derived.Test.YthgbfidghhlldaaCn3
namespace Go.Proofs.Ythgbfidghhlldaa
open Go.RowKit Go.Lib Go.Maps

theorem turns_alive (t r : Int) (o : Bool) (n : Int) (w : World) (q : Bool) (hq : q = false ∨ o = true)
    (CR : Hid (∀ w, Calls Try.prog 9 #[.agg #[.int .i64 t, .int .i64 r, .bool o, .int .i64 n]] w fun e w' => e = .returned (.bool q) ∧ w' = w.alloc (.cells #[.int .i64 t, .int .i64 r, .bool o, .int .i64 n] 25))) :
    Calls Try.prog 4 #[.agg #[.int .i64 t, .int .i64 r, .bool o, .int .i64 n]] w fun e w' => e = .returned (.bool true) ∧ Below w.heap.size w w' := by
  have CA : Hid (∀ w, Calls Try.prog 8 #[] w fun e w' => e = .returned (.bool true) ∧ Below w.heap.size w w') := Lib.hid alive6_any
  cases q
  · clear hq
    go_enter Try.func4, Try.ntmps4
    go_wp2_with (first
      | (go_at_call 9; (with_reducible refine (CR.out _).mono ?_); rintro e w' ⟨rfl, rfl⟩)
      | (go_at_call 8; (with_reducible refine (CA.out _).mono ?_); rintro e w1 ⟨rfl, hb⟩))
    go_ret
    exact ⟨rfl, (((Below.refl w.heap.size w).alloc (Nat.le_refl _) _).alloc (by simp) _).trans (hb.mono (by simp; omega))⟩
  · obtain rfl : o = true := by rcases hq with h | h; cases h; exact h
    clear hq
    go_enter Try.func4, Try.ntmps4
    go_wp2_with (first
      | (go_at_call 9; (with_reducible refine (CR.out _).mono ?_); rintro e w' ⟨rfl, rfl⟩)
      | (go_at_call 8; (with_reducible refine (CA.out _).mono ?_); rintro e w1 ⟨rfl, hb⟩))
    go_ret
    exact ⟨rfl, (((Below.refl w.heap.size w).alloc (Nat.le_refl _) _).alloc (by simp) _).trans (hb.mono (by simp; omega))⟩

theorem turns_hi (t r : Nat) (w : World) (ht : t ≤ 255) (hr : r ≤ 255) (h : 247 < t) : Calls Try.prog 4 #[.agg #[.int .i64 (t : Int), .int .i64 (r : Int), .bool false, .int .i64 0]] w fun e w' => e = .returned (.bool true) ∧ Below w.heap.size w w' := by
  have CA : Hid (∀ w, Calls Try.prog 8 #[] w fun e w' => e = .returned (.bool true) ∧ Below w.heap.size w w') := Lib.hid alive6_any
  have CR : Hid (∀ w, Calls Try.prog 9 #[.agg #[.int .i64 (t : Int), .int .i64 (r : Int), .bool false, .int .i64 0]] w fun e w' => e = .returned (.bool true) ∧ w' = w.alloc (.cells #[.int .i64 (t : Int), .int .i64 (r : Int), .bool false, .int .i64 0] 25)) := Lib.hid (fun w => refr6_on t r w ht hr)
  have CS : Hid (∀ w, Calls Try.prog 7 #[.agg #[.int .i64 (t : Int), .int .i64 (r : Int), .bool false, .int .i64 0], .int .i64 3] w fun e w' => e = .returned (.tuple #[.agg #[.int .i64 0, .int .i64 0, .bool true, .int .i64 128], .int .i64 0]) ∧ Below w.heap.size w w') := Lib.hid (fun w => step_err3hi t r w ht (by omega) hr)
  go_enter Try.func4, Try.ntmps4
  go_wp2_with (first
    | (go_at_call 9; (with_reducible refine (CR.out _).mono ?_); rintro e w' ⟨rfl, rfl⟩)
    | (go_at_call 7; (with_reducible refine (CS.out _).mono ?_); rintro e w1 ⟨rfl, hb1⟩; have hW := (((Below.refl w.heap.size w).alloc (Nat.le_refl _) _).alloc (by simp) _).trans (hb1.mono (by simp; omega)); have B1 := ((blk_new w #[.int .i64 (t : Int), .int .i64 (r : Int), .bool false, .int .i64 0] 25 w.heap.size rfl).alloc _).keep hb1; clear hb1; have c0 := B1.cell 0 _ rfl; have c1 := B1.cell 1 _ rfl; have c2 := B1.cell 2 _ rfl; have c3 := B1.cell 3 _ rfl; have cl := B1.lt)
    | (go_at_call 8; (with_reducible refine (CA.out _).mono ?_); rintro e w2 ⟨rfl, hb2⟩; have D2 := (blk_new w1 #[.int .i64 0, .int .i64 0, .bool true, .int .i64 128] 25 w1.heap.size rfl).keep hb2; have hW2 := (hW.alloc hW.size _).trans (hb2.mono (by simp; omega)); clear hb2; have d0 := D2.cell 0 _ rfl; have d1 := D2.cell 1 _ rfl; have d2 := D2.cell 2 _ rfl; have d3 := D2.cell 3 _ rfl; have dl := D2.lt))
  go_ret
  exact ⟨rfl, hW2⟩

def TurnsRel (w : World) (g : Nat) (t r k : Nat) (wr : World) : Prop :=
  Blk wr g #[.int .i64 ((t + 8 - k : Nat) : Int), .int .i64 (r : Int), .bool false, .int .i64 0] 25 ∧ Blk wr w.heap.size #[.int .i64 (t : Int), .int .i64 (r : Int), .bool false, .int .i64 0] 25 ∧ Below w.heap.size w wr ∧ g ≠ w.heap.size
def LowRel (w : World) (g gl : Nat) (t r k : Nat) (wr : World) : Prop :=
  Blk wr g #[.int .i64 (t : Int), .int .i64 (r : Int), .bool false, .int .i64 0] 25 ∧ Blk wr w.heap.size #[.int .i64 (t : Int), .int .i64 (r : Int), .bool false, .int .i64 0] 25 ∧ Below w.heap.size w wr ∧ g ≠ w.heap.size ∧ g ≠ gl ∧ gl ≠ w.heap.size ∧
  ∃ x : Nat, Blk wr gl #[.int .i64 (t : Int), .int .i64 (x : Int), .bool false, .int .i64 0] 25 ∧ x ≤ 255 ∧ (1 ≤ k → x ≤ 127 - k)
theorem came_any (t r : Nat) (w : World) (ht : t ≤ 255) (hr : r ≤ 255) : Calls Try.prog 7 #[.agg #[.int .i64 (t : Int), .int .i64 (r : Int), .bool false, .int .i64 0], .int .i64 2] w fun e w' => ∃ x : Nat, x ≤ r ∧ (x ≤ 126) ∧ (r ≤ 127 → x ≤ r - 1) ∧ e = .returned (.tuple #[.agg #[.int .i64 (t : Int), .int .i64 (x : Int), .bool false, .int .i64 0], .int .i64 0]) ∧ Below w.heap.size w w' := by
  by_cases h : 127 < r
  · exact (step_camehi t r w ht hr h).mono fun e w' ⟨he, hb⟩ => ⟨119, by omega, by omega, by omega, he, hb⟩
  · rcases Nat.eq_zero_or_pos r with h0 | h0
    · subst h0
      exact (step_came0 t w ht).mono fun e w' ⟨he, hb⟩ => ⟨0, by omega, by omega, by omega, he, hb⟩
    · obtain ⟨m, rfl⟩ : ∃ m, r = m + 1 := ⟨r - 1, by omega⟩
      exact (step_came1 t m w ht (by omega)).mono fun e w' ⟨he, hb⟩ => ⟨m, by omega, by omega, by omega, he, hb⟩

set_option maxRecDepth 100000 in
set_option maxHeartbeats 4000000 in
theorem turns_lo (t r : Nat) (w : World) (hr : r ≤ 255) (h : t ≤ 247) : Calls Try.prog 4 #[.agg #[.int .i64 (t : Int), .int .i64 (r : Int), .bool false, .int .i64 0]] w fun e w' => e = .returned (.bool true) ∧ Below w.heap.size w w' := by
  have CA : Hid (∀ w, Calls Try.prog 8 #[] w fun e w' => e = .returned (.bool true) ∧ Below w.heap.size w w') := Lib.hid alive6_any
  have CR : Hid (∀ w, Calls Try.prog 9 #[.agg #[.int .i64 (t : Int), .int .i64 (r : Int), .bool false, .int .i64 0]] w fun e w' => e = .returned (.bool true) ∧ w' = w.alloc (.cells #[.int .i64 (t : Int), .int .i64 (r : Int), .bool false, .int .i64 0] 25)) := Lib.hid (fun w => refr6_on t r w (by omega) hr)
  have CS : Hid (∀ w, Calls Try.prog 7 #[.agg #[.int .i64 (t : Int), .int .i64 (r : Int), .bool false, .int .i64 0], .int .i64 3] w fun e w' => e = .returned (.tuple #[.agg #[.int .i64 ((t : Int) + 8), .int .i64 (r : Int), .bool false, .int .i64 0], .int .i64 0]) ∧ Below w.heap.size w w') := Lib.hid (fun w => step_err3lo t r w (by omega) hr)
  have CT' : Hid (∀ s w, s + 1 ≤ 255 → Calls Try.prog 7 #[.agg #[.int .i64 ((s : Nat) + 1 : Int), .int .i64 (r : Int), .bool false, .int .i64 0], .int .i64 1] w fun e w' => e = .returned (.tuple #[.agg #[.int .i64 (s : Int), .int .i64 (r : Int), .bool false, .int .i64 0], .int .i64 0]) ∧ Below w.heap.size w w') := Lib.hid (fun s w hs => step_sent1 s r w hs hr)
  have CC : Hid (∀ y w, y ≤ 255 → Calls Try.prog 7 #[.agg #[.int .i64 (t : Int), .int .i64 ((y : Nat) : Int), .bool false, .int .i64 0], .int .i64 2] w fun e w' => ∃ x : Nat, x ≤ y ∧ x ≤ 126 ∧ (y ≤ 127 → x ≤ y - 1) ∧ e = .returned (.tuple #[.agg #[.int .i64 (t : Int), .int .i64 (x : Int), .bool false, .int .i64 0], .int .i64 0]) ∧ Below w.heap.size w w') := Lib.hid (fun y w hy => came_any t y w (by omega) hy)
  go_enter Try.func4, Try.ntmps4
  go_wp2_with (first
    | (go_at_call 9; (with_reducible refine (CR.out _).mono ?_); rintro e w' ⟨rfl, rfl⟩)
    | (go_at_call 7; (with_reducible refine (CS.out _).mono ?_); rintro e w1 ⟨rfl, hb1⟩; have hW := (((Below.refl w.heap.size w).alloc (Nat.le_refl _) _).alloc (by simp) _).trans (hb1.mono (by simp; omega)); have B1 := ((blk_new w #[.int .i64 (t : Int), .int .i64 (r : Int), .bool false, .int .i64 0] 25 w.heap.size rfl).alloc _).keep hb1; clear hb1; have c0 := B1.cell 0 _ rfl; have c1 := B1.cell 1 _ rfl; have c2 := B1.cell 2 _ rfl; have c3 := B1.cell 3 _ rfl; have cl := B1.lt))
  go_loopw [33] (fun i wr => ∃ k : Nat, k ≤ 8 ∧ i = .int .i64 k ∧ TurnsRel w w1.heap.size t r k wr) (fun i _ => 8 - (intOf i).toNat)
  case atStart => exact ⟨0, by omega, rfl, blk_new w1 _ _ _ rfl, B1.alloc _, hW.alloc hW.size _, by omega⟩
  case round =>
    obtain ⟨k, hk, rfl, hD, hB, hb, hne⟩ := hrel
    by_cases hlt : k < 8
    · obtain ⟨s, hs⟩ : ∃ s, t + 8 - k = s + 1 := ⟨t + 8 - k - 1, by omega⟩
      rw [hs] at hD
      have hs2 : Hid (t + 8 - (k + 1) = s) := Lib.hid (by omega)
      have hs3 : s + 1 ≤ 255 := by omega
      have d0 := hD.cell 0 _ rfl
      have d1 := hD.cell 1 _ rfl
      have d2 := hD.cell 2 _ rfl
      have d3 := hD.cell 3 _ rfl
      have dl := hD.lt
      go_wp2_with (go_at_call 7; (with_reducible refine (CT'.out _ _ hs3).mono ?_); rintro e w2 ⟨rfl, hb2⟩; have D2 := hD.keep hb2; have B2 := hB.keep hb2; have hb' := hb.trans (hb2.mono hb.size); clear hb2; clear d0 d1 d2 d3 dl; have e0 := D2.cell 0 _ rfl; have e1 := D2.cell 1 _ rfl; have e2 := D2.cell 2 _ rfl; have e3 := D2.cell 3 _ rfl; have z0 := D2.free 0; have z1 := D2.free 1; have z2 := D2.free 2; have z3 := D2.free 3; have el := D2.lt)
      go_roundw
      case rel => exact ⟨k + 1, by omega, by go_num, by rw [hs2.out]; exact ((((D2.set 0 _).set 1 _).set 2 _).set 3 _).alloc _, ((((B2.other (Ne.symm hne) _).other (Ne.symm hne) _).other (Ne.symm hne) _).other (Ne.symm hne) _).alloc _, by
        have hg : w.heap.size ≤ w1.heap.size := hW.size
        exact ((((hb'.setCell (p := ⟨_, _, none⟩) hg _).setCell (p := ⟨_, _, none⟩) hg _).setCell (p := ⟨_, _, none⟩) hg _).setCell (p := ⟨_, _, none⟩) hg _).alloc (by simpa using hb'.size) _, hne⟩
      case measure => simp [intOf]; omega
    · have hD' : Blk wr w1.heap.size #[.int .i64 (t : Int), .int .i64 (r : Int), .bool false, .int .i64 0] 25 := by
        have e : t + 8 - k = t := by omega
        rw [e] at hD; exact hD
      clear hD hk
      have hlt' : ¬ (k : Int) < 8 := by omega
      clear hlt
      obtain ⟨wo, rfl⟩ : ∃ wo : World, wo = wr := ⟨_, rfl⟩
      have d0 := hD'.cell 0 _ rfl
      have d1 := hD'.cell 1 _ rfl
      have d2 := hD'.cell 2 _ rfl
      have d3 := hD'.cell 3 _ rfl
      have dl := hD'.lt
      have b0 := hB.cell 0 _ rfl
      have b1 := hB.cell 1 _ rfl
      have b2 := hB.cell 2 _ rfl
      have b3 := hB.cell 3 _ rfl
      have bl := hB.lt
      go_wp2
      have h0 : LowRel w w1.heap.size wo.heap.size t r 0 (wo.alloc (.cells #[.int .i64 (t : Int), .int .i64 (r : Int), .bool false, .int .i64 0] 25)) := ⟨hD'.alloc _, hB.alloc _, hb.alloc hb.size _, hne, by omega, by omega, r, blk_new wo _ _ _ rfl, hr, by omega⟩
      have hg0 : w.heap.size ≤ wo.heap.size := hb.size
      clear d0 d1 d2 d3 dl b0 b1 b2 b3 bl c0 c1 c2 c3 cl
      clear hD' hB hb B1 hW h
      go_loopw [45] (fun i wq => ∃ k : Nat, k ≤ 128 ∧ i = .int .i64 k ∧ LowRel w w1.heap.size wo.heap.size t r k wq) (fun i _ => 128 - (intOf i).toNat)
      case atStart => exact ⟨0, by omega, rfl, h0⟩
      case round =>
        obtain ⟨k, hk, rfl, hD, hB, hb, hne, hng, hnl, x, hX, hx, hxk⟩ := hrel
        clear h0
        have x0 := hX.cell 0 _ rfl
        have x1 := hX.cell 1 _ rfl
        have x2 := hX.cell 2 _ rfl
        have x3 := hX.cell 3 _ rfl
        have xl := hX.lt
        by_cases hlt : k < 128
        · go_wp2_with (go_at_call 7; (with_reducible refine (CC.out _ _ hx).mono ?_); rintro e w2 ⟨y, hy1, hy2, hy3, rfl, hb2⟩; have D2 := hD.keep hb2; have B2 := hB.keep hb2; have X2 := hX.keep hb2; have hb' := hb.trans (hb2.mono hb.size); clear hb2; clear x0 x1 x2 x3 xl; have x0 := X2.cell 0 _ rfl; have x1 := X2.cell 1 _ rfl; have x2 := X2.cell 2 _ rfl; have x3 := X2.cell 3 _ rfl; have z0 := X2.free 0; have z1 := X2.free 1; have z2 := X2.free 2; have z3 := X2.free 3; have xl := X2.lt; have b0 := B2.cell 0 _ rfl; have b1 := B2.cell 1 _ rfl; have b2 := B2.cell 2 _ rfl; have b3 := B2.cell 3 _ rfl; have bl := B2.lt)
          go_roundw
          case rel => exact ⟨k + 1, by omega, by go_num, ((((D2.other hng _).other hng _).other hng _).other hng _).alloc _, ((((B2.other (Ne.symm hnl) _).other (Ne.symm hnl) _).other (Ne.symm hnl) _).other (Ne.symm hnl) _).alloc _, ((((hb'.setCell (p := ⟨_, _, none⟩) hg0 _).setCell (p := ⟨_, _, none⟩) hg0 _).setCell (p := ⟨_, _, none⟩) hg0 _).setCell (p := ⟨_, _, none⟩) hg0 _).alloc (by simpa using hb'.size) _, hne, hng, hnl, y, ((((X2.set 0 _).set 1 _).set 2 _).set 3 _).alloc _, by omega, fun _ => by
            by_cases h127 : x ≤ 127
            · have := hy3 h127
              rcases Nat.eq_zero_or_pos k with h0 | h0
              · omega
              · have := hxk h0; omega
            · rcases Nat.eq_zero_or_pos k with h0 | h0
              · omega
              · have := hxk h0; omega⟩
          case measure => simp [intOf]; omega
        · obtain rfl : x = 0 := by have := hxk (by omega); omega
          have hlt' : ¬ (k : Int) < 128 := by omega
          clear hlt hxk
          go_wp2_with (go_at_call 8; (with_reducible refine (CA.out _).mono ?_); rintro e w2 ⟨rfl, hb2⟩; have D2 := hD.keep hb2; have B2 := hB.keep hb2; have X2 := hX.keep hb2; have hb' := hb.trans (hb2.mono hb.size); clear hb2; clear x0 x1 x2 x3 xl; have d0 := D2.cell 0 _ rfl; have d1 := D2.cell 1 _ rfl; have d2 := D2.cell 2 _ rfl; have d3 := D2.cell 3 _ rfl; have dl := D2.lt; have x0 := X2.cell 0 _ rfl; have x1 := X2.cell 1 _ rfl; have x2 := X2.cell 2 _ rfl; have x3 := X2.cell 3 _ rfl; have xl := X2.lt; have b0 := B2.cell 0 _ rfl; have b1 := B2.cell 1 _ rfl; have b2 := B2.cell 2 _ rfl; have b3 := B2.cell 3 _ rfl; have bl := B2.lt)
          go_ret
          exact ⟨rfl, hb'⟩
theorem turns_any (t r : Int) (o : Bool) (n : Int) (w : World) : Calls Try.prog 4 #[.agg #[.int .i64 t, .int .i64 r, .bool o, .int .i64 n]] w fun e w' => e = .returned (.bool true) ∧ Below w.heap.size w w' := by
  by_cases h : mayC t r o n
  · obtain ⟨⟨h1, h2, h3, h4⟩, h5⟩ := h
    rcases h5 with ⟨rfl, rfl, rfl, h6, h7⟩ | ⟨rfl, rfl⟩
    · obtain ⟨m, rfl⟩ := Int.eq_ofNat_of_zero_le (show 0 ≤ n by omega)
      exact turns_alive _ _ _ _ w true (.inr rfl) (Lib.hid (fun w => refr6_off m w (by omega) (by omega)))
    · obtain ⟨a, rfl⟩ := Int.eq_ofNat_of_zero_le h1
      obtain ⟨b, rfl⟩ := Int.eq_ofNat_of_zero_le h3
      by_cases h8 : 247 < a
      · exact turns_hi a b w (by omega) (by omega) h8
      · exact turns_lo a b w (by omega) (by omega)
  · exact turns_alive _ _ _ _ w false (.inl rfl) (Lib.hid (fun w => refr6_no t r o n w h))
end Go.Proofs.Ythgbfidghhlldaa
