/- The walk of the law BitsRuns. -/
import Derived.Test.YtfnofajglbjgjaaShort
import Derived.Test.YtfnofajglbjgjaaRuns
import Derived.Test.YtfnofajglbjgjaaRowR
import Derived.Test.YtfnofajglbjgjaaFlip
import Derived.Test.YtfnofajglbjgjaaShelf
import Derived.WalkSmall
namespace Go.Proofs.Ytfnofajglbjgjaa
open Go.RowKit Go.Lib

/-- 'string([]byte{c})' -/
theorem run_one_back {P : Program} {e : TypeId} (src dst : TypeId) (c : UInt8) (hs : P.underlying src = some (.slice e)) (he : P.underlying e = some (.int .u8)) (hd : P.underlying dst = some .string) (w : World) :
    (convert src dst (.slice (some ⟨w.heap.size, 0, none⟩) 1 1)).run P (w.alloc (.cells #[.int .u8 (c.toNat : Int)] e)) = .ok (.string ⟨#[c]⟩) (w.alloc (.cells #[.int .u8 (c.toNat : Int)] e)) := by
  refine run_convert_bytes_back (P := P) _ src dst e ⟨w.heap.size, 0, none⟩ 1 [c] hs he hd (fun i hi => ?_)
  simp at hi; subst hi
  rw [show (⟨w.heap.size, 0, none⟩ : Addr).add 0 = ⟨w.heap.size, 0, none⟩ from rfl, World.cell?_alloc_at _ _ _ _ rfl]
  rfl

theorem turn_place (z : Int) (n : Nat) (h : 0 < n) (hn : n ≤ 300) : ∃ j : Nat, (wrap64 (z.tmod n + n)).tmod n = (j : Int) ∧ j < n := by
  have h1 := Int.tmod_lt_of_pos z (show (0 : Int) < n by omega)
  have h2 := Int.lt_tmod_of_pos z (show (0 : Int) < n by omega)
  rw [IntWalk.wrap64_in _ (by omega), Int.tmod_eq_emod_of_nonneg (by omega)]
  have h3 := Int.emod_nonneg (z.tmod n + n) (show (n : Int) ≠ 0 by omega)
  have h4 := Int.emod_lt_of_pos (z.tmod n + n) (show (0 : Int) < n by omega)
  exact ⟨((z.tmod n + n) % n).toNat, by omega, by omega⟩

/-- Flip, called with places written out -/
theorem flip_lit (s : ByteArray) (zs : List Int) (w : World) (hr : B.right s = true) (hn : zs.length ≤ maxLen) :
    Calls Try.prog 20 #[.string s, .slice (some ⟨w.heap.size, 0, none⟩) zs.length zs.length] (w.alloc (.cells (zs.map (Value.int .i64)).toArray 3)) fun e w' => e = flipEnd s zs ∧ Below w.heap.size w w' := by
  refine (flip_any s w.heap.size 0 zs.length zs _ hr hn (fun i hi => ?_) (by simp)).mono ?_
  · rw [World.cell?_alloc_at _ _ _ _ rfl]
    simp [List.getD_eq_getElem?_getD, hi]
  · rintro e w' ⟨rfl, hb⟩
    exact ⟨rfl, ((Below.refl _ _).alloc (Nat.le_refl _) _).trans (hb.mono (by simp))⟩

set_option maxHeartbeats 400000 in
theorem runsLaw_no (a : ByteArray) (z : Int) (w : World) (s : ByteArray) (hc : cutS a 300 = s) (hs : s.size ≤ maxLen) (hr : B.right s = false) :
    Calls Try.prog 7 #[.string a, .int .i64 z] w fun e w' => e = .returned (.bool true) ∧ Below w.heap.size w w' := by
  have C1 := Lib.hid (fun w => short_any a w)
  rw [hc] at C1
  clear hc
  have hB : Below w.heap.size w w := Below.refl _ _
  go_enter Try.func7, Try.ntmps7
  go_wp2_with (first | (go_at_call 16; (with_reducible refine (C1.out _).mono ?_); rintro e w' ⟨rfl, rfl⟩) | (go_at_call 21; (with_reducible refine (runs_no _ _ hs hr).mono ?_); rintro e w' ⟨rfl, rfl⟩) | (go_at_call 12; (with_reducible refine (refright_any _ _ hs).mono ?_); rintro e w' ⟨rfl, rfl⟩) | (go_at_call 13; (with_reducible refine (alive_any _).mono ?_); rintro e w' ⟨rfl, hb⟩; replace hB := hB.trans (hb.mono hB.size)))
  go_ret
  exact ⟨rfl, hB⟩

set_option maxHeartbeats 1000000 in
theorem runsLaw_yes (a : ByteArray) (z : Int) (w : World) (s : ByteArray) (hc : cutS a 300 = s) (hs : 0 < s.size) (hs3 : s.size ≤ 300) (hr : B.right s = true) :
    Calls Try.prog 7 #[.string a, .int .i64 z] w fun e w' => e = .returned (.bool true) ∧ Below w.heap.size w w' := by
  have C1 := Lib.hid (fun w => short_any a w)
  rw [hc] at C1
  clear hc
  obtain ⟨rs, hrs⟩ : ∃ rs, rs = B.runsOf s.data.toList := ⟨_, rfl⟩
  have C2 := Lib.hid (fun w => runs_yes s w hr)
  rw [← hrs] at C2
  have HRS := Lib.hid hrs
  have hne : 0 < rs.length := by
    rcases Nat.eq_zero_or_pos rs.length with h | h
    · exfalso
      rw [List.length_eq_zero_iff] at h
      exact B.runs_ne (l := s.data.toList) (by intro e; have := B.size_len s; rw [e] at this; simp at this; omega) (hrs.symm.trans h)
    · exact h
  clear hrs
  have hB : Below w.heap.size w w := Below.refl _ _
  go_enter Try.func7, Try.ntmps7
  go_wp2_with (first | (go_at_call 16; (with_reducible refine (C1.out _).mono ?_); rintro e w' ⟨rfl, rfl⟩) | (go_at_call 21; (with_reducible refine (C2.out _).mono ?_); rintro e w1 ⟨v, rfl, ho, hb⟩; replace hB := hB.trans (hb.mono hB.size); obtain ⟨n, hn⟩ : ∃ n, n = rs.length := ⟨_, rfl⟩; rw [← hn] at ho; obtain ⟨g, cap, rfl, hBg, hgl⟩ := ho.form (by omega); have hRow := fun k (hk : k < rs.length) => And.intro ((ho.cellAt (k * 2) (by omega)).trans (B.runCells_fst hk).1) ((ho.cellAt (k * 2 + 1) (by omega)).trans (B.runCells_fst hk).2); replace hRow : RowR w1 g rs := hRow; have HN := Lib.hid hn; clear hn ho))
  obtain ⟨B1, hB1⟩ : ∃ b, b = w1.heap.size := ⟨_, rfl⟩
  have hgB : g < B1 := by omega
  have hn3 : n ≤ 300 := by have := B.runs_le s.data.toList; rw [B.size_len, ← HRS.out] at this; rw [HN.out]; omega
  go_loopw [7, 31] (fun al i wr => ∃ k : Nat, k ≤ n ∧ i = .int .i64 k ∧ al = .string ⟨(B.cat (rs.take k)).toArray⟩ ∧ Below B1 w1 wr) (fun _ i _ => n - (RowKit.intOf i).toNat)
  case atStart => exact ⟨0, Nat.zero_le _, rfl, rfl, Below.refl _ _⟩
  case round =>
    obtain ⟨k, hk, rfl, hal, hb⟩ := hrel
    have hwz : w1.heap.size ≤ wr.heap.size := hb.size
    by_cases hlt : k < n
    · have hkr : k < rs.length := by rw [← HN.out]; exact hlt
      have hx1 := ((hRow.below hb hgB) k hkr).1
      have hx2 := ((hRow.below hb hgB) k hkr).2
      have hcat := Lib.hid (B.cat_take_succ hkr)
      have hm1 := B.runs_pos s.data.toList (B.runAt rs k) (by rw [← HRS.out]; exact B.runAt_mem hkr)
      have hm2 := B.runs_small s.data.toList (B.runAt rs k) (by rw [← HRS.out]; exact B.runAt_mem hkr)
      rw [B.size_len] at hm2
      have hcl : (⟨(B.cat (rs.take k)).toArray⟩ : ByteArray).size ≤ 300 := by
        have h1 := B.cat_take_le rs k
        rw [show B.cat rs = s.data.toList from by rw [HRS.out]; exact B.cat_runs _, B.size_len] at h1
        show (B.cat (rs.take k)).length ≤ 300
        omega
      obtain ⟨ac, hac⟩ : ∃ ac : ByteArray, ac = ⟨(B.cat (rs.take k)).toArray⟩ := ⟨_, rfl⟩
      rw [← hac] at hcl hal
      subst hal
      have HAC := Lib.hid hac
      obtain ⟨⟨c, m⟩, hcm⟩ : ∃ r, B.runAt rs k = r := ⟨_, rfl⟩
      have hnx : 0 < k → ¬ (B.runAt rs (k - 1)).1.toNat = c.toNat := fun h0 => by
        have := B.runs_next (l := s.data.toList) h0 (by rw [← HRS.out]; exact hkr)
        rw [← HRS.out, hcm] at this
        exact this
      rw [hcm] at hx1 hx2 hcat hm1 hm2
      simp only at hx1 hx2 hm1 hm2
      have hrl : (⟨(Lib.repeatL [c] m).toArray⟩ : ByteArray).size ≤ 300 := by
        show (Lib.repeatL [c] m).length ≤ 300
        rw [B.repeatL_rep, List.length_replicate]; omega
      clear hcm hac
      have hd1 : decide ((m : Int) < 1) = false := by simp; omega
      have hd2 : decide (s.size < m) = false := by simp; omega
      have hgw : g < wr.heap.size := by omega
      have CR := Lib.hid (fun w => Try.strings_Repeat ⟨#[c]⟩ m w (by omega) (by show 1 * m ≤ _; omega))
      by_cases h0 : k = 0
      · subst h0
        clear hnx
        go_wp2_with fail
        replace hb := hb.alloc (by omega) (.cells #[.int .u8 (c.toNat : Int), .int .i64 (m : Int)] 51)
        have hq1 : (wr.alloc (.cells #[.int .u8 (c.toNat : Int), .int .i64 (m : Int)] 51)).cell? ⟨wr.heap.size, 0, none⟩ = some (.int .u8 (c.toNat : Int)) := by simp
        have hq2 : (wr.alloc (.cells #[.int .u8 (c.toNat : Int), .int .i64 (m : Int)] 51)).cell? ⟨wr.heap.size, 1, none⟩ = some (.int .i64 (m : Int)) := by simp
        have hq3 : wr.heap.size < (wr.alloc (.cells #[.int .u8 (c.toNat : Int), .int .i64 (m : Int)] 51)).heap.size := by simp
        generalize wr.alloc (.cells #[.int .u8 (c.toNat : Int), .int .i64 (m : Int)] 51) = wa at *
        generalize wr.heap.size = gr at *
        go_quiet (fail)
        rename_i nq
        replace hb := below_drewN hb nq
        replace hq1 : (wa.drewN nq).cell? ⟨gr, 0, none⟩ = some (.int .u8 (c.toNat : Int)) := hq1
        replace hq2 : (wa.drewN nq).cell? ⟨gr, 1, none⟩ = some (.int .i64 (m : Int)) := hq2
        replace hq3 : gr < (wa.drewN nq).heap.size := hq3
        generalize wa.drewN nq = wq at *
        clear hd1 hd2
        have hcv := run_one_back (P := Try.prog) 52 9 c Try.underlying52 Try.underlying5 Try.underlying9
        go_wp2_with (go_at_call 25; (with_reducible refine (CR.out _).mono ?_); rintro e w2 ⟨rfl, hb2⟩)
        go_roundw
        case rel =>
          refine ⟨0 + 1, by omega, by go_num, val_str (by rw [HAC.out, B.ba_app, hcat.out]), ?_⟩
          have hbq := hb.alloc (by have := hb.size; omega) (.cells #[.int .u8 (c.toNat : Int)] 5)
          exact hbq.trans (hb2.mono (by have := hbq.size; omega))
        case measure => simp [RowKit.intOf]; omega
      · have hx0 := ((hRow.below hb hgB) (k - 1) (by omega)).1
        obtain ⟨c0, hc0⟩ : ∃ c0, (B.runAt rs (k - 1)).1 = c0 := ⟨_, rfl⟩
        rw [hc0] at hx0 hnx
        have hne1 : ((c0.toNat : Int) == c.toNat) = false := by have := hnx (by omega); simp; omega
        have hd3 : decide (0 < k) = true := by simp; omega
        have hd4 : (0 : Int) < k := by omega
        clear hnx hc0
        go_wp2_with fail
        replace hb := hb.alloc (by omega) (.cells #[.int .u8 (c.toNat : Int), .int .i64 (m : Int)] 51)
        have hq1 : (wr.alloc (.cells #[.int .u8 (c.toNat : Int), .int .i64 (m : Int)] 51)).cell? ⟨wr.heap.size, 0, none⟩ = some (.int .u8 (c.toNat : Int)) := by simp
        have hq2 : (wr.alloc (.cells #[.int .u8 (c.toNat : Int), .int .i64 (m : Int)] 51)).cell? ⟨wr.heap.size, 1, none⟩ = some (.int .i64 (m : Int)) := by simp
        have hq3 : wr.heap.size < (wr.alloc (.cells #[.int .u8 (c.toNat : Int), .int .i64 (m : Int)] 51)).heap.size := by simp
        have hx0 : (wr.alloc (.cells #[.int .u8 (c.toNat : Int), .int .i64 (m : Int)] 51)).cell? ⟨g, (k - 1) * 2, none⟩ = some (.int .u8 (c0.toNat : Int)) := by rw [World.cell?_alloc_lt _ _ _ (by exact hgw)]; exact hx0
        generalize wr.alloc (.cells #[.int .u8 (c.toNat : Int), .int .i64 (m : Int)] 51) = wa at *
        generalize wr.heap.size = gr at *
        have q1 : IntKind.i64.wrap ((k : Int) - 1) = (k : Int) - 1 := IntWalk.i64_in _ (by omega)
        have q2 : ((k : Int) - 1).toNat = k - 1 := by omega
        have q3 : 0 ≤ (k : Int) - 1 := by omega
        have q4 : (k : Int) - 1 < n := by omega
        have q5 : (1 : Int) ≤ k := by omega
        have q6 : (k : Int) ≤ n := by omega
        have q7 : k - 1 < n := by omega
        go_quiet (fail)
        rename_i nq
        clear hx0 q1 q2
        replace hb := below_drewN hb nq
        replace hq1 : (wa.drewN nq).cell? ⟨gr, 0, none⟩ = some (.int .u8 (c.toNat : Int)) := hq1
        replace hq2 : (wa.drewN nq).cell? ⟨gr, 1, none⟩ = some (.int .i64 (m : Int)) := hq2
        replace hq3 : gr < (wa.drewN nq).heap.size := hq3
        generalize wa.drewN nq = wq at *
        clear hd1 hd2
        have hcv := run_one_back (P := Try.prog) 52 9 c Try.underlying52 Try.underlying5 Try.underlying9
        go_wp2_with (go_at_call 25; (with_reducible refine (CR.out _).mono ?_); rintro e w2 ⟨rfl, hb2⟩)
        go_roundw
        case rel =>
          refine ⟨k + 1, by omega, by go_num, val_str (by rw [HAC.out, B.ba_app, hcat.out]), ?_⟩
          have hbq := hb.alloc (by have := hb.size; omega) (.cells #[.int .u8 (c.toNat : Int)] 5)
          exact hbq.trans (hb2.mono (by have := hbq.size; omega))
        case measure => simp [RowKit.intOf]; omega
    · have hfin : (⟨(B.cat (rs.take k)).toArray⟩ : ByteArray) = s := by
        have htk : rs.take k = rs := List.take_of_length_le (by rw [← show n = rs.length from HN.out]; omega)
        rw [htk, HRS.out, B.cat_runs]
      rw [hfin] at hal
      subst hal
      have hz0 : ((s.size : Int) == 0) = false := by rw [beq_eq_false_iff_ne]; omega
      clear hfin
      obtain ⟨j, hj, hjs⟩ := turn_place z s.size hs (by omega)
      have F2 : Hid (∀ w : World, Calls Try.prog 20 #[.string s, .slice (some ⟨w.heap.size, 0, none⟩) 2 2] (w.alloc (.cells #[.int .i64 (j : Int), .int .i64 (j : Int)] 3)) fun e w' => e = .returned (.tuple #[.string s, .int .i64 0]) ∧ Below w.heap.size w w') :=
        Lib.hid (fun w => by
          have := flip_lit s [(j : Int), (j : Int)] w hr (by simp [maxLen])
          rw [flipEnd_yes (by simp [B.places]; omega), B.flips_two] at this
          exact this)
      have F1 : Hid (∀ w : World, Calls Try.prog 20 #[.string s, .slice (some ⟨w.heap.size, 0, none⟩) 1 1] (w.alloc (.cells #[.int .i64 (j : Int)] 3)) fun e w' => e = .returned (.tuple #[.string ⟨(B.flips s.data.toList [(j : Int)]).toArray⟩, .int .i64 0]) ∧ Below w.heap.size w w') :=
        Lib.hid (fun w => by
          have := flip_lit s [(j : Int)] w hr (by simp [maxLen])
          rw [flipEnd_yes (by simp [B.places]; omega)] at this
          exact this)
      have hne := B.flips_one_ne s.data.toList j (by rw [B.size_len]; exact hjs)
      have hyl : (⟨(B.flips s.data.toList [(j : Int)]).toArray⟩ : ByteArray).size = s.size := by
        show (B.flips s.data.toList [(j : Int)]).length = s.size
        rw [B.flips_length, B.size_len]
      have hyn : (⟨(B.flips s.data.toList [(j : Int)]).toArray⟩ : ByteArray) ≠ s := fun e => hne (congrArg (fun b : ByteArray => b.data.toList) e)
      obtain ⟨y, hy⟩ : ∃ y : ByteArray, ⟨(B.flips s.data.toList [(j : Int)]).toArray⟩ = y := ⟨_, rfl⟩
      rw [hy] at F1 hyl hyn
      have hyt : (y.toList == s.toList) = false := by
        rw [beq_eq_false_iff_ne, ByteArray.toList_eq, ByteArray.toList_eq]
        intro e
        exact hyn (ByteArray.ext (Array.ext' e))
      clear hy hne hyn
      replace hB := hB.trans (hb.mono (by omega))
      go_wp2_with (first | (go_at_call 20; (with_reducible refine (F2.out _).mono ?_); rintro e w2 ⟨rfl, hb2⟩; replace hB := hB.trans (hb2.mono hB.size)) | (go_at_call 20; (with_reducible refine (F1.out _).mono ?_); rintro e w2 ⟨rfl, hb2⟩; replace hB := hB.trans (hb2.mono hB.size)) | (go_at_call 13; (with_reducible refine (alive_any _).mono ?_); rintro e w' ⟨rfl, hb2⟩; replace hB := hB.trans (hb2.mono hB.size)))
      go_ret
      exact ⟨rfl, hB⟩

set_option maxHeartbeats 1000000 in
theorem runsLaw_empty (a : ByteArray) (z : Int) (w : World) (s : ByteArray) (hc : cutS a 300 = s) (hs : s.size = 0) :
    Calls Try.prog 7 #[.string a, .int .i64 z] w fun e w' => e = .returned (.bool true) ∧ Below w.heap.size w w' := by
  have C1 := Lib.hid (fun w => short_any a w)
  rw [hc] at C1
  clear hc
  have hl : s.data.toList = [] := by
    have := B.size_len s
    rw [hs, List.length_eq_zero_iff] at this
    exact this
  have hr : B.right s = true := by unfold B.right; rw [hs, hl]; rfl
  have C2 := Lib.hid (fun w => runs_yes s w hr)
  rw [hl] at C2
  simp only [show B.runsOf [] = [] from rfl, show B.runCells [] = [] from rfl, List.length_nil] at C2
  have hB : Below w.heap.size w w := Below.refl _ _
  clear hl hr
  go_enter Try.func7, Try.ntmps7
  go_wp2_with (first | (go_at_call 16; (with_reducible refine (C1.out _).mono ?_); rintro e w' ⟨rfl, rfl⟩) | (go_at_call 21; (with_reducible refine (C2.out _).mono ?_); rintro e w1 ⟨v, rfl, ho, hb⟩; replace hB := hB.trans (hb.mono hB.size); obtain ⟨A, cap, rfl⟩ := ownsRow_zero ho; clear ho) | (go_at_call 13; (with_reducible refine (alive_any _).mono ?_); rintro e w' ⟨rfl, hb⟩; replace hB := hB.trans (hb.mono hB.size)))
  refine wp_loop_rounds 1 ?_
  rw [rounds_succ]
  go_wp2_with (first | (go_at_call 16; (with_reducible refine (C1.out _).mono ?_); rintro e w' ⟨rfl, rfl⟩) | (go_at_call 21; (with_reducible refine (C2.out _).mono ?_); rintro e w1 ⟨v, rfl, ho, hb⟩; replace hB := hB.trans (hb.mono hB.size); obtain ⟨A, cap, rfl⟩ := ownsRow_zero ho; clear ho) | (go_at_call 13; (with_reducible refine (alive_any _).mono ?_); rintro e w' ⟨rfl, hb⟩; replace hB := hB.trans (hb.mono hB.size)))
  go_ret
  exact ⟨rfl, hB⟩

theorem runsLaw_any (a : ByteArray) (z : Int) (w : World) :
    Calls Try.prog 7 #[.string a, .int .i64 z] w fun e w' => e = .returned (.bool true) ∧ Below w.heap.size w w' := by
  have hz : (cutS a 300).size = min 300 a.size := cutS_size a 300
  rcases Nat.eq_zero_or_pos (cutS a 300).size with h | h
  · exact runsLaw_empty a z w _ rfl h
  · cases hr : B.right (cutS a 300) with
    | false => exact runsLaw_no a z w _ rfl (by unfold maxLen; omega) hr
    | true => exact runsLaw_yes a z w _ rfl h (by omega) hr
end Go.Proofs.Ytfnofajglbjgjaa
