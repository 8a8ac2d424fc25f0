/- The walk of the law BitsBus. -/
import Derived.Test.YtfnofajglbjgjaaLaw01
import Derived.Test.YtfnofajglbjgjaaAnd
import Derived.Test.YtfnofajglbjgjaaShelf
import Derived.WalkSmall
namespace Go.Proofs.Ytfnofajglbjgjaa
open Go.RowKit Go.Lib

/-- a text's first m bytes, as the law cuts it -/
def cutS (s : ByteArray) (m : Int) : ByteArray := s.extract 0 (min (s.size : Int) m).toNat
theorem cutS_size (s : ByteArray) (m : Nat) : (cutS s m).size = min m s.size := by
  unfold cutS; simp only [ByteArray.size_extract]; omega

set_option maxHeartbeats 400000 in
theorem short_any (s : ByteArray) (w : World) : Calls Try.prog 16 #[.string s] w fun e w' => e = .returned (.string (cutS s 300)) ∧ w = w' := by
  go_enter Try.func16, Try.ntmps16
  go_wp2
  go_ret
  exact ⟨rfl, rfl⟩

/-- what the law puts on the bus: two rows of one length -/
theorem bus_cut (a b : ByteArray) : ∃ x y s t : ByteArray, ∃ n : Nat, n ≤ 300 ∧ cutS a 300 = x ∧ cutS b 300 = y ∧ y.extract 0 (min (x.size : Int) (y.size : Int)).toNat = t ∧ x.extract 0 n = s ∧ s.size = n ∧ t.size = n ∧ n ≤ x.size ∧ n ≤ y.size ∧ x.size ≤ 300 ∧ y.size ≤ 300 := by
  have hx : (cutS a 300).size = min 300 a.size := cutS_size a 300
  have hy : (cutS b 300).size = min 300 b.size := cutS_size b 300
  refine ⟨cutS a 300, cutS b 300, (cutS a 300).extract 0 (min (cutS a 300).size (cutS b 300).size), _, min (cutS a 300).size (cutS b 300).size, ?_, rfl, rfl, rfl, rfl, ?_, ?_, ?_, ?_, ?_, ?_⟩
  all_goals (try simp only [ByteArray.size_extract])
  all_goals omega

/-- And of two and of four rows written out -/
theorem and2_any (s t : ByteArray) (w : World) (hs : s.size ≤ maxLen) (ht : t.size ≤ maxLen) (h : s.size = t.size) (ok : Bool) (ha : (B.right s && B.right t) = ok) :
    Calls Try.prog 17 #[.slice (some ⟨w.heap.size, 0, none⟩) 2 2] (w.alloc (.cells #[.string s, .string t] 9)) fun e w' => e = .returned (.tuple #[.string (if ok then B.bus2 s t else ⟨#[]⟩), .int .i64 (if ok then 0 else 1)]) ∧ Below w.heap.size w w' := by
  have hz : ∀ x ∈ [s, t], x.size ≤ maxLen := by intro x hx; simp at hx; rcases hx with rfl | rfl <;> assumption
  have ha' := (B.alike2 h).trans ha
  cases ok
  · exact and_lit_no [s, t] w (by simp [maxLen]) hz ha'
  · exact and_lit_yes [s, t] w (by simp [maxLen]) hz ha'
theorem and4_any (s t o : ByteArray) (w : World) (n : Nat) (hs : s.size ≤ maxLen) (ht : t.size = n) (hn : n ≤ 300) (h : s.size = t.size) (ho : o.data.toList = List.replicate n 49) (ok : Bool) (ha : (B.right s && B.right t) = ok) :
    Calls Try.prog 17 #[.slice (some ⟨w.heap.size, 0, none⟩) 4 4] (w.alloc (.cells #[.string s, .string t, .string s, .string o] 9)) fun e w' => e = .returned (.tuple #[.string (if ok then B.bus2 s t else ⟨#[]⟩), .int .i64 (if ok then 0 else 1)]) ∧ Below w.heap.size w w' := by
  have hos : o.size = n := by rw [← B.size_len, ho]; simp
  have hor : B.right o = true := by
    unfold B.right; rw [ho, hos]
    have : n ≤ 4000 := by omega
    simp [this, B.okc]
  have hz : ∀ x ∈ [s, t, s, o], x.size ≤ maxLen := by
    intro x hx; unfold maxLen at *; simp at hx; rcases hx with rfl | rfl | rfl | rfl <;> omega
  have ha' := (B.alike4 h (by omega) hor).trans ha
  cases ok
  · exact and_lit_no [s, t, s, o] w (by simp [maxLen]) hz ha'
  · refine (and_lit_yes [s, t, s, o] w (by simp [maxLen]) hz ha').mono ?_
    rintro e w' ⟨rfl, hb⟩
    rw [B.bus4 h ht ho]
    exact ⟨rfl, hb⟩

theorem repeatL_one (n : Nat) : Lib.repeatL [49] n = List.replicate n 49 := by
  induction n with
  | zero => rfl
  | succ n ih => rw [List.replicate_succ, ← ih]; rfl

set_option maxHeartbeats 2000000 in
theorem bus_no (a b : ByteArray) (w : World) (x y s t : ByteArray) (n : Nat) (hn : n ≤ 300) (hx : cutS a 300 = x) (hy : cutS b 300 = y) (ht : y.extract 0 (min (x.size : Int) (y.size : Int)).toNat = t) (hs : x.extract 0 n = s) (hsz : s.size = n) (htz : t.size = n) (hnx : n ≤ x.size) (_hny : n ≤ y.size) (hx3 : x.size ≤ 300) (hy3 : y.size ≤ 300)
    (ha : B.right s = false ∨ (B.right s = true ∧ B.right t = false)) :
    Calls Try.prog 6 #[.string a, .string b] w fun e w' => e = .returned (.bool true) ∧ Below w.heap.size w w' := by
  have hms : s.size ≤ maxLen := by unfold maxLen; omega
  have hmt : t.size ≤ maxLen := by unfold maxLen; omega
  have C1 := Lib.hid (fun w => short_any a w)
  have C2 := Lib.hid (fun w => short_any b w)
  rw [hx] at C1
  rw [hy] at C2
  have A1 := Lib.hid (fun w => and2_any s t w hms hmt (hsz.trans htz.symm) false (by rcases ha with h | ⟨_, h⟩ <;> simp [h]))
  have A2 := Lib.hid (fun w => and2_any t s w hmt hms (htz.trans hsz.symm) false (by rcases ha with h | ⟨_, h⟩ <;> simp [h]))
  have A3 := Lib.hid (fun w => and4_any s t ⟨(Lib.repeatL [49] n).toArray⟩ w n hms htz hn (hsz.trans htz.symm) (by simp [repeatL_one]) false (by rcases ha with h | ⟨_, h⟩ <;> simp [h]))
  have CR := Lib.hid (fun w => Try.strings_Repeat ⟨#[49]⟩ n w (by omega) (by show 1 * n ≤ _; omega))
  simp only [Bool.false_eq_true, if_false] at A1 A2 A3
  have hB : Below w.heap.size w w := Below.refl _ _
  clear hx hy
  rcases ha with h1 | ⟨h1, h2⟩
  all_goals
    go_enter Try.func6, Try.ntmps6
    go_wp2_with (first | (go_at_call 16; (with_reducible refine (C1.out _).mono ?_); rintro e w' ⟨rfl, rfl⟩) | (go_at_call 16; (with_reducible refine (C2.out _).mono ?_); rintro e w' ⟨rfl, rfl⟩) | (go_at_call 17; (with_reducible refine (A1.out _).mono ?_); rintro e w' ⟨rfl, hb⟩; replace hB := hB.trans (hb.mono hB.size)) | (go_at_call 17; (with_reducible refine (A2.out _).mono ?_); rintro e w' ⟨rfl, hb⟩; replace hB := hB.trans (hb.mono hB.size)) | (go_at_call 17; (with_reducible refine (A3.out _).mono ?_); rintro e w' ⟨rfl, hb⟩; replace hB := hB.trans (hb.mono hB.size)) | (go_at_call 25; (with_reducible refine (CR.out _).mono ?_); rintro e w' ⟨rfl, hb⟩; replace hB := hB.trans (hb.mono hB.size)) | (go_at_call 12; (with_reducible refine (refright_any _ _ hms).mono ?_); rintro e w' ⟨rfl, rfl⟩) | (go_at_call 12; (with_reducible refine (refright_any _ _ hmt).mono ?_); rintro e w' ⟨rfl, rfl⟩) | (go_at_call 13; (with_reducible refine (alive_any _).mono ?_); rintro e w' ⟨rfl, hb⟩; replace hB := hB.trans (hb.mono hB.size)))
    go_ret
    exact ⟨rfl, hB⟩

set_option maxHeartbeats 2000000 in
theorem bus_yes (a b : ByteArray) (w : World) (x y s t : ByteArray) (n : Nat) (hn : n ≤ 300) (hx : cutS a 300 = x) (hy : cutS b 300 = y) (ht : y.extract 0 (min (x.size : Int) (y.size : Int)).toNat = t) (hs : x.extract 0 n = s) (hsz : s.size = n) (htz : t.size = n) (hnx : n ≤ x.size) (_hny : n ≤ y.size) (hx3 : x.size ≤ 300) (hy3 : y.size ≤ 300)
    (ha : B.right s = true) (hb : B.right t = true) :
    Calls Try.prog 6 #[.string a, .string b] w fun e w' => e = .returned (.bool true) ∧ Below w.heap.size w w' := by
  have hms : s.size ≤ maxLen := by unfold maxLen; omega
  have hmt : t.size ≤ maxLen := by unfold maxLen; omega
  have C1 := Lib.hid (fun w => short_any a w)
  have C2 := Lib.hid (fun w => short_any b w)
  rw [hx] at C1
  rw [hy] at C2
  have A1 := Lib.hid (fun w => and2_any s t w hms hmt (hsz.trans htz.symm) true (by rw [ha, hb]; rfl))
  have A2 := Lib.hid (fun w => and2_any t s w hmt hms (htz.trans hsz.symm) true (by rw [ha, hb]; rfl))
  have A3 := Lib.hid (fun w => and4_any s t ⟨(Lib.repeatL [49] n).toArray⟩ w n hms htz hn (hsz.trans htz.symm) (by simp [repeatL_one]) true (by rw [ha, hb]; rfl))
  have CR := Lib.hid (fun w => Try.strings_Repeat ⟨#[49]⟩ n w (by omega) (by show 1 * n ≤ _; omega))
  simp only [if_true] at A1 A2 A3
  rw [← B.bus2_comm ha hb] at A2
  have hrz := B.bus2_size (hsz.trans htz.symm)
  have hBs := B.right_bound ha
  have hBt := B.right_bound hb
  obtain ⟨r, hr⟩ : ∃ r, B.bus2 s t = r := ⟨_, rfl⟩
  rw [htz] at hrz
  simp only [hr] at A1 A2 A3 hrz
  have HAT : Hid (∀ (k : Nat) (h1 : k < r.size) (h2 : k < s.size) (h3 : k < t.size), r[k] = B.low s[k] t[k]) := by subst hr; exact B.bus2_at (hsz.trans htz.symm)
  have HBs := Lib.hid hBs
  have HBt := Lib.hid hBt
  have hB : Below w.heap.size w w := Below.refl _ _
  clear hx hy hr hBs hBt
  go_enter Try.func6, Try.ntmps6
  go_wp2_with (first | (go_at_call 16; (with_reducible refine (C1.out _).mono ?_); rintro e w' ⟨rfl, rfl⟩) | (go_at_call 16; (with_reducible refine (C2.out _).mono ?_); rintro e w' ⟨rfl, rfl⟩) | (go_at_call 17; (with_reducible refine (A1.out _).mono ?_); rintro e w' ⟨rfl, hb⟩; replace hB := hB.trans (hb.mono hB.size)) | (go_at_call 17; (with_reducible refine (A2.out _).mono ?_); rintro e w' ⟨rfl, hb⟩; replace hB := hB.trans (hb.mono hB.size)) | (go_at_call 17; (with_reducible refine (A3.out _).mono ?_); rintro e w' ⟨rfl, hb⟩; replace hB := hB.trans (hb.mono hB.size)) | (go_at_call 25; (with_reducible refine (CR.out _).mono ?_); rintro e w' ⟨rfl, hb⟩; replace hB := hB.trans (hb.mono hB.size)) | (go_at_call 12; (with_reducible refine (refright_any _ _ hms).mono ?_); rintro e w' ⟨rfl, rfl⟩) | (go_at_call 12; (with_reducible refine (refright_any _ _ hmt).mono ?_); rintro e w' ⟨rfl, rfl⟩) | (go_at_call 13; (with_reducible refine (alive_any _).mono ?_); rintro e w' ⟨rfl, hb⟩; replace hB := hB.trans (hb.mono hB.size)))
  go_loopw [77] (fun i wr => ∃ k : Nat, k ≤ n ∧ i = .int .i64 k ∧ Below w.heap.size w wr) (fun i _ => n - (RowKit.intOf i).toNat)
  case atStart => exact ⟨0, Nat.zero_le _, rfl, hB⟩
  case round =>
    obtain ⟨k, hk, rfl, hb⟩ := hrel
    clear hB
    by_cases hlt : k < n
    · have hks : k < s.size := by omega
      have hkt : k < t.size := by omega
      have hkr : k < r.size := by omega
      have hrk := HAT.out k hkr hks hkt
      have hbs := HBs.out k hks
      have hbt := HBt.out k hkt
      by_cases h1 : s[k].toNat = 48
      · have e1 : ((s[k].toNat : Int) == 48) = true := by simp; omega
        have e2 : ((r[k].toNat : Int) == 48) = true := by
          rw [hrk, UInt8.toNat_inj.1 (show s[k].toNat = (48 : UInt8).toNat from h1)]
          unfold B.low; split <;> rfl
        clear hrk h1 hbs hbt
        go_wp2_with fail
        go_quiet (fail)
        rename_i nq
        replace hb := below_drewN hb nq
        go_wp2
        go_roundw
        case rel => exact ⟨k + 1, by omega, by go_num, hb⟩
        case measure => simp [RowKit.intOf]; omega
      · have e1 : ((s[k].toNat : Int) == 48) = false := by simp; omega
        by_cases h2 : t[k].toNat = 48
        · have e2 : ((t[k].toNat : Int) == 48) = true := by simp; omega
          have e3 : ((r[k].toNat : Int) == 48) = true := by
            rw [hrk, UInt8.toNat_inj.1 (show t[k].toNat = (48 : UInt8).toNat from h2)]
            rfl
          clear hrk h1 h2 hbs hbt
          go_wp2_with fail
          go_quiet (fail)
          rename_i nq
          replace hb := below_drewN hb nq
          go_wp2
          go_roundw
          case rel => exact ⟨k + 1, by omega, by go_num, hb⟩
          case measure => simp [RowKit.intOf]; omega
        · have e2 : ((t[k].toNat : Int) == 48) = false := by simp; omega
          have e3 : ((r[k].toNat : Int) == 48) = false := by
            rw [hrk, UInt8.toNat_inj.1 (show t[k].toNat = (49 : UInt8).toNat from by show t[k].toNat = 49; omega)]
            unfold B.low; simp; omega
          clear hrk h1 h2 hbs hbt
          go_wp2_with fail
          go_quiet (fail)
          rename_i nq
          replace hb := below_drewN hb nq
          go_wp2
          go_roundw
          case rel => exact ⟨k + 1, by omega, by go_num, hb⟩
          case measure => simp [RowKit.intOf]; omega
    · go_wp2_with (go_at_call 13; (with_reducible refine (alive_any _).mono ?_); rintro e w' ⟨rfl, hb2⟩; replace hb := hb.trans (hb2.mono hb.size))
      go_ret
      exact ⟨rfl, hb⟩

theorem bus_any (a b : ByteArray) (w : World) :
    Calls Try.prog 6 #[.string a, .string b] w fun e w' => e = .returned (.bool true) ∧ Below w.heap.size w w' := by
  obtain ⟨x, y, s, t, n, hn, hx, hy, ht, hs, hsz, htz, hnx, hny, hx3, hy3⟩ := bus_cut a b
  cases hr : B.right s with
  | false => exact bus_no a b w x y s t n hn hx hy ht hs hsz htz hnx hny hx3 hy3 (.inl hr)
  | true =>
    cases hr2 : B.right t with
    | false => exact bus_no a b w x y s t n hn hx hy ht hs hsz htz hnx hny hx3 hy3 (.inr ⟨hr, hr2⟩)
    | true => exact bus_yes a b w x y s t n hn hx hy ht hs hsz htz hnx hny hx3 hy3 hr hr2
end Go.Proofs.Ytfnofajglbjgjaa
