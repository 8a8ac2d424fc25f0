/- The law PrioKinds. -/
import Derived.Test.YtkkibcjndgfmfaaPAlive
import Derived.Test.YtkkibcjndgfmfaaPLess
import Derived.Test.YtkkibcjndgfmfaaPlain
import Derived.Laws.Bits64b
namespace Go.Proofs.Ytkkibcjndgfmfaa
open Go.RowKit Go.Lib
attribute [local go_sem ↓] Go.wp_at_zero Go.wp_at_succ

theorem or_u32 (a b : Nat) (ha : a < 4294967296) (hb : b < 4294967296) : bits BinOp.or IntKind.u32 (a : Int) (b : Int) = ((a ||| b : Nat) : Int) := by
  have hx : a ||| b < 2 ^ 32 := Nat.or_lt_two_pow (by omega) (by omega)
  have h1 : (BitVec.ofInt 32 (a : Int)).toNat = a := by
    rw [BitVec.ofInt_natCast, BitVec.toNat_ofNat]; exact Nat.mod_eq_of_lt (by omega)
  have h2 : (BitVec.ofInt 32 (b : Int)).toNat = b := by
    rw [BitVec.ofInt_natCast, BitVec.toNat_ofNat]; exact Nat.mod_eq_of_lt (by omega)
  show IntKind.u32.wrap ((BitVec.ofInt 32 (a : Int) ||| BitVec.ofInt 32 (b : Int)).toNat : Int) = _
  rw [BitVec.toNat_or, h1, h2]
  exact IntWalk.u32_in _ (by omega)
abbrev shortX (a : Nat) (r : Bool) : FX := ⟨a, false, r, 0, ⟨#[]⟩⟩
abbrev longX (x : Nat) : FX := ⟨x, true, false, 0, ⟨#[]⟩⟩
theorem short_may {a : Nat} (r : Bool) (h : a < 2048) : (shortX a r).may = true := by
  unfold FX.may B.frI
  cases r <;> simp [h, ByteArray.size]
theorem long_may {x : Nat} (h : x < 536870912) : (longX x).may = true := by
  unfold FX.may B.frI
  simp [h, ByteArray.size]
theorem short_field (a : Nat) (r : Bool) : B.fieldL (shortX a r).fr = B.ofl a 11 ++ [B.rb r, 48] := B.field_short a 0 r []
theorem long_field {a c : Nat} (hc : c < 262144) : ∃ t, B.fieldL (longX (a * 262144 + c)).fr = B.ofl a 11 ++ ([49, 49] ++ t) := by
  obtain ⟨t, e⟩ := B.field_long (a * 262144 + c) 0 false []
  refine ⟨t, ?_⟩
  have : (a * 262144 + c) / 2 ^ 18 = a := by rw [show (2 : Nat) ^ 18 = 262144 from rfl]; omega
  rw [this, List.append_assoc] at e
  exact e
theorem less_l1 (a : Nat) (r : Bool) : (shortX a r).less (shortX a false) = false := by
  unfold FX.less; rw [short_field, short_field, B.lessL_append]; cases r <;> rfl
theorem less_l2 (a : Nat) : (shortX a false).less (shortX a true) = true := by
  unfold FX.less; rw [short_field, short_field, B.lessL_append]; rfl
theorem less_l3 (a c : Nat) (r : Bool) (hc : c < 262144) : (shortX a r).less (longX (a * 262144 + c)) = true := by
  obtain ⟨t, e⟩ := long_field (a := a) hc
  unfold FX.less; rw [short_field, e, B.lessL_append]; cases r <;> rfl
theorem less_l4 (a c : Nat) (r : Bool) (hc : c < 262144) : (longX (a * 262144 + c)).less (shortX a r) = false := by
  obtain ⟨t, e⟩ := long_field (a := a) hc
  unfold FX.less; rw [short_field, e, B.lessL_append]; cases r <;> rfl
theorem less_l5 (a b : Nat) (ha : a < 2048) (hb : b < 2048) : (shortX a false).less (shortX b false) = decide (a < b) := by
  by_cases e : a = b
  · subst e; rw [less_l1]; simp
  · unfold FX.less
    rw [short_field, short_field, B.lessL_ofl _ _ 11 a b (by rw [Nat.mod_eq_of_lt (by omega), Nat.mod_eq_of_lt (by omega)]; exact e), Nat.mod_eq_of_lt (by omega), Nat.mod_eq_of_lt (by omega)]
theorem less_l6 (a b c : Nat) (ha : a < 2048) (hb : b < 2048) (hc : c < 262144) (h : a < b) : (longX (a * 262144 + c)).less (shortX b false) = true := by
  obtain ⟨t, e⟩ := long_field (a := a) hc
  unfold FX.less
  rw [short_field, e, B.lessL_ofl _ _ 11 a b (by rw [Nat.mod_eq_of_lt (by omega), Nat.mod_eq_of_lt (by omega)]; omega), Nat.mod_eq_of_lt (by omega), Nat.mod_eq_of_lt (by omega)]
  exact decide_eq_true h
/-- three frames in memory -/
structure KK (w0 : World) (h : Nat) (u v x : FX) (w : World) : Prop where
  u : Blk w h u.v 25
  v : Blk w (h + 1) v.v 25
  x : Blk w (h + 1 + 1) x.v 25
  bel : Below h w0 w
theorem KK.keep {w0 w w' : World} {h : Nat} {u v x : FX} (k : KK w0 h u v x w) (hb : Below w.heap.size w w') : KK w0 h u v x w' := ⟨k.u.keep hb, k.v.keep hb, k.x.keep hb, k.bel.trans (hb.mono (Nat.le_of_lt k.u.lt))⟩
abbrev KC (h : Nat) (f : FX) (w : World) : Prop := w.cell? ⟨h, 0, none⟩ = some (.int .u32 f.id) ∧ w.cell? ⟨h, 1, none⟩ = some (.bool f.ext) ∧ w.cell? ⟨h, 2, none⟩ = some (.bool f.rem) ∧ w.cell? ⟨h, 3, none⟩ = some (.int .i64 f.dlc) ∧ w.cell? ⟨h, 4, none⟩ = some (.string f.data)
theorem blk_kc {w : World} {h : Nat} {f : FX} (k : Blk w h f.v 25) : KC h f w := ⟨k.cell 0 _ rfl, k.cell 1 _ rfl, k.cell 2 _ rfl, k.cell 3 _ rfl, k.cell 4 _ rfl⟩
theorem KK.cells {w0 w : World} {h : Nat} {u v x : FX} (k : KK w0 h u v x w) : KC h u w ∧ KC (h + 1) v w ∧ KC (h + 1 + 1) x w := ⟨blk_kc k.u, blk_kc k.v, blk_kc k.x⟩

set_option maxRecDepth 100000 in
set_option maxHeartbeats 8000000 in
theorem kinds_any (i o l : Nat) (w : World) (hi : i < 4294967296) (ho : o < 4294967296) (hl : l < 4294967296) :
    Calls Try.prog 6 #[.int .u32 i, .int .u32 o, .int .u32 l] w fun e w' => e = .returned (.bool true) ∧ Below w.heap.size w w' := by
  obtain ⟨a, ha⟩ : ∃ a : Nat, a = i % 2048 := ⟨_, rfl⟩
  obtain ⟨b, hb⟩ : ∃ b : Nat, b = o % 2048 := ⟨_, rfl⟩
  obtain ⟨c, hc⟩ : ∃ c : Nat, c = l % 262144 := ⟨_, rfl⟩
  have ha1 : a < 2048 := by omega
  have hb1 : b < 2048 := by omega
  have hc1 : c < 262144 := by omega
  have ea : (i : Int) % 2048 = a := by omega
  have eb : (o : Int) % 2048 = b := by omega
  have ec : (l : Int) % 262144 = c := by omega
  obtain ⟨x, hx⟩ : ∃ x : Nat, x = a * 262144 + c := ⟨_, rfl⟩
  have ex : bits BinOp.or IntKind.u32 ((a : Int) * 262144) (c : Int) = (x : Int) := by
    have e1 : (a : Int) * 262144 = ((a * 262144 : Nat) : Int) := by omega
    rw [e1, or_u32 _ _ (by omega) (by omega), hx]
    congr 1
    have := Nat.two_pow_add_eq_or_of_lt (i := 18) (b := c) (by omega) a
    rw [show (2 : Nat) ^ 18 = 262144 from rfl, Nat.mul_comm] at this
    exact this.symm
  have M1 := short_may false ha1
  have M2 := short_may true ha1
  have M3 := long_may (x := x) (by omega)
  have M4 := short_may false hb1
  have C0 : ∀ (i j : Nat) (e e' m m' r : Bool), (⟨i, e, m, 0, ⟨#[]⟩⟩ : FX).may = true → (⟨j, e', m', 0, ⟨#[]⟩⟩ : FX).may = true → (⟨i, e, m, 0, ⟨#[]⟩⟩ : FX).less ⟨j, e', m', 0, ⟨#[]⟩⟩ = r → Hid (∀ w, Calls Try.prog 11 #[.agg #[.int .u32 i, .bool e, .bool m, .int .i64 0, .string ⟨#[]⟩], .agg #[.int .u32 j, .bool e', .bool m', .int .i64 0, .string ⟨#[]⟩]] w fun e w' => e = .returned (.bool r) ∧ Below w.heap.size w w') := fun i j e e' m m' r h1 h2 h3 => Lib.hid (fun w => by rw [← h3]; exact less_yes ⟨i, e, m, 0, ⟨#[]⟩⟩ ⟨j, e', m', 0, ⟨#[]⟩⟩ w h1 h2)
  have C1 := C0 a a false false false true true M1 M2 (less_l2 a)
  have C2 := C0 a a false false true false false M2 M1 (less_l1 a true)
  have C3 := C0 a x false true false false true M1 M3 (by rw [hx]; exact less_l3 a c false hc1)
  have C4 := C0 a x false true true false true M2 M3 (by rw [hx]; exact less_l3 a c true hc1)
  have C5 := C0 x a true false false true false M3 M2 (by rw [hx]; exact less_l4 a c true hc1)
  have C6 := C0 a a false false false false false M1 M1 (less_l1 a false)
  have C7 := C0 a b false false false false (decide (a < b)) M1 M4 (less_l5 a b ha1 hb1)
  have hK : Hid (KK w w.heap.size (shortX a false) (shortX a true) (longX x) (((w.alloc (.cells (shortX a false).v 25)).alloc (.cells (shortX a true).v 25)).alloc (.cells (longX x).v 25))) :=
    Lib.hid ⟨((blk_new w _ _ _ rfl).alloc _).alloc _, (blk_new _ _ _ _ (by simp)).alloc _, blk_new _ _ _ _ (by simp), (((Below.refl _ _).alloc (Nat.le_refl _) _).alloc (by simp) _).alloc (by simp; omega) _⟩
  have CA := Lib.hid (fun w => alive5_any w)
  have C8 := fun h => C0 x b true false false false true M3 M4 (by rw [hx]; exact less_l6 a b c ha1 hb1 hc1 h)
  have HC8 := Lib.hid C8
  have HX := Lib.hid hx
  clear ha hb hc hx C0 M1 M2 M3 M4 C8
  by_cases hab : a < b
  · have hab' : (a : Int) < b := by omega
    have C8 := HC8.out hab
    rw [decide_eq_true hab] at C7
    clear HC8 hab
    go_enter Try.func6, Try.ntmps6
    go_wp2_with (first
      | (go_at_call 11; (with_reducible refine (C1.out _).mono ?_); rintro e w1 ⟨rfl, hb⟩; (replace hK := Lib.hid (hK.out.keep hb)); (obtain ⟨⟨d0, d1, d2, d3, d4⟩, ⟨d5, d6, d7, d8, d9⟩, ⟨d10, d11, d12, d13, d14⟩⟩ := hK.out.cells))
      | (go_at_call 11; (with_reducible refine (C2.out _).mono ?_); rintro e w1 ⟨rfl, hb⟩; (replace hK := Lib.hid (hK.out.keep hb)); (obtain ⟨⟨d0, d1, d2, d3, d4⟩, ⟨d5, d6, d7, d8, d9⟩, ⟨d10, d11, d12, d13, d14⟩⟩ := hK.out.cells))
      | (go_at_call 11; (with_reducible refine (C3.out _).mono ?_); rintro e w1 ⟨rfl, hb⟩; (replace hK := Lib.hid (hK.out.keep hb)); (obtain ⟨⟨d0, d1, d2, d3, d4⟩, ⟨d5, d6, d7, d8, d9⟩, ⟨d10, d11, d12, d13, d14⟩⟩ := hK.out.cells))
      | (go_at_call 11; (with_reducible refine (C4.out _).mono ?_); rintro e w1 ⟨rfl, hb⟩; (replace hK := Lib.hid (hK.out.keep hb)); (obtain ⟨⟨d0, d1, d2, d3, d4⟩, ⟨d5, d6, d7, d8, d9⟩, ⟨d10, d11, d12, d13, d14⟩⟩ := hK.out.cells))
      | (go_at_call 11; (with_reducible refine (C5.out _).mono ?_); rintro e w1 ⟨rfl, hb⟩; (replace hK := Lib.hid (hK.out.keep hb)); (obtain ⟨⟨d0, d1, d2, d3, d4⟩, ⟨d5, d6, d7, d8, d9⟩, ⟨d10, d11, d12, d13, d14⟩⟩ := hK.out.cells))
      | (go_at_call 11; (with_reducible refine (C6.out _).mono ?_); rintro e w1 ⟨rfl, hb⟩; (replace hK := Lib.hid (hK.out.keep hb)); (obtain ⟨⟨d0, d1, d2, d3, d4⟩, ⟨d5, d6, d7, d8, d9⟩, ⟨d10, d11, d12, d13, d14⟩⟩ := hK.out.cells))
      | (go_at_call 11; (with_reducible refine (C7.out _).mono ?_); rintro e w1 ⟨rfl, hb⟩; (replace hK := Lib.hid (hK.out.keep hb)); (obtain ⟨⟨d0, d1, d2, d3, d4⟩, ⟨d5, d6, d7, d8, d9⟩, ⟨d10, d11, d12, d13, d14⟩⟩ := hK.out.cells))
      | (go_at_call 11; (with_reducible refine (C8.out _).mono ?_); rintro e w1 ⟨rfl, hb⟩; (replace hK := Lib.hid (hK.out.keep hb)); (obtain ⟨⟨d0, d1, d2, d3, d4⟩, ⟨d5, d6, d7, d8, d9⟩, ⟨d10, d11, d12, d13, d14⟩⟩ := hK.out.cells))
      | (go_at_call 13; (with_reducible refine (CA.out _).mono ?_); rintro e w1 ⟨rfl, hb⟩; (replace hK := Lib.hid (hK.out.keep hb)); (obtain ⟨⟨d0, d1, d2, d3, d4⟩, ⟨d5, d6, d7, d8, d9⟩, ⟨d10, d11, d12, d13, d14⟩⟩ := hK.out.cells)))
    go_ret
    exact ⟨rfl, hK.out.bel⟩
  · have hab' : ¬ (a : Int) < b := by omega
    have hab2 : (b : Int) ≤ a := by omega
    rw [decide_eq_false hab] at C7
    clear HC8 hab
    go_enter Try.func6, Try.ntmps6
    go_wp2_with (first
      | (go_at_call 11; (with_reducible refine (C1.out _).mono ?_); rintro e w1 ⟨rfl, hb⟩; (replace hK := Lib.hid (hK.out.keep hb)); (obtain ⟨⟨d0, d1, d2, d3, d4⟩, ⟨d5, d6, d7, d8, d9⟩, ⟨d10, d11, d12, d13, d14⟩⟩ := hK.out.cells))
      | (go_at_call 11; (with_reducible refine (C2.out _).mono ?_); rintro e w1 ⟨rfl, hb⟩; (replace hK := Lib.hid (hK.out.keep hb)); (obtain ⟨⟨d0, d1, d2, d3, d4⟩, ⟨d5, d6, d7, d8, d9⟩, ⟨d10, d11, d12, d13, d14⟩⟩ := hK.out.cells))
      | (go_at_call 11; (with_reducible refine (C3.out _).mono ?_); rintro e w1 ⟨rfl, hb⟩; (replace hK := Lib.hid (hK.out.keep hb)); (obtain ⟨⟨d0, d1, d2, d3, d4⟩, ⟨d5, d6, d7, d8, d9⟩, ⟨d10, d11, d12, d13, d14⟩⟩ := hK.out.cells))
      | (go_at_call 11; (with_reducible refine (C4.out _).mono ?_); rintro e w1 ⟨rfl, hb⟩; (replace hK := Lib.hid (hK.out.keep hb)); (obtain ⟨⟨d0, d1, d2, d3, d4⟩, ⟨d5, d6, d7, d8, d9⟩, ⟨d10, d11, d12, d13, d14⟩⟩ := hK.out.cells))
      | (go_at_call 11; (with_reducible refine (C5.out _).mono ?_); rintro e w1 ⟨rfl, hb⟩; (replace hK := Lib.hid (hK.out.keep hb)); (obtain ⟨⟨d0, d1, d2, d3, d4⟩, ⟨d5, d6, d7, d8, d9⟩, ⟨d10, d11, d12, d13, d14⟩⟩ := hK.out.cells))
      | (go_at_call 11; (with_reducible refine (C6.out _).mono ?_); rintro e w1 ⟨rfl, hb⟩; (replace hK := Lib.hid (hK.out.keep hb)); (obtain ⟨⟨d0, d1, d2, d3, d4⟩, ⟨d5, d6, d7, d8, d9⟩, ⟨d10, d11, d12, d13, d14⟩⟩ := hK.out.cells))
      | (go_at_call 11; (with_reducible refine (C7.out _).mono ?_); rintro e w1 ⟨rfl, hb⟩; (replace hK := Lib.hid (hK.out.keep hb)); (obtain ⟨⟨d0, d1, d2, d3, d4⟩, ⟨d5, d6, d7, d8, d9⟩, ⟨d10, d11, d12, d13, d14⟩⟩ := hK.out.cells))
      | (go_at_call 13; (with_reducible refine (CA.out _).mono ?_); rintro e w1 ⟨rfl, hb⟩; (replace hK := Lib.hid (hK.out.keep hb)); (obtain ⟨⟨d0, d1, d2, d3, d4⟩, ⟨d5, d6, d7, d8, d9⟩, ⟨d10, d11, d12, d13, d14⟩⟩ := hK.out.cells)))
    go_ret
    exact ⟨ret_bool (by simp; omega), hK.out.bel⟩
end Go.Proofs.Ytkkibcjndgfmfaa
