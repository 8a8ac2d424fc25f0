/- The walk of layer 3's law StuffOne. -/
import Derived.Test.YtagboeejegbcgaaSix
namespace Go.Proofs.Ytagboeejegbcgaa
open Go.RowKit Go.Lib

theorem below_drewN' {B : Nat} {a w : World} (h : Below B a w) (n : Nat) : Below B a (w.drewN n) := ⟨h.os, h.tape, h.output, h.size, h.block⟩

set_option maxHeartbeats 1000000 in
theorem one_no (s t : ByteArray) (a1 : Bool) (w : World) (htz : t.size ≤ 500) (ht : s.extract 0 (min (s.size : Int) 500).toNat = t) (hr : B.right t = false) :
    Calls Try.prog 8 #[.string s, .bool a1] w fun e w' => e = .returned (.bool true) ∧ Below w.heap.size w w' := by
  have CR0 := fun w => refright_any t w (by unfold maxLen; omega)
  rw [hr] at CR0
  have CR := Lib.hid CR0
  clear CR0
  have hB : Below w.heap.size w w := Below.refl _ _
  go_enter Try.func8, Try.ntmps8
  go_wp2_with (first
    | (go_at_call 16; (with_reducible refine (CR.out _).mono ?_); rintro e w' ⟨rfl, rfl⟩)
    | (go_at_call 12; (with_reducible refine (alive_any _).mono ?_); rintro e w' ⟨rfl, hb⟩; replace hB := hB.trans (hb.mono hB.size)))
  go_ret
  exact ⟨rfl, hB⟩

set_option maxHeartbeats 1000000 in
theorem one_five1 (s t a : ByteArray) (a1 : Bool) (m : Int) (w : World) (htz : t.size ≤ 500) (ht : s.extract 0 (min (s.size : Int) 500).toNat = t) (hr : B.right t = true) (hm : w.cell? ⟨0, 0, none⟩ = some (.int .i64 m))
    (CA : Hid (∀ w, Calls Try.prog 14 #[.string t] w fun e w' => e = .returned (.tuple #[.string a, .int .i64 0]) ∧ Below w.heap.size w w')) (hat2 : (a.toList == t.toList) = false)
    (CZ : Hid (∀ w : World, w.cell? ⟨0, 0, none⟩ = some (.int .i64 m) → Calls Try.prog 19 #[.string t, .string ⟨#[48, 48, 48, 48, 48]⟩] w fun e w' => e = .returned (.bool true) ∧ w = w')) :
    Calls Try.prog 8 #[.string s, .bool a1] w fun e w' => e = .returned (.bool true) ∧ Below w.heap.size w w' := by
  have CR0 := fun w => refright_any t w (by unfold maxLen; omega)
  rw [hr] at CR0
  have CR := Lib.hid CR0
  clear CR0
  have hB : Below w.heap.size w w := Below.refl _ _
  go_enter Try.func8, Try.ntmps8
  go_wp2_with (first
    | (go_at_call 16; (with_reducible refine (CR.out _).mono ?_); rintro e w' ⟨rfl, rfl⟩)
    | (go_at_call 14; (with_reducible refine (CA.out _).mono ?_); rintro e w' ⟨rfl, hb⟩; replace hB := hB.trans (hb.mono hB.size); replace hm := cell_keep hb hm)
    | (go_at_call 19; (with_reducible refine (CZ.out _ hm).mono ?_); rintro e w' ⟨rfl, rfl⟩)
    | (go_at_call 12; (with_reducible refine (alive_any _).mono ?_); rintro e w' ⟨rfl, hb⟩; replace hB := hB.trans (hb.mono hB.size)))
  go_ret
  exact ⟨rfl, hB⟩

set_option maxHeartbeats 1000000 in
theorem one_five2 (s t a : ByteArray) (a1 : Bool) (m : Int) (w : World) (htz : t.size ≤ 500) (ht : s.extract 0 (min (s.size : Int) 500).toNat = t) (hr : B.right t = true) (hm : w.cell? ⟨0, 0, none⟩ = some (.int .i64 m))
    (CA : Hid (∀ w, Calls Try.prog 14 #[.string t] w fun e w' => e = .returned (.tuple #[.string a, .int .i64 0]) ∧ Below w.heap.size w w')) (hat2 : (a.toList == t.toList) = false)
    (CZ : Hid (∀ w : World, w.cell? ⟨0, 0, none⟩ = some (.int .i64 m) → Calls Try.prog 19 #[.string t, .string ⟨#[48, 48, 48, 48, 48]⟩] w fun e w' => e = .returned (.bool false) ∧ w = w'))
    (CO : Hid (∀ w : World, w.cell? ⟨0, 0, none⟩ = some (.int .i64 m) → Calls Try.prog 19 #[.string t, .string ⟨#[49, 49, 49, 49, 49]⟩] w fun e w' => e = .returned (.bool true) ∧ w = w')) :
    Calls Try.prog 8 #[.string s, .bool a1] w fun e w' => e = .returned (.bool true) ∧ Below w.heap.size w w' := by
  have CR0 := fun w => refright_any t w (by unfold maxLen; omega)
  rw [hr] at CR0
  have CR := Lib.hid CR0
  clear CR0
  have hB : Below w.heap.size w w := Below.refl _ _
  go_enter Try.func8, Try.ntmps8
  go_wp2_with (first
    | (go_at_call 16; (with_reducible refine (CR.out _).mono ?_); rintro e w' ⟨rfl, rfl⟩)
    | (go_at_call 14; (with_reducible refine (CA.out _).mono ?_); rintro e w' ⟨rfl, hb⟩; replace hB := hB.trans (hb.mono hB.size); replace hm := cell_keep hb hm)
    | (go_at_call 19; (with_reducible refine (CZ.out _ hm).mono ?_); rintro e w' ⟨rfl, rfl⟩)
    | (go_at_call 19; (with_reducible refine (CO.out _ hm).mono ?_); rintro e w' ⟨rfl, rfl⟩)
    | (go_at_call 12; (with_reducible refine (alive_any _).mono ?_); rintro e w' ⟨rfl, hb⟩; replace hB := hB.trans (hb.mono hB.size)))
  go_ret
  exact ⟨rfl, hB⟩

set_option maxHeartbeats 4000000 in
theorem one_E0 (s t v b : ByteArray) (m : Int) (w : World) (_htz : t.size ≤ 500) (ht : s.extract 0 (min (s.size : Int) 500).toNat = t) (hr : B.right t = true) (hm : w.cell? ⟨0, 0, none⟩ = some (.int .i64 m)) (h0 : (t.size : Int) = 0)
    (CA : Hid (∀ w, Calls Try.prog 14 #[.string t] w fun e w' => e = .returned (.tuple #[.string t, .int .i64 0]) ∧ Below w.heap.size w w'))
    (CZ : Hid (∀ w : World, w.cell? ⟨0, 0, none⟩ = some (.int .i64 m) → Calls Try.prog 19 #[.string t, .string ⟨#[48, 48, 48, 48, 48]⟩] w fun e w' => e = .returned (.bool false) ∧ w = w'))
    (CO : Hid (∀ w : World, w.cell? ⟨0, 0, none⟩ = some (.int .i64 m) → Calls Try.prog 19 #[.string t, .string ⟨#[49, 49, 49, 49, 49]⟩] w fun e w' => e = .returned (.bool false) ∧ w = w'))
    (_hrz : t.size ≤ 600) (hv : t ++ ⟨#[49, 48, 48, 48, 48]⟩ = v) (hvz : (v.size : Int) ≤ 600) (hbz : b.size = v.size + 2) (hbl : ∀ h : b.size - 1 < b.size, b[b.size - 1] = 49)
    (CB : Hid (∀ w, Calls Try.prog 14 #[.string (v ++ ⟨#[48]⟩)] w fun e w' => e = .returned (.tuple #[.string b, .int .i64 0]) ∧ Below w.heap.size w w'))
    (CC : Hid (∀ w, Calls Try.prog 14 #[.string v] w fun e w' => e = .returned (.tuple #[.string v, .int .i64 0]) ∧ Below w.heap.size w w')) :
    Calls Try.prog 8 #[.string s, .bool false] w fun e w' => e = .returned (.bool true) ∧ Below w.heap.size w w' := by
  have CR0 := fun w => refright_any t w (by unfold maxLen; omega)
  rw [hr] at CR0
  have CR := Lib.hid CR0
  clear CR0
  have HBL := Lib.hid hbl
  have hb2 : ((b.size : Int) == (v.size : Int) + 2) = true := by simp; omega
  have hbs : (b.size : Int) ≤ 602 := by omega
  have hb1 : (1 : Int) ≤ b.size := by omega
  have HB1 : Hid (b.size - 1 < b.size) := Lib.hid (by omega)
  clear hbl hbz
  have hB : Below w.heap.size w w := Below.refl _ _
  have hl0 : (⟨#[49, 48, 48, 48, 48]⟩ : ByteArray)[0].toNat = 49 := rfl
  have hx1 : (⟨#[49, 48, 48, 48, 48]⟩ : ByteArray).extract 1 2 = ⟨#[48]⟩ := by decide
  have hx4 : (⟨#[49, 48, 48, 48, 48]⟩ : ByteArray).extract 4 5 = ⟨#[48]⟩ := by decide
  go_enter Try.func8, Try.ntmps8
  go_wp2_with (first
    | (go_at_call 16; (with_reducible refine (CR.out _).mono ?_); rintro e w' ⟨rfl, rfl⟩)
    | (go_at_call 14; (with_reducible refine (CA.out _).mono ?_); rintro e w' ⟨rfl, hb⟩; replace hB := hB.trans (hb.mono hB.size); replace hm := cell_keep hb hm)
    | (go_at_call 19; (with_reducible refine (CZ.out _ hm).mono ?_); rintro e w' ⟨rfl, rfl⟩)
    | (go_at_call 19; (with_reducible refine (CO.out _ hm).mono ?_); rintro e w' ⟨rfl, rfl⟩)
    | (go_at_call 12; (with_reducible refine (alive_any _).mono ?_); rintro e w' ⟨rfl, hb⟩; replace hB := hB.trans (hb.mono hB.size); replace hm := cell_keep hb hm))
  go_quiet (fail)
  rename_i nq
  clear ht
  replace hB := below_drewN' hB nq
  replace hm : (World.drewN _ nq).cell? ⟨0, 0, none⟩ = some (.int .i64 m) := hm
  go_wp2_with (first
    | (go_at_call 14; (with_reducible refine (CB.out _).mono ?_); rintro e w' ⟨rfl, hb⟩; replace hB := hB.trans (hb.mono hB.size); replace hm := cell_keep hb hm)
    | (go_at_call 14; (with_reducible refine (CC.out _).mono ?_); rintro e w' ⟨rfl, hb⟩; replace hB := hB.trans (hb.mono hB.size); replace hm := cell_keep hb hm)
    | (go_at_call 19; (with_reducible refine (CZ.out _ hm).mono ?_); rintro e w' ⟨rfl, rfl⟩)
    | (go_at_call 19; (with_reducible refine (CO.out _ hm).mono ?_); rintro e w' ⟨rfl, rfl⟩))
  have hbl := HBL.out HB1.out
  have p1 : IntKind.i64.wrap ((b.size : Int) - 1) = (b.size : Int) - 1 := IntWalk.i64_in _ (by omega)
  have p2 : ((b.size : Int) - 1).toNat = b.size - 1 := by omega
  have p3 : 0 ≤ (b.size : Int) - 1 := by omega
  have p4 : (b.size : Int) - 1 < b.size := by omega
  go_quiet (fail)
  rename_i nq
  clear hbl p1 p2
  replace hB := below_drewN' hB nq
  go_wp2
  go_ret
  exact ⟨rfl, hB⟩

set_option maxHeartbeats 4000000 in
theorem one_X0 (s t r v b : ByteArray) (m : Int) (w : World) (_htz : t.size ≤ 500) (ht : s.extract 0 (min (s.size : Int) 500).toNat = t) (hr : B.right t = true) (hm : w.cell? ⟨0, 0, none⟩ = some (.int .i64 m)) (h0 : (0 : Int) < t.size) (hlast : ∀ h : t.size - 1 < t.size, t[t.size - 1] = 49) (hrr : t ++ ⟨#[48]⟩ = r)
    (CA : Hid (∀ w, Calls Try.prog 14 #[.string t] w fun e w' => e = .returned (.tuple #[.string t, .int .i64 0]) ∧ Below w.heap.size w w'))
    (CZ : Hid (∀ w : World, w.cell? ⟨0, 0, none⟩ = some (.int .i64 m) → Calls Try.prog 19 #[.string t, .string ⟨#[48, 48, 48, 48, 48]⟩] w fun e w' => e = .returned (.bool false) ∧ w = w'))
    (CO : Hid (∀ w : World, w.cell? ⟨0, 0, none⟩ = some (.int .i64 m) → Calls Try.prog 19 #[.string t, .string ⟨#[49, 49, 49, 49, 49]⟩] w fun e w' => e = .returned (.bool false) ∧ w = w'))
    (CZr : Hid (∀ w : World, w.cell? ⟨0, 0, none⟩ = some (.int .i64 m) → Calls Try.prog 19 #[.string r, .string ⟨#[48, 48, 48, 48, 48]⟩] w fun e w' => e = .returned (.bool false) ∧ w = w'))
    (COr : Hid (∀ w : World, w.cell? ⟨0, 0, none⟩ = some (.int .i64 m) → Calls Try.prog 19 #[.string r, .string ⟨#[49, 49, 49, 49, 49]⟩] w fun e w' => e = .returned (.bool false) ∧ w = w'))
    (_hrz : r.size ≤ 600) (hv : r ++ ⟨#[49, 48, 48, 48, 48]⟩ = v) (hvz : (v.size : Int) ≤ 600) (hbz : b.size = v.size + 2) (hbl : ∀ h : b.size - 1 < b.size, b[b.size - 1] = 49)
    (CB : Hid (∀ w, Calls Try.prog 14 #[.string (v ++ ⟨#[48]⟩)] w fun e w' => e = .returned (.tuple #[.string b, .int .i64 0]) ∧ Below w.heap.size w w'))
    (CC : Hid (∀ w, Calls Try.prog 14 #[.string v] w fun e w' => e = .returned (.tuple #[.string v, .int .i64 0]) ∧ Below w.heap.size w w')) :
    Calls Try.prog 8 #[.string s, .bool false] w fun e w' => e = .returned (.bool true) ∧ Below w.heap.size w w' := by
  have CR0 := fun w => refright_any t w (by unfold maxLen; omega)
  rw [hr] at CR0
  have CR := Lib.hid CR0
  clear CR0
  have HBL := Lib.hid hbl
  have hb2 : ((b.size : Int) == (v.size : Int) + 2) = true := by simp; omega
  have hbs : (b.size : Int) ≤ 602 := by omega
  have hb1 : (1 : Int) ≤ b.size := by omega
  have HB1 : Hid (b.size - 1 < b.size) := Lib.hid (by omega)
  clear hbl hbz
  have hB : Below w.heap.size w w := Below.refl _ _
  have h0n : 0 < t.size := by omega
  have h0d : decide (0 < t.size) = true := by simp; omega
  have h1 : t.size - 1 < t.size := by omega
  have hl := hlast h1
  have q1 : IntKind.i64.wrap ((t.size : Int) - 1) = (t.size : Int) - 1 := IntWalk.i64_in _ (by omega)
  have q2 : ((t.size : Int) - 1).toNat = t.size - 1 := by omega
  have q3 : 0 ≤ (t.size : Int) - 1 := by omega
  have q4 : (t.size : Int) - 1 < t.size := by omega
  have q5 : (1 : Int) ≤ t.size := by omega
  have hl0 : (⟨#[49, 48, 48, 48, 48]⟩ : ByteArray)[0].toNat = 49 := rfl
  have hx1 : (⟨#[49, 48, 48, 48, 48]⟩ : ByteArray).extract 1 2 = ⟨#[48]⟩ := by decide
  have hx4 : (⟨#[49, 48, 48, 48, 48]⟩ : ByteArray).extract 4 5 = ⟨#[48]⟩ := by decide
  go_enter Try.func8, Try.ntmps8
  go_wp2_with (first
    | (go_at_call 16; (with_reducible refine (CR.out _).mono ?_); rintro e w' ⟨rfl, rfl⟩)
    | (go_at_call 14; (with_reducible refine (CA.out _).mono ?_); rintro e w' ⟨rfl, hb⟩; replace hB := hB.trans (hb.mono hB.size); replace hm := cell_keep hb hm)
    | (go_at_call 19; (with_reducible refine (CZ.out _ hm).mono ?_); rintro e w' ⟨rfl, rfl⟩)
    | (go_at_call 19; (with_reducible refine (CO.out _ hm).mono ?_); rintro e w' ⟨rfl, rfl⟩)
    | (go_at_call 19; (with_reducible refine (CZr.out _ hm).mono ?_); rintro e w' ⟨rfl, rfl⟩)
    | (go_at_call 19; (with_reducible refine (COr.out _ hm).mono ?_); rintro e w' ⟨rfl, rfl⟩)
    | (go_at_call 12; (with_reducible refine (alive_any _).mono ?_); rintro e w' ⟨rfl, hb⟩; replace hB := hB.trans (hb.mono hB.size); replace hm := cell_keep hb hm))
  go_quiet (fail)
  rename_i nq
  clear hl q1 q2 ht
  replace hB := below_drewN' hB nq
  replace hm : (World.drewN _ nq).cell? ⟨0, 0, none⟩ = some (.int .i64 m) := hm
  go_wp2_with (first
    | (go_at_call 14; (with_reducible refine (CB.out _).mono ?_); rintro e w' ⟨rfl, hb⟩; replace hB := hB.trans (hb.mono hB.size); replace hm := cell_keep hb hm)
    | (go_at_call 14; (with_reducible refine (CC.out _).mono ?_); rintro e w' ⟨rfl, hb⟩; replace hB := hB.trans (hb.mono hB.size); replace hm := cell_keep hb hm)
    | (go_at_call 19; (with_reducible refine (CZ.out _ hm).mono ?_); rintro e w' ⟨rfl, rfl⟩)
    | (go_at_call 19; (with_reducible refine (CO.out _ hm).mono ?_); rintro e w' ⟨rfl, rfl⟩)
    | (go_at_call 19; (with_reducible refine (CZr.out _ hm).mono ?_); rintro e w' ⟨rfl, rfl⟩)
    | (go_at_call 19; (with_reducible refine (COr.out _ hm).mono ?_); rintro e w' ⟨rfl, rfl⟩))
  have hbl := HBL.out HB1.out
  have p1 : IntKind.i64.wrap ((b.size : Int) - 1) = (b.size : Int) - 1 := IntWalk.i64_in _ (by omega)
  have p2 : ((b.size : Int) - 1).toNat = b.size - 1 := by omega
  have p3 : 0 ≤ (b.size : Int) - 1 := by omega
  have p4 : (b.size : Int) - 1 < b.size := by omega
  go_quiet (fail)
  rename_i nq
  clear hbl p1 p2
  replace hB := below_drewN' hB nq
  go_wp2
  go_ret
  exact ⟨rfl, hB⟩

set_option maxHeartbeats 4000000 in
theorem one_Y0 (s t v b : ByteArray) (m : Int) (w : World) (_htz : t.size ≤ 500) (ht : s.extract 0 (min (s.size : Int) 500).toNat = t) (hr : B.right t = true) (hm : w.cell? ⟨0, 0, none⟩ = some (.int .i64 m)) (h0 : (0 : Int) < t.size) (lc : UInt8) (hlast : ∀ h : t.size - 1 < t.size, t[t.size - 1] = lc) (hne : ((lc.toNat : Int) == 49) = false)
    (CA : Hid (∀ w, Calls Try.prog 14 #[.string t] w fun e w' => e = .returned (.tuple #[.string t, .int .i64 0]) ∧ Below w.heap.size w w'))
    (CZ : Hid (∀ w : World, w.cell? ⟨0, 0, none⟩ = some (.int .i64 m) → Calls Try.prog 19 #[.string t, .string ⟨#[48, 48, 48, 48, 48]⟩] w fun e w' => e = .returned (.bool false) ∧ w = w'))
    (CO : Hid (∀ w : World, w.cell? ⟨0, 0, none⟩ = some (.int .i64 m) → Calls Try.prog 19 #[.string t, .string ⟨#[49, 49, 49, 49, 49]⟩] w fun e w' => e = .returned (.bool false) ∧ w = w'))
    (_hrz : t.size ≤ 600) (hv : t ++ ⟨#[49, 48, 48, 48, 48]⟩ = v) (hvz : (v.size : Int) ≤ 600) (hbz : b.size = v.size + 2) (hbl : ∀ h : b.size - 1 < b.size, b[b.size - 1] = 49)
    (CB : Hid (∀ w, Calls Try.prog 14 #[.string (v ++ ⟨#[48]⟩)] w fun e w' => e = .returned (.tuple #[.string b, .int .i64 0]) ∧ Below w.heap.size w w'))
    (CC : Hid (∀ w, Calls Try.prog 14 #[.string v] w fun e w' => e = .returned (.tuple #[.string v, .int .i64 0]) ∧ Below w.heap.size w w')) :
    Calls Try.prog 8 #[.string s, .bool false] w fun e w' => e = .returned (.bool true) ∧ Below w.heap.size w w' := by
  have CR0 := fun w => refright_any t w (by unfold maxLen; omega)
  rw [hr] at CR0
  have CR := Lib.hid CR0
  clear CR0
  have HBL := Lib.hid hbl
  have hb2 : ((b.size : Int) == (v.size : Int) + 2) = true := by simp; omega
  have hbs : (b.size : Int) ≤ 602 := by omega
  have hb1 : (1 : Int) ≤ b.size := by omega
  have HB1 : Hid (b.size - 1 < b.size) := Lib.hid (by omega)
  clear hbl hbz
  have hB : Below w.heap.size w w := Below.refl _ _
  have h0n : 0 < t.size := by omega
  have h0d : decide (0 < t.size) = true := by simp; omega
  have h1 : t.size - 1 < t.size := by omega
  have hl := hlast h1
  have q1 : IntKind.i64.wrap ((t.size : Int) - 1) = (t.size : Int) - 1 := IntWalk.i64_in _ (by omega)
  have q2 : ((t.size : Int) - 1).toNat = t.size - 1 := by omega
  have q3 : 0 ≤ (t.size : Int) - 1 := by omega
  have q4 : (t.size : Int) - 1 < t.size := by omega
  have q5 : (1 : Int) ≤ t.size := by omega
  have hl0 : (⟨#[49, 48, 48, 48, 48]⟩ : ByteArray)[0].toNat = 49 := rfl
  have hx1 : (⟨#[49, 48, 48, 48, 48]⟩ : ByteArray).extract 1 2 = ⟨#[48]⟩ := by decide
  have hx4 : (⟨#[49, 48, 48, 48, 48]⟩ : ByteArray).extract 4 5 = ⟨#[48]⟩ := by decide
  go_enter Try.func8, Try.ntmps8
  go_wp2_with (first
    | (go_at_call 16; (with_reducible refine (CR.out _).mono ?_); rintro e w' ⟨rfl, rfl⟩)
    | (go_at_call 14; (with_reducible refine (CA.out _).mono ?_); rintro e w' ⟨rfl, hb⟩; replace hB := hB.trans (hb.mono hB.size); replace hm := cell_keep hb hm)
    | (go_at_call 19; (with_reducible refine (CZ.out _ hm).mono ?_); rintro e w' ⟨rfl, rfl⟩)
    | (go_at_call 19; (with_reducible refine (CO.out _ hm).mono ?_); rintro e w' ⟨rfl, rfl⟩)
    | (go_at_call 12; (with_reducible refine (alive_any _).mono ?_); rintro e w' ⟨rfl, hb⟩; replace hB := hB.trans (hb.mono hB.size); replace hm := cell_keep hb hm))
  go_quiet (fail)
  rename_i nq
  clear hl q1 q2 ht
  replace hB := below_drewN' hB nq
  replace hm : (World.drewN _ nq).cell? ⟨0, 0, none⟩ = some (.int .i64 m) := hm
  go_wp2_with (first
    | (go_at_call 14; (with_reducible refine (CB.out _).mono ?_); rintro e w' ⟨rfl, hb⟩; replace hB := hB.trans (hb.mono hB.size); replace hm := cell_keep hb hm)
    | (go_at_call 14; (with_reducible refine (CC.out _).mono ?_); rintro e w' ⟨rfl, hb⟩; replace hB := hB.trans (hb.mono hB.size); replace hm := cell_keep hb hm)
    | (go_at_call 19; (with_reducible refine (CZ.out _ hm).mono ?_); rintro e w' ⟨rfl, rfl⟩)
    | (go_at_call 19; (with_reducible refine (CO.out _ hm).mono ?_); rintro e w' ⟨rfl, rfl⟩))
  have hbl := HBL.out HB1.out
  have p1 : IntKind.i64.wrap ((b.size : Int) - 1) = (b.size : Int) - 1 := IntWalk.i64_in _ (by omega)
  have p2 : ((b.size : Int) - 1).toNat = b.size - 1 := by omega
  have p3 : 0 ≤ (b.size : Int) - 1 := by omega
  have p4 : (b.size : Int) - 1 < b.size := by omega
  go_quiet (fail)
  rename_i nq
  clear hbl p1 p2
  replace hB := below_drewN' hB nq
  go_wp2
  go_ret
  exact ⟨rfl, hB⟩

set_option maxHeartbeats 4000000 in
theorem one_E1 (s t v b : ByteArray) (m : Int) (w : World) (_htz : t.size ≤ 500) (ht : s.extract 0 (min (s.size : Int) 500).toNat = t) (hr : B.right t = true) (hm : w.cell? ⟨0, 0, none⟩ = some (.int .i64 m)) (h0 : (t.size : Int) = 0)
    (CA : Hid (∀ w, Calls Try.prog 14 #[.string t] w fun e w' => e = .returned (.tuple #[.string t, .int .i64 0]) ∧ Below w.heap.size w w'))
    (CZ : Hid (∀ w : World, w.cell? ⟨0, 0, none⟩ = some (.int .i64 m) → Calls Try.prog 19 #[.string t, .string ⟨#[48, 48, 48, 48, 48]⟩] w fun e w' => e = .returned (.bool false) ∧ w = w'))
    (CO : Hid (∀ w : World, w.cell? ⟨0, 0, none⟩ = some (.int .i64 m) → Calls Try.prog 19 #[.string t, .string ⟨#[49, 49, 49, 49, 49]⟩] w fun e w' => e = .returned (.bool false) ∧ w = w'))
    (_hrz : t.size ≤ 600) (hv : t ++ ⟨#[48, 49, 49, 49, 49]⟩ = v) (hvz : (v.size : Int) ≤ 600) (hbz : b.size = v.size + 2) (hbl : ∀ h : b.size - 1 < b.size, b[b.size - 1] = 48)
    (CB : Hid (∀ w, Calls Try.prog 14 #[.string (v ++ ⟨#[49]⟩)] w fun e w' => e = .returned (.tuple #[.string b, .int .i64 0]) ∧ Below w.heap.size w w'))
    (CC : Hid (∀ w, Calls Try.prog 14 #[.string v] w fun e w' => e = .returned (.tuple #[.string v, .int .i64 0]) ∧ Below w.heap.size w w')) :
    Calls Try.prog 8 #[.string s, .bool true] w fun e w' => e = .returned (.bool true) ∧ Below w.heap.size w w' := by
  have CR0 := fun w => refright_any t w (by unfold maxLen; omega)
  rw [hr] at CR0
  have CR := Lib.hid CR0
  clear CR0
  have HBL := Lib.hid hbl
  have hb2 : ((b.size : Int) == (v.size : Int) + 2) = true := by simp; omega
  have hbs : (b.size : Int) ≤ 602 := by omega
  have hb1 : (1 : Int) ≤ b.size := by omega
  have HB1 : Hid (b.size - 1 < b.size) := Lib.hid (by omega)
  clear hbl hbz
  have hB : Below w.heap.size w w := Below.refl _ _
  have hl0 : (⟨#[48, 49, 49, 49, 49]⟩ : ByteArray)[0].toNat = 48 := rfl
  have hx1 : (⟨#[48, 49, 49, 49, 49]⟩ : ByteArray).extract 1 2 = ⟨#[49]⟩ := by decide
  have hx4 : (⟨#[48, 49, 49, 49, 49]⟩ : ByteArray).extract 4 5 = ⟨#[49]⟩ := by decide
  go_enter Try.func8, Try.ntmps8
  go_wp2_with (first
    | (go_at_call 16; (with_reducible refine (CR.out _).mono ?_); rintro e w' ⟨rfl, rfl⟩)
    | (go_at_call 14; (with_reducible refine (CA.out _).mono ?_); rintro e w' ⟨rfl, hb⟩; replace hB := hB.trans (hb.mono hB.size); replace hm := cell_keep hb hm)
    | (go_at_call 19; (with_reducible refine (CZ.out _ hm).mono ?_); rintro e w' ⟨rfl, rfl⟩)
    | (go_at_call 19; (with_reducible refine (CO.out _ hm).mono ?_); rintro e w' ⟨rfl, rfl⟩)
    | (go_at_call 12; (with_reducible refine (alive_any _).mono ?_); rintro e w' ⟨rfl, hb⟩; replace hB := hB.trans (hb.mono hB.size); replace hm := cell_keep hb hm))
  go_quiet (fail)
  rename_i nq
  clear ht
  replace hB := below_drewN' hB nq
  replace hm : (World.drewN _ nq).cell? ⟨0, 0, none⟩ = some (.int .i64 m) := hm
  go_wp2_with (first
    | (go_at_call 14; (with_reducible refine (CB.out _).mono ?_); rintro e w' ⟨rfl, hb⟩; replace hB := hB.trans (hb.mono hB.size); replace hm := cell_keep hb hm)
    | (go_at_call 14; (with_reducible refine (CC.out _).mono ?_); rintro e w' ⟨rfl, hb⟩; replace hB := hB.trans (hb.mono hB.size); replace hm := cell_keep hb hm)
    | (go_at_call 19; (with_reducible refine (CZ.out _ hm).mono ?_); rintro e w' ⟨rfl, rfl⟩)
    | (go_at_call 19; (with_reducible refine (CO.out _ hm).mono ?_); rintro e w' ⟨rfl, rfl⟩))
  have hbl := HBL.out HB1.out
  have p1 : IntKind.i64.wrap ((b.size : Int) - 1) = (b.size : Int) - 1 := IntWalk.i64_in _ (by omega)
  have p2 : ((b.size : Int) - 1).toNat = b.size - 1 := by omega
  have p3 : 0 ≤ (b.size : Int) - 1 := by omega
  have p4 : (b.size : Int) - 1 < b.size := by omega
  go_quiet (fail)
  rename_i nq
  clear hbl p1 p2
  replace hB := below_drewN' hB nq
  go_wp2
  go_ret
  exact ⟨rfl, hB⟩

set_option maxHeartbeats 4000000 in
theorem one_X1 (s t r v b : ByteArray) (m : Int) (w : World) (_htz : t.size ≤ 500) (ht : s.extract 0 (min (s.size : Int) 500).toNat = t) (hr : B.right t = true) (hm : w.cell? ⟨0, 0, none⟩ = some (.int .i64 m)) (h0 : (0 : Int) < t.size) (hlast : ∀ h : t.size - 1 < t.size, t[t.size - 1] = 48) (hrr : t ++ ⟨#[49]⟩ = r)
    (CA : Hid (∀ w, Calls Try.prog 14 #[.string t] w fun e w' => e = .returned (.tuple #[.string t, .int .i64 0]) ∧ Below w.heap.size w w'))
    (CZ : Hid (∀ w : World, w.cell? ⟨0, 0, none⟩ = some (.int .i64 m) → Calls Try.prog 19 #[.string t, .string ⟨#[48, 48, 48, 48, 48]⟩] w fun e w' => e = .returned (.bool false) ∧ w = w'))
    (CO : Hid (∀ w : World, w.cell? ⟨0, 0, none⟩ = some (.int .i64 m) → Calls Try.prog 19 #[.string t, .string ⟨#[49, 49, 49, 49, 49]⟩] w fun e w' => e = .returned (.bool false) ∧ w = w'))
    (CZr : Hid (∀ w : World, w.cell? ⟨0, 0, none⟩ = some (.int .i64 m) → Calls Try.prog 19 #[.string r, .string ⟨#[48, 48, 48, 48, 48]⟩] w fun e w' => e = .returned (.bool false) ∧ w = w'))
    (COr : Hid (∀ w : World, w.cell? ⟨0, 0, none⟩ = some (.int .i64 m) → Calls Try.prog 19 #[.string r, .string ⟨#[49, 49, 49, 49, 49]⟩] w fun e w' => e = .returned (.bool false) ∧ w = w'))
    (_hrz : r.size ≤ 600) (hv : r ++ ⟨#[48, 49, 49, 49, 49]⟩ = v) (hvz : (v.size : Int) ≤ 600) (hbz : b.size = v.size + 2) (hbl : ∀ h : b.size - 1 < b.size, b[b.size - 1] = 48)
    (CB : Hid (∀ w, Calls Try.prog 14 #[.string (v ++ ⟨#[49]⟩)] w fun e w' => e = .returned (.tuple #[.string b, .int .i64 0]) ∧ Below w.heap.size w w'))
    (CC : Hid (∀ w, Calls Try.prog 14 #[.string v] w fun e w' => e = .returned (.tuple #[.string v, .int .i64 0]) ∧ Below w.heap.size w w')) :
    Calls Try.prog 8 #[.string s, .bool true] w fun e w' => e = .returned (.bool true) ∧ Below w.heap.size w w' := by
  have CR0 := fun w => refright_any t w (by unfold maxLen; omega)
  rw [hr] at CR0
  have CR := Lib.hid CR0
  clear CR0
  have HBL := Lib.hid hbl
  have hb2 : ((b.size : Int) == (v.size : Int) + 2) = true := by simp; omega
  have hbs : (b.size : Int) ≤ 602 := by omega
  have hb1 : (1 : Int) ≤ b.size := by omega
  have HB1 : Hid (b.size - 1 < b.size) := Lib.hid (by omega)
  clear hbl hbz
  have hB : Below w.heap.size w w := Below.refl _ _
  have h0n : 0 < t.size := by omega
  have h0d : decide (0 < t.size) = true := by simp; omega
  have h1 : t.size - 1 < t.size := by omega
  have hl := hlast h1
  have q1 : IntKind.i64.wrap ((t.size : Int) - 1) = (t.size : Int) - 1 := IntWalk.i64_in _ (by omega)
  have q2 : ((t.size : Int) - 1).toNat = t.size - 1 := by omega
  have q3 : 0 ≤ (t.size : Int) - 1 := by omega
  have q4 : (t.size : Int) - 1 < t.size := by omega
  have q5 : (1 : Int) ≤ t.size := by omega
  have hl0 : (⟨#[48, 49, 49, 49, 49]⟩ : ByteArray)[0].toNat = 48 := rfl
  have hx1 : (⟨#[48, 49, 49, 49, 49]⟩ : ByteArray).extract 1 2 = ⟨#[49]⟩ := by decide
  have hx4 : (⟨#[48, 49, 49, 49, 49]⟩ : ByteArray).extract 4 5 = ⟨#[49]⟩ := by decide
  go_enter Try.func8, Try.ntmps8
  go_wp2_with (first
    | (go_at_call 16; (with_reducible refine (CR.out _).mono ?_); rintro e w' ⟨rfl, rfl⟩)
    | (go_at_call 14; (with_reducible refine (CA.out _).mono ?_); rintro e w' ⟨rfl, hb⟩; replace hB := hB.trans (hb.mono hB.size); replace hm := cell_keep hb hm)
    | (go_at_call 19; (with_reducible refine (CZ.out _ hm).mono ?_); rintro e w' ⟨rfl, rfl⟩)
    | (go_at_call 19; (with_reducible refine (CO.out _ hm).mono ?_); rintro e w' ⟨rfl, rfl⟩)
    | (go_at_call 19; (with_reducible refine (CZr.out _ hm).mono ?_); rintro e w' ⟨rfl, rfl⟩)
    | (go_at_call 19; (with_reducible refine (COr.out _ hm).mono ?_); rintro e w' ⟨rfl, rfl⟩)
    | (go_at_call 12; (with_reducible refine (alive_any _).mono ?_); rintro e w' ⟨rfl, hb⟩; replace hB := hB.trans (hb.mono hB.size); replace hm := cell_keep hb hm))
  go_quiet (fail)
  rename_i nq
  clear hl q1 q2 ht
  replace hB := below_drewN' hB nq
  replace hm : (World.drewN _ nq).cell? ⟨0, 0, none⟩ = some (.int .i64 m) := hm
  go_wp2_with (first
    | (go_at_call 14; (with_reducible refine (CB.out _).mono ?_); rintro e w' ⟨rfl, hb⟩; replace hB := hB.trans (hb.mono hB.size); replace hm := cell_keep hb hm)
    | (go_at_call 14; (with_reducible refine (CC.out _).mono ?_); rintro e w' ⟨rfl, hb⟩; replace hB := hB.trans (hb.mono hB.size); replace hm := cell_keep hb hm)
    | (go_at_call 19; (with_reducible refine (CZ.out _ hm).mono ?_); rintro e w' ⟨rfl, rfl⟩)
    | (go_at_call 19; (with_reducible refine (CO.out _ hm).mono ?_); rintro e w' ⟨rfl, rfl⟩)
    | (go_at_call 19; (with_reducible refine (CZr.out _ hm).mono ?_); rintro e w' ⟨rfl, rfl⟩)
    | (go_at_call 19; (with_reducible refine (COr.out _ hm).mono ?_); rintro e w' ⟨rfl, rfl⟩))
  have hbl := HBL.out HB1.out
  have p1 : IntKind.i64.wrap ((b.size : Int) - 1) = (b.size : Int) - 1 := IntWalk.i64_in _ (by omega)
  have p2 : ((b.size : Int) - 1).toNat = b.size - 1 := by omega
  have p3 : 0 ≤ (b.size : Int) - 1 := by omega
  have p4 : (b.size : Int) - 1 < b.size := by omega
  go_quiet (fail)
  rename_i nq
  clear hbl p1 p2
  replace hB := below_drewN' hB nq
  go_wp2
  go_ret
  exact ⟨rfl, hB⟩

set_option maxHeartbeats 4000000 in
theorem one_Y1 (s t v b : ByteArray) (m : Int) (w : World) (_htz : t.size ≤ 500) (ht : s.extract 0 (min (s.size : Int) 500).toNat = t) (hr : B.right t = true) (hm : w.cell? ⟨0, 0, none⟩ = some (.int .i64 m)) (h0 : (0 : Int) < t.size) (lc : UInt8) (hlast : ∀ h : t.size - 1 < t.size, t[t.size - 1] = lc) (hne : ((lc.toNat : Int) == 48) = false)
    (CA : Hid (∀ w, Calls Try.prog 14 #[.string t] w fun e w' => e = .returned (.tuple #[.string t, .int .i64 0]) ∧ Below w.heap.size w w'))
    (CZ : Hid (∀ w : World, w.cell? ⟨0, 0, none⟩ = some (.int .i64 m) → Calls Try.prog 19 #[.string t, .string ⟨#[48, 48, 48, 48, 48]⟩] w fun e w' => e = .returned (.bool false) ∧ w = w'))
    (CO : Hid (∀ w : World, w.cell? ⟨0, 0, none⟩ = some (.int .i64 m) → Calls Try.prog 19 #[.string t, .string ⟨#[49, 49, 49, 49, 49]⟩] w fun e w' => e = .returned (.bool false) ∧ w = w'))
    (_hrz : t.size ≤ 600) (hv : t ++ ⟨#[48, 49, 49, 49, 49]⟩ = v) (hvz : (v.size : Int) ≤ 600) (hbz : b.size = v.size + 2) (hbl : ∀ h : b.size - 1 < b.size, b[b.size - 1] = 48)
    (CB : Hid (∀ w, Calls Try.prog 14 #[.string (v ++ ⟨#[49]⟩)] w fun e w' => e = .returned (.tuple #[.string b, .int .i64 0]) ∧ Below w.heap.size w w'))
    (CC : Hid (∀ w, Calls Try.prog 14 #[.string v] w fun e w' => e = .returned (.tuple #[.string v, .int .i64 0]) ∧ Below w.heap.size w w')) :
    Calls Try.prog 8 #[.string s, .bool true] w fun e w' => e = .returned (.bool true) ∧ Below w.heap.size w w' := by
  have CR0 := fun w => refright_any t w (by unfold maxLen; omega)
  rw [hr] at CR0
  have CR := Lib.hid CR0
  clear CR0
  have HBL := Lib.hid hbl
  have hb2 : ((b.size : Int) == (v.size : Int) + 2) = true := by simp; omega
  have hbs : (b.size : Int) ≤ 602 := by omega
  have hb1 : (1 : Int) ≤ b.size := by omega
  have HB1 : Hid (b.size - 1 < b.size) := Lib.hid (by omega)
  clear hbl hbz
  have hB : Below w.heap.size w w := Below.refl _ _
  have h0n : 0 < t.size := by omega
  have h0d : decide (0 < t.size) = true := by simp; omega
  have h1 : t.size - 1 < t.size := by omega
  have hl := hlast h1
  have q1 : IntKind.i64.wrap ((t.size : Int) - 1) = (t.size : Int) - 1 := IntWalk.i64_in _ (by omega)
  have q2 : ((t.size : Int) - 1).toNat = t.size - 1 := by omega
  have q3 : 0 ≤ (t.size : Int) - 1 := by omega
  have q4 : (t.size : Int) - 1 < t.size := by omega
  have q5 : (1 : Int) ≤ t.size := by omega
  have hl0 : (⟨#[48, 49, 49, 49, 49]⟩ : ByteArray)[0].toNat = 48 := rfl
  have hx1 : (⟨#[48, 49, 49, 49, 49]⟩ : ByteArray).extract 1 2 = ⟨#[49]⟩ := by decide
  have hx4 : (⟨#[48, 49, 49, 49, 49]⟩ : ByteArray).extract 4 5 = ⟨#[49]⟩ := by decide
  go_enter Try.func8, Try.ntmps8
  go_wp2_with (first
    | (go_at_call 16; (with_reducible refine (CR.out _).mono ?_); rintro e w' ⟨rfl, rfl⟩)
    | (go_at_call 14; (with_reducible refine (CA.out _).mono ?_); rintro e w' ⟨rfl, hb⟩; replace hB := hB.trans (hb.mono hB.size); replace hm := cell_keep hb hm)
    | (go_at_call 19; (with_reducible refine (CZ.out _ hm).mono ?_); rintro e w' ⟨rfl, rfl⟩)
    | (go_at_call 19; (with_reducible refine (CO.out _ hm).mono ?_); rintro e w' ⟨rfl, rfl⟩)
    | (go_at_call 12; (with_reducible refine (alive_any _).mono ?_); rintro e w' ⟨rfl, hb⟩; replace hB := hB.trans (hb.mono hB.size); replace hm := cell_keep hb hm))
  go_quiet (fail)
  rename_i nq
  clear hl q1 q2 ht
  replace hB := below_drewN' hB nq
  replace hm : (World.drewN _ nq).cell? ⟨0, 0, none⟩ = some (.int .i64 m) := hm
  go_wp2_with (first
    | (go_at_call 14; (with_reducible refine (CB.out _).mono ?_); rintro e w' ⟨rfl, hb⟩; replace hB := hB.trans (hb.mono hB.size); replace hm := cell_keep hb hm)
    | (go_at_call 14; (with_reducible refine (CC.out _).mono ?_); rintro e w' ⟨rfl, hb⟩; replace hB := hB.trans (hb.mono hB.size); replace hm := cell_keep hb hm)
    | (go_at_call 19; (with_reducible refine (CZ.out _ hm).mono ?_); rintro e w' ⟨rfl, rfl⟩)
    | (go_at_call 19; (with_reducible refine (CO.out _ hm).mono ?_); rintro e w' ⟨rfl, rfl⟩))
  have hbl := HBL.out HB1.out
  have p1 : IntKind.i64.wrap ((b.size : Int) - 1) = (b.size : Int) - 1 := IntWalk.i64_in _ (by omega)
  have p2 : ((b.size : Int) - 1).toNat = b.size - 1 := by omega
  have p3 : 0 ≤ (b.size : Int) - 1 := by omega
  have p4 : (b.size : Int) - 1 < b.size := by omega
  go_quiet (fail)
  rename_i nq
  clear hbl p1 p2
  replace hB := below_drewN' hB nq
  go_wp2
  go_ret
  exact ⟨rfl, hB⟩

theorem no_five {l : List UInt8} (hz : Lib.contains l [48, 48, 48, 48, 48] = false) (ho : Lib.contains l [49, 49, 49, 49, 49] = false) : ∀ p q c, B.okc c = true → l ≠ p ++ List.replicate 5 c ++ q := by
  intro p q c hc
  rcases B.okc_cases hc with rfl | rfl
  · exact B.contains_not hz p q
  · exact B.contains_not ho p q
theorem bare_stuff (t : ByteArray) (hr : B.right t = true) (h : (B.stf t.data.toList).2 = t.data.toList) : ∀ w, Calls Try.prog 14 #[.string t] w fun e w' => e = .returned (.tuple #[.string t, .int .i64 0]) ∧ Below w.heap.size w w' := fun w => by
  have e : B.stfS t = t := by unfold B.stfS; rw [h, of_list]
  have := stuff_yes t w hr (by rw [e]; exact B.right_size hr)
  rwa [e] at this
theorem bare_contains {r : ByteArray} {sub : List UInt8} {c : UInt8} (hall : r.data.toList.all B.okc = true) (h : (B.stf r.data.toList).2 = r.data.toList) (hsub : sub = List.replicate 5 c) : Lib.contains r.data.toList sub = false := by
  rw [Bool.eq_false_iff]
  intro hc
  obtain ⟨p, q, e⟩ := B.contains_of hc
  rw [hsub] at e
  rw [e] at h hall
  exact B.five_yes hall h
theorem last_of (t : ByteArray) (p : List UInt8) (c : UInt8) (n : Nat) (hp : t.data.toList = p ++ List.replicate n c) (hn : 1 ≤ n) (h : t.size - 1 < t.size) : t[t.size - 1] = c := by
  have e : t[t.size - 1] = t.data.toList[t.size - 1]'(by rw [B.size_len]; exact h) := rfl
  have hz : t.size = p.length + n := by rw [← B.size_len, hp]; simp
  rw [e]
  simp only [hp]
  rw [List.getElem_append_right (by omega)]
  exact List.getElem_replicate _
theorem one_end (r : ByteArray) (x y : UInt8) (hrz : r.size ≤ 501) (hall : r.data.toList.all B.okc = true) (hs : (B.stf r.data.toList).2 = r.data.toList) (hx : x.toNat ≠ (B.stf r.data.toList).1.1) (hy : y.toNat ≠ x.toNat) (ho : B.other y = x) (hxo : B.okc x = true) (hyo : B.okc y = true) :
    ∃ b : ByteArray, (r ++ ⟨#[x, y, y, y, y]⟩ : ByteArray).size = r.size + 5 ∧ ((r ++ ⟨#[x, y, y, y, y]⟩ : ByteArray).size : Int) ≤ 600 ∧ b.size = (r ++ ⟨#[x, y, y, y, y]⟩ : ByteArray).size + 2 ∧ (∀ h : b.size - 1 < b.size, b[b.size - 1] = x) ∧
      Hid (∀ w, Calls Try.prog 14 #[.string ((r ++ ⟨#[x, y, y, y, y]⟩) ++ ⟨#[y]⟩)] w fun e w' => e = .returned (.tuple #[.string b, .int .i64 0]) ∧ Below w.heap.size w w') ∧
      Hid (∀ w, Calls Try.prog 14 #[.string (r ++ ⟨#[x, y, y, y, y]⟩)] w fun e w' => e = .returned (.tuple #[.string (r ++ ⟨#[x, y, y, y, y]⟩), .int .i64 0]) ∧ Below w.heap.size w w') := by
  obtain ⟨m1, m2⟩ := B.one_more hs hx hy ho
  have hvz : (r ++ ⟨#[x, y, y, y, y]⟩ : ByteArray).size = r.size + 5 := by rw [ByteArray.size_append]; rfl
  have huz : ((r ++ ⟨#[x, y, y, y, y]⟩) ++ ⟨#[y]⟩ : ByteArray).size = r.size + 6 := by rw [ByteArray.size_append, hvz]; rfl
  have hvl : (r ++ ⟨#[x, y, y, y, y]⟩ : ByteArray).data.toList = r.data.toList ++ [x, y, y, y, y] := by rw [B.cat_list]
  have hul : ((r ++ ⟨#[x, y, y, y, y]⟩) ++ ⟨#[y]⟩ : ByteArray).data.toList = r.data.toList ++ [x, y, y, y, y, y] := by rw [B.cat_list, hvl]; simp
  have hvr : B.right (r ++ ⟨#[x, y, y, y, y]⟩) = true := right_of_all (by omega) (by rw [hvl, List.all_append, hall]; simp [hxo, hyo])
  have hur : B.right ((r ++ ⟨#[x, y, y, y, y]⟩) ++ ⟨#[y]⟩) = true := right_of_all (by omega) (by rw [hul, List.all_append, hall]; simp [hxo, hyo])
  have hbl : (B.stfS ((r ++ ⟨#[x, y, y, y, y]⟩) ++ ⟨#[y]⟩)).data.toList = r.data.toList ++ [x, y, y, y, y, y, x] := by rw [B.stfS_list, hul, m2]
  have hbz : (B.stfS ((r ++ ⟨#[x, y, y, y, y]⟩) ++ ⟨#[y]⟩)).size = r.size + 7 := by rw [← B.size_len, hbl]; simp
  have hvs : (B.stf (r ++ ⟨#[x, y, y, y, y]⟩ : ByteArray).data.toList).2 = (r ++ ⟨#[x, y, y, y, y]⟩ : ByteArray).data.toList := by rw [hvl]; exact m1
  have CC := bare_stuff _ hvr hvs
  have CB := fun w => stuff_yes _ w hur (by omega)
  clear hvs hvr hur hul hvl huz m1 m2
  generalize B.stfS ((r ++ ⟨#[x, y, y, y, y]⟩) ++ ⟨#[y]⟩) = b at *
  refine ⟨b, hvz, by omega, by omega, fun h => ?_, Lib.hid CB, Lib.hid CC⟩
  exact last_of b (r.data.toList ++ [x, y, y, y, y, y]) x 1 (by rw [hbl]; simp) (by omega) h


theorem one_go0 (s t : ByteArray) (m : Int) (w : World) (htz : t.size ≤ 500) (ht : s.extract 0 (min (s.size : Int) 500).toNat = t) (hr : B.right t = true) (hm : w.cell? ⟨0, 0, none⟩ = some (.int .i64 m))
    (hz : Lib.contains t.data.toList [48, 48, 48, 48, 48] = false) (ho : Lib.contains t.data.toList [49, 49, 49, 49, 49] = false) :
    Calls Try.prog 8 #[.string s, .bool false] w fun e w' => e = .returned (.bool true) ∧ Below w.heap.size w w' := by
  have hall := B.right_all hr
  obtain ⟨h1, h2⟩ := B.five_no hall (no_five hz ho)
  have CA := Lib.hid (bare_stuff t hr h1)
  have CZ := Lib.hid (fun (w : World) (hm : w.cell? ⟨0, 0, none⟩ = some (.int .i64 m)) => contains_6 t ⟨#[48, 48, 48, 48, 48]⟩ m w (by omega) hm hz)
  have CO := Lib.hid (fun (w : World) (hm : w.cell? ⟨0, 0, none⟩ = some (.int .i64 m)) => contains_6 t ⟨#[49, 49, 49, 49, 49]⟩ m w (by omega) hm ho)
  rcases h2 with ⟨hnil, hs⟩ | ⟨p, c, n, hp, hn, hc, hs⟩
  · have h0 : t.size = 0 := by rw [← B.size_len, hnil]; rfl
    obtain ⟨b, hv1, hv2, hb1, hb2, CB, CC⟩ := one_end t 49 48 (by omega) hall h1 (by rw [hs]; decide) (by decide) rfl (by decide) (by decide)
    exact one_E0 s t _ b m w htz ht hr hm (by omega) CA CZ CO (by omega) rfl hv2 hb1 hb2 CB CC
  · have h0 : 0 < t.size := by rw [← B.size_len, hp]; simp; omega
    have hlast : ∀ h : t.size - 1 < t.size, t[t.size - 1] = c := fun h => last_of t p c n hp hn h
    by_cases hcx : c = 49
    · subst hcx
      have hyo : B.okc 48 = true := by decide
      have hra : (t ++ ⟨#[48]⟩ : ByteArray).data.toList = t.data.toList ++ [48] := by rw [B.cat_list]
      have hk : B.kn (B.stf t.data.toList).1 ((48 : UInt8).toNat) = ((48 : UInt8).toNat, 1) := by rw [hs]; exact B.kn_one (by decide)
      have hst : B.stf (t ++ ⟨#[48]⟩ : ByteArray).data.toList = (((48 : UInt8).toNat, 1), (t ++ ⟨#[48]⟩ : ByteArray).data.toList) := by
        rw [hra, B.stf_plain (by rw [hk]; decide), hk, h1]
      have hra2 : (t ++ ⟨#[48]⟩ : ByteArray).data.toList.all B.okc = true := by rw [hra]; exact B.all_snoc.2 ⟨hall, hyo⟩
      have hrz : (t ++ ⟨#[48]⟩ : ByteArray).size = t.size + 1 := by rw [ByteArray.size_append]; rfl
      have hst2 : (B.stf (t ++ ⟨#[48]⟩ : ByteArray).data.toList).2 = (t ++ ⟨#[48]⟩ : ByteArray).data.toList := by rw [hst]
      obtain ⟨b, hv1, hv2, hb1, hb2, CB, CC⟩ := one_end (t ++ ⟨#[48]⟩) 49 48 (by omega) hra2 hst2 (by rw [hst]; show (_ : Nat) ≠ _; simp only; decide) (by decide) rfl (by decide) (by decide)
      have CZr := Lib.hid (fun (w : World) (hm : w.cell? ⟨0, 0, none⟩ = some (.int .i64 m)) => contains_6 (t ++ ⟨#[48]⟩) ⟨#[48, 48, 48, 48, 48]⟩ m w (by omega) hm (bare_contains hra2 hst2 (c := 48) rfl))
      have COr := Lib.hid (fun (w : World) (hm : w.cell? ⟨0, 0, none⟩ = some (.int .i64 m)) => contains_6 (t ++ ⟨#[48]⟩) ⟨#[49, 49, 49, 49, 49]⟩ m w (by omega) hm (bare_contains hra2 hst2 (c := 49) rfl))
      exact one_X0 s t _ _ b m w htz ht hr hm (by omega) hlast rfl CA CZ CO CZr COr (by omega) rfl hv2 hb1 hb2 CB CC
    · have hne : c.toNat ≠ (49 : UInt8).toNat := fun e => hcx (UInt8.toNat_inj.1 e)
      obtain ⟨b, hv1, hv2, hb1, hb2, CB, CC⟩ := one_end t 49 48 (by omega) hall h1 (by rw [hs]; exact fun e => hne e.symm) (by decide) rfl (by decide) (by decide)
      exact one_Y0 s t _ b m w htz ht hr hm (by omega) c hlast (by simp only [beq_eq_false_iff_ne, ne_eq]; have : (49 : UInt8).toNat = 49 := rfl; omega) CA CZ CO (by omega) rfl hv2 hb1 hb2 CB CC

theorem one_go1 (s t : ByteArray) (m : Int) (w : World) (htz : t.size ≤ 500) (ht : s.extract 0 (min (s.size : Int) 500).toNat = t) (hr : B.right t = true) (hm : w.cell? ⟨0, 0, none⟩ = some (.int .i64 m))
    (hz : Lib.contains t.data.toList [48, 48, 48, 48, 48] = false) (ho : Lib.contains t.data.toList [49, 49, 49, 49, 49] = false) :
    Calls Try.prog 8 #[.string s, .bool true] w fun e w' => e = .returned (.bool true) ∧ Below w.heap.size w w' := by
  have hall := B.right_all hr
  obtain ⟨h1, h2⟩ := B.five_no hall (no_five hz ho)
  have CA := Lib.hid (bare_stuff t hr h1)
  have CZ := Lib.hid (fun (w : World) (hm : w.cell? ⟨0, 0, none⟩ = some (.int .i64 m)) => contains_6 t ⟨#[48, 48, 48, 48, 48]⟩ m w (by omega) hm hz)
  have CO := Lib.hid (fun (w : World) (hm : w.cell? ⟨0, 0, none⟩ = some (.int .i64 m)) => contains_6 t ⟨#[49, 49, 49, 49, 49]⟩ m w (by omega) hm ho)
  rcases h2 with ⟨hnil, hs⟩ | ⟨p, c, n, hp, hn, hc, hs⟩
  · have h0 : t.size = 0 := by rw [← B.size_len, hnil]; rfl
    obtain ⟨b, hv1, hv2, hb1, hb2, CB, CC⟩ := one_end t 48 49 (by omega) hall h1 (by rw [hs]; decide) (by decide) rfl (by decide) (by decide)
    exact one_E1 s t _ b m w htz ht hr hm (by omega) CA CZ CO (by omega) rfl hv2 hb1 hb2 CB CC
  · have h0 : 0 < t.size := by rw [← B.size_len, hp]; simp; omega
    have hlast : ∀ h : t.size - 1 < t.size, t[t.size - 1] = c := fun h => last_of t p c n hp hn h
    by_cases hcx : c = 48
    · subst hcx
      have hyo : B.okc 49 = true := by decide
      have hra : (t ++ ⟨#[49]⟩ : ByteArray).data.toList = t.data.toList ++ [49] := by rw [B.cat_list]
      have hk : B.kn (B.stf t.data.toList).1 ((49 : UInt8).toNat) = ((49 : UInt8).toNat, 1) := by rw [hs]; exact B.kn_one (by decide)
      have hst : B.stf (t ++ ⟨#[49]⟩ : ByteArray).data.toList = (((49 : UInt8).toNat, 1), (t ++ ⟨#[49]⟩ : ByteArray).data.toList) := by
        rw [hra, B.stf_plain (by rw [hk]; decide), hk, h1]
      have hra2 : (t ++ ⟨#[49]⟩ : ByteArray).data.toList.all B.okc = true := by rw [hra]; exact B.all_snoc.2 ⟨hall, hyo⟩
      have hrz : (t ++ ⟨#[49]⟩ : ByteArray).size = t.size + 1 := by rw [ByteArray.size_append]; rfl
      have hst2 : (B.stf (t ++ ⟨#[49]⟩ : ByteArray).data.toList).2 = (t ++ ⟨#[49]⟩ : ByteArray).data.toList := by rw [hst]
      obtain ⟨b, hv1, hv2, hb1, hb2, CB, CC⟩ := one_end (t ++ ⟨#[49]⟩) 48 49 (by omega) hra2 hst2 (by rw [hst]; show (_ : Nat) ≠ _; simp only; decide) (by decide) rfl (by decide) (by decide)
      have CZr := Lib.hid (fun (w : World) (hm : w.cell? ⟨0, 0, none⟩ = some (.int .i64 m)) => contains_6 (t ++ ⟨#[49]⟩) ⟨#[48, 48, 48, 48, 48]⟩ m w (by omega) hm (bare_contains hra2 hst2 (c := 48) rfl))
      have COr := Lib.hid (fun (w : World) (hm : w.cell? ⟨0, 0, none⟩ = some (.int .i64 m)) => contains_6 (t ++ ⟨#[49]⟩) ⟨#[49, 49, 49, 49, 49]⟩ m w (by omega) hm (bare_contains hra2 hst2 (c := 49) rfl))
      exact one_X1 s t _ _ b m w htz ht hr hm (by omega) hlast rfl CA CZ CO CZr COr (by omega) rfl hv2 hb1 hb2 CB CC
    · have hne : c.toNat ≠ (48 : UInt8).toNat := fun e => hcx (UInt8.toNat_inj.1 e)
      obtain ⟨b, hv1, hv2, hb1, hb2, CB, CC⟩ := one_end t 48 49 (by omega) hall h1 (by rw [hs]; exact fun e => hne e.symm) (by decide) rfl (by decide) (by decide)
      exact one_Y1 s t _ b m w htz ht hr hm (by omega) c hlast (by simp only [beq_eq_false_iff_ne, ne_eq]; have : (48 : UInt8).toNat = 48 := rfl; omega) CA CZ CO (by omega) rfl hv2 hb1 hb2 CB CC

theorem oneLaw_any (s : ByteArray) (a1 : Bool) (m : Int) (w : World) (hm : w.cell? ⟨0, 0, none⟩ = some (.int .i64 m)) :
    Calls Try.prog 8 #[.string s, .bool a1] w fun e w' => e = .returned (.bool true) ∧ Below w.heap.size w w' := by
  have htz : (s.extract 0 (min (s.size : Int) 500).toNat).size ≤ 500 := by rw [ByteArray.size_extract]; omega
  obtain ⟨t, ht⟩ : ∃ t, s.extract 0 (min (s.size : Int) 500).toNat = t := ⟨_, rfl⟩
  rw [ht] at htz
  cases hr : B.right t
  · exact one_no s t a1 w htz ht hr
  · have hl := stfS_le t hr
    have CA := Lib.hid (fun w => stuff_yes t w hr (by omega))
    have five : ∀ c : UInt8, Lib.contains t.data.toList (List.replicate 5 c) = true → ((B.stfS t).toList == t.toList) = false := by
      intro c hc
      obtain ⟨p, q, e⟩ := B.contains_of hc
      rw [beq_eq_false_iff_ne, ByteArray.toList_eq, ByteArray.toList_eq]
      intro h
      rw [B.stfS_list, e] at h
      exact B.five_yes (by rw [← e]; exact B.right_all hr) h
    cases hz : Lib.contains t.data.toList [48, 48, 48, 48, 48]
    · have CZ := Lib.hid (fun (w : World) (hm : w.cell? ⟨0, 0, none⟩ = some (.int .i64 m)) => contains_6 t ⟨#[48, 48, 48, 48, 48]⟩ m w (by omega) hm hz)
      cases ho : Lib.contains t.data.toList [49, 49, 49, 49, 49]
      · cases a1
        · exact one_go0 s t m w htz ht hr hm hz ho
        · exact one_go1 s t m w htz ht hr hm hz ho
      · exact one_five2 s t _ a1 m w htz ht hr hm CA (five 49 ho) CZ (Lib.hid (fun (w : World) (hm : w.cell? ⟨0, 0, none⟩ = some (.int .i64 m)) => contains_6 t ⟨#[49, 49, 49, 49, 49]⟩ m w (by omega) hm ho))
    · exact one_five1 s t _ a1 m w htz ht hr hm CA (five 48 hz) (Lib.hid (fun (w : World) (hm : w.cell? ⟨0, 0, none⟩ = some (.int .i64 m)) => contains_6 t ⟨#[48, 48, 48, 48, 48]⟩ m w (by omega) hm hz))
end Go.Proofs.Ytagboeejegbcgaa
