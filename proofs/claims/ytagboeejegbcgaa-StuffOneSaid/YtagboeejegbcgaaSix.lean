/- The walk of layer 3's law StuffSix. -/
import Derived.Test.YtagboeejegbcgaaLaw03
import Derived.Test.YtagboeejegbcgaaStuff3
import Derived.Test.YtagboeejegbcgaaShelf
import Derived.Test.YtagboeejegbcgaaRefUnstuff
namespace Go.Proofs.Ytagboeejegbcgaa
open Go.RowKit Go.Lib
attribute [local go_sem ↓] Go.wp_at_zero Go.wp_at_succ

set_option maxHeartbeats 1000000 in
theorem six_no (s t : ByteArray) (a1 : Int) (a2 : Bool) (w : World) (htz : t.size ≤ 1000) (ht : s.extract 0 (min (s.size : Int) 1000).toNat = t) (hr : B.right t = false) :
    Calls Try.prog 6 #[.string s, .int .i64 a1, .bool a2] w fun e w' => e = .returned (.bool true) ∧ Below w.heap.size w w' := by
  have CA := Lib.hid (fun w => stuff_no t w (by unfold maxLen; omega) hr)
  have CR := Lib.hid (fun w => refright_any t w (by unfold maxLen; omega))
  have hB : Below w.heap.size w w := Below.refl _ _
  all_goals
    go_enter Try.func6, Try.ntmps6
    go_wp2_with (first
      | (go_at_call 14; (with_reducible refine (CA.out _).mono ?_); rintro e w' ⟨rfl, rfl⟩)
      | (go_at_call 16; (with_reducible refine (CR.out _).mono ?_); rintro e w' ⟨rfl, rfl⟩)
      | (go_at_call 12; (with_reducible refine (alive_any _).mono ?_); rintro e w' ⟨rfl, hb⟩; replace hB := hB.trans (hb.mono hB.size)))
    go_ret
    exact ⟨rfl, hB⟩

theorem contains_six {t : ByteArray} (hr : B.right t = true) {c : UInt8} {sub : ByteArray} (hsub : sub.data.toList = List.replicate 6 c) : Lib.contains (B.stfS t).data.toList sub.data.toList = false := by
  rw [Bool.eq_false_iff]
  intro h
  obtain ⟨p, q, e⟩ := B.contains_of h
  rw [hsub, B.stfS_list] at e
  exact B.stf_no_six (B.right_all hr) e

theorem put_six (a six : ByteArray) (p : Nat) (c : UInt8) (hsix : six.data.toList = List.replicate 6 c) (_hp : p ≤ a.size) : ((a.extract 0 p ++ six) ++ a.extract p a.size).data.toList = a.data.toList.take p ++ List.replicate 6 c ++ a.data.toList.drop p := by
  rw [B.cat_list, B.cat_list, Lib.extract_data, Lib.extract_data, hsix, List.drop_zero, Nat.sub_zero]
  congr 1
  rw [List.take_of_length_le]
  rw [List.length_drop, B.size_len]; exact Nat.le_refl _

theorem six_told (a six : ByteArray) (p : Nat) (c : UInt8) (w : World) (hra : B.right a = true) (hz : a.size ≤ 3000) (hc : B.okc c = true) (hsix : six.data.toList = List.replicate 6 c) (hp : p ≤ a.size) :
    Calls Try.prog 15 #[.string ((a.extract 0 p ++ six) ++ a.extract p a.size)] w fun e w' => e = .returned (.tuple #[.string ⟨#[]⟩, .int .i64 10]) ∧ Below w.heap.size w w' := by
  have hl := put_six a six p c hsix hp
  have hall := B.right_all hra
  have hs6 : six.size = 6 := by rw [← B.size_len, hsix]; simp
  refine unstuff_err _ w (right_of_all ?_ ?_) ?_
  · rw [ByteArray.size_append, ByteArray.size_append, ByteArray.size_extract, ByteArray.size_extract]; omega
  · rw [hl, List.all_append, List.all_append, B.all_take hall]
    have : (a.data.toList.drop p).all B.okc = true := by
      rw [List.all_eq_true] at *; intro x hx; exact hall x (List.mem_of_mem_drop hx)
    rw [this]; simpa using hc
  · rw [hl]; exact B.six_err (B.all_take hall p) hc

theorem contains_6 (a sub : ByteArray) (m : Int) (w : World) (hz : a.size ≤ 4000) (hm : w.cell? ⟨0, 0, none⟩ = some (.int .i64 m)) {b : Bool} (h : Lib.contains a.data.toList sub.data.toList = b) :
    Calls Try.prog 19 #[.string a, .string sub] w fun e w' => e = .returned (.bool b) ∧ w = w' := by
  have := Try.strings_Contains a sub m w (by omega) hm
  rw [h] at this
  exact this.mono fun _ _ ⟨he, hw⟩ => ⟨he, hw.symm⟩

set_option maxHeartbeats 2000000 in
theorem six_1 (s t : ByteArray) (a1 : Int) (p : Nat) (m : Int) (w : World) (htz : t.size ≤ 1000) (ht : s.extract 0 (min (s.size : Int) 1000).toNat = t) (hr : B.right t = true) (hm : w.cell? ⟨0, 0, none⟩ = some (.int .i64 m)) (hp : p ≤ (B.stfS t).size) (hq : min (max a1 0) ((B.stfS t).size : Int) = p) :
    Calls Try.prog 6 #[.string s, .int .i64 a1, .bool true] w fun e w' => e = .returned (.bool true) ∧ Below w.heap.size w w' := by
  have hl := stfS_le t hr
  have CA0 := fun w => stuff_yes t w hr (by omega)
  have hra := stfS_right t hr (by omega)
  have CZ0 := fun (w : World) (hm : w.cell? ⟨0, 0, none⟩ = some (.int .i64 m)) => contains_6 (B.stfS t) ⟨#[48, 48, 48, 48, 48, 48]⟩ m w (by omega) hm (contains_six hr (c := 48) rfl)
  have CO0 := fun (w : World) (hm : w.cell? ⟨0, 0, none⟩ = some (.int .i64 m)) => contains_6 (B.stfS t) ⟨#[49, 49, 49, 49, 49, 49]⟩ m w (by omega) hm (contains_six hr (c := 49) rfl)
  obtain ⟨a, ha⟩ : ∃ a, a = B.stfS t := ⟨_, rfl⟩
  simp only [← ha] at CA0 CZ0 CO0 hl hra hp hq
  have CU0 := fun w => six_told a ⟨#[48, 48, 48, 48, 48, 48]⟩ (p) 48 w hra (by omega) (by decide) rfl (by omega)
  have CA := Lib.hid CA0
  have CZ := Lib.hid CZ0
  have CO := Lib.hid CO0
  have CU := Lib.hid CU0
  clear CA0 CZ0 CO0 CU0 ha hra
  have hl1 : (4 : Int) * ((a.size : Int) - t.size) ≤ t.size + 4 := by omega
  have hl2 : (t.size : Int) ≤ a.size := by omega
  have hl3 : (a.size : Int) ≤ 1300 := by omega
  have hB : Below w.heap.size w w := Below.refl _ _
  have hq0 : (0 : Int) ≤ (p : Int) := by omega
  have hq1 : (p : Int) ≤ a.size := by omega
  all_goals
    go_enter Try.func6, Try.ntmps6
    go_wp2_with (first
      | (go_at_call 14; (with_reducible refine (CA.out _).mono ?_); rintro e w' ⟨rfl, hb⟩; replace hB := hB.trans (hb.mono hB.size); replace hm := cell_keep hb hm)
      | (go_at_call 19; (with_reducible refine (CZ.out _ hm).mono ?_); rintro e w' ⟨rfl, rfl⟩)
      | (go_at_call 19; (with_reducible refine (CO.out _ hm).mono ?_); rintro e w' ⟨rfl, rfl⟩)
      | (go_at_call 12; (with_reducible refine (alive_any _).mono ?_); rintro e w' ⟨rfl, hb⟩; replace hB := hB.trans (hb.mono hB.size)))
    go_region_with (go_at_call 15; (with_reducible refine (CU.out _).mono ?_); rintro e w' ⟨rfl, hb⟩)
    all_goals
      have hB1 := below_keep hB.drew hb (Below.size hB.drew)
      go_wp2_with (go_at_call 12; (with_reducible refine (alive_any _).mono ?_); rintro e w' ⟨rfl, hb⟩; replace hB1 := hB1.trans (hb.mono hB1.size))
      go_ret
      exact ⟨rfl, hB1⟩

set_option maxHeartbeats 2000000 in
theorem six_0 (s t : ByteArray) (a1 : Int) (p : Nat) (m : Int) (w : World) (htz : t.size ≤ 1000) (ht : s.extract 0 (min (s.size : Int) 1000).toNat = t) (hr : B.right t = true) (hm : w.cell? ⟨0, 0, none⟩ = some (.int .i64 m)) (hp : p ≤ (B.stfS t).size) (hq : min (max a1 0) ((B.stfS t).size : Int) = p) :
    Calls Try.prog 6 #[.string s, .int .i64 a1, .bool false] w fun e w' => e = .returned (.bool true) ∧ Below w.heap.size w w' := by
  have hl := stfS_le t hr
  have CA0 := fun w => stuff_yes t w hr (by omega)
  have hra := stfS_right t hr (by omega)
  have CZ0 := fun (w : World) (hm : w.cell? ⟨0, 0, none⟩ = some (.int .i64 m)) => contains_6 (B.stfS t) ⟨#[48, 48, 48, 48, 48, 48]⟩ m w (by omega) hm (contains_six hr (c := 48) rfl)
  have CO0 := fun (w : World) (hm : w.cell? ⟨0, 0, none⟩ = some (.int .i64 m)) => contains_6 (B.stfS t) ⟨#[49, 49, 49, 49, 49, 49]⟩ m w (by omega) hm (contains_six hr (c := 49) rfl)
  obtain ⟨a, ha⟩ : ∃ a, a = B.stfS t := ⟨_, rfl⟩
  simp only [← ha] at CA0 CZ0 CO0 hl hra hp hq
  have CU0 := fun w => six_told a ⟨#[49, 49, 49, 49, 49, 49]⟩ (p) 49 w hra (by omega) (by decide) rfl (by omega)
  have CA := Lib.hid CA0
  have CZ := Lib.hid CZ0
  have CO := Lib.hid CO0
  have CU := Lib.hid CU0
  clear CA0 CZ0 CO0 CU0 ha hra
  have hl1 : (4 : Int) * ((a.size : Int) - t.size) ≤ t.size + 4 := by omega
  have hl2 : (t.size : Int) ≤ a.size := by omega
  have hl3 : (a.size : Int) ≤ 1300 := by omega
  have hB : Below w.heap.size w w := Below.refl _ _
  have hq0 : (0 : Int) ≤ (p : Int) := by omega
  have hq1 : (p : Int) ≤ a.size := by omega
  all_goals
    go_enter Try.func6, Try.ntmps6
    go_wp2_with (first
      | (go_at_call 14; (with_reducible refine (CA.out _).mono ?_); rintro e w' ⟨rfl, hb⟩; replace hB := hB.trans (hb.mono hB.size); replace hm := cell_keep hb hm)
      | (go_at_call 19; (with_reducible refine (CZ.out _ hm).mono ?_); rintro e w' ⟨rfl, rfl⟩)
      | (go_at_call 19; (with_reducible refine (CO.out _ hm).mono ?_); rintro e w' ⟨rfl, rfl⟩)
      | (go_at_call 12; (with_reducible refine (alive_any _).mono ?_); rintro e w' ⟨rfl, hb⟩; replace hB := hB.trans (hb.mono hB.size)))
    go_region_with (go_at_call 15; (with_reducible refine (CU.out _).mono ?_); rintro e w' ⟨rfl, hb⟩)
    all_goals
      have hB1 := below_keep hB.drew hb (Below.size hB.drew)
      go_wp2_with (go_at_call 12; (with_reducible refine (alive_any _).mono ?_); rintro e w' ⟨rfl, hb⟩; replace hB1 := hB1.trans (hb.mono hB1.size))
      go_ret
      exact ⟨rfl, hB1⟩

theorem sixLaw_any (s : ByteArray) (a1 : Int) (a2 : Bool) (m : Int) (w : World) (hm : w.cell? ⟨0, 0, none⟩ = some (.int .i64 m)) :
    Calls Try.prog 6 #[.string s, .int .i64 a1, .bool a2] w fun e w' => e = .returned (.bool true) ∧ Below w.heap.size w w' := by
  have htz : (s.extract 0 (min (s.size : Int) 1000).toNat).size ≤ 1000 := by rw [ByteArray.size_extract]; omega
  obtain ⟨t, ht⟩ : ∃ t, s.extract 0 (min (s.size : Int) 1000).toNat = t := ⟨_, rfl⟩
  rw [ht] at htz
  cases hr : B.right t
  · exact six_no s t a1 a2 w htz ht hr
  · obtain ⟨p, hq⟩ : ∃ p : Nat, min (max a1 0) ((B.stfS t).size : Int) = p := ⟨(min (max a1 0) ((B.stfS t).size : Int)).toNat, by omega⟩
    have hp : p ≤ (B.stfS t).size := by omega
    cases a2
    · exact six_0 s t a1 p m w htz ht hr hm hp hq
    · exact six_1 s t a1 p m w htz ht hr hm hp hq
end Go.Proofs.Ytagboeejegbcgaa
