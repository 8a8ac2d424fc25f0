/- Package prio's fieldsOf. -/
import Derived.Test.YthgbfidghhlldabPField
import Derived.Test.YthgbfidghhlldabPrioG
namespace Go.Proofs.Ythgbfidghhlldab
open Go.RowKit Go.Lib
attribute [local go_sem ↓] Go.wp_at_zero Go.wp_at_succ

theorem Try.infoStr : (Try.prog.info? 9).map (fun i => (i.zero, i.size, i.bytes)) = some (some (.string ⟨#[]⟩), 1, 16) := by kernel_rfl
/-- an owned row stands behind whatever makes new blocks alone -/
theorem own_keep5 {w wb : World} {base : Nat} {e : TypeId} {size : Nat} {v : Value} {n : Nat} {xs : List Value} (h : w.ownsRow base e size v n xs) (k : Below w.heap.size w wb) : wb.ownsRow base e size v n xs := by
  refine ⟨h.1, ?_⟩
  rcases h.2 with hn | ⟨g, cap, cur, hv, hbg, hg, r⟩
  · exact .inl hn
  · exact .inr ⟨g, cap, cur, hv, hbg, by rw [k.block g (Array.getElem?_eq_some_iff.1 hg).1]; exact hg, r⟩
/-- the cells of a row of texts, the first k of which are there -/
def fieldsAt (fs : List FX) (k : Nat) : List Value := (fs.take k).map (fun f => .string f.field) ++ List.replicate (fs.length - k) (.string ⟨#[]⟩)
theorem fieldsAt_zero (fs : List FX) : fieldsAt fs 0 = List.replicate fs.length (.string ⟨#[]⟩) := by simp [fieldsAt]
theorem fieldsAt_length (fs : List FX) (k : Nat) (h : k ≤ fs.length) : (fieldsAt fs k).length = fs.length := by simp [fieldsAt]; omega
theorem fieldsAt_all (fs : List FX) : fieldsAt fs fs.length = fs.map (fun f => .string f.field) := by simp [fieldsAt]
theorem fieldsAt_get (fs : List FX) (k : Nat) (h : k < fs.length) : (fieldsAt fs k)[k]? = some (.string ⟨#[]⟩) := by
  unfold fieldsAt
  have hl : ((fs.take k).map (fun f => Value.string f.field)).length = k := by simp; omega
  rw [List.getElem?_append_right (by omega), hl, Nat.sub_self, List.getElem?_replicate, if_pos (by omega)]
theorem fieldsAt_set (fs : List FX) (k : Nat) (h : k < fs.length) : (fieldsAt fs k).set k (.string fs[k].field) = fieldsAt fs (k + 1) := by
  unfold fieldsAt
  have hl : ((fs.take k).map (fun f => Value.string f.field)).length = k := by simp; omega
  rw [List.set_append_right _ _ (by omega), hl, Nat.sub_self, show fs.length - k = (fs.length - (k + 1)) + 1 from by omega, List.replicate_succ, List.set_cons_zero, List.take_succ_eq_append_getElem h, List.map_append, List.append_assoc]
  rfl
def FieldsPost (fs : List FX) (w : World) (e : Ending) (w' : World) : Prop :=
  Below w.heap.size w w' ∧ ((fs.all FX.may = true ∧ ∃ cap, e = .returned (.tuple #[.slice (some ⟨w.heap.size, 0, none⟩) fs.length cap, .int .i64 0]) ∧ w'.ownsRow w.heap.size 9 1 (.slice (some ⟨w.heap.size, 0, none⟩) fs.length cap) fs.length (fs.map (fun f => .string f.field)))
    ∨ (fs.all FX.may = false ∧ e = .returned (.tuple #[.slice none 0 0, .int .i64 1])))

set_option maxRecDepth 100000 in
set_option maxHeartbeats 4000000 in
theorem fieldsOf_any (g o cap : Nat) (fs : List FX) (w : World) (hn : fs.length ≤ 1000000) (hc : RowF w g o fs) (hg : g < w.heap.size) :
    Calls Try.prog 19 #[.slice (some ⟨g, o, none⟩) fs.length cap] w (FieldsPost fs w) := by
  go_enter Try.func19, Try.ntmps19
  obtain ⟨i0, hi, hz0, hz1, hz2⟩ := info_parts Try.infoStr
  obtain ⟨n, hfn⟩ : ∃ n, n = fs.length := ⟨_, rfl⟩
  rw [← hfn]
  have HN := Lib.hid hfn
  have hn' : n ≤ 1000000 := by omega
  have HC := Lib.hid hc
  have HG := Lib.hid hg
  clear hfn hn hc
  go_wp2_with (at_make; refine wpList_make_full _ rfl _ _ 43 rfl w.heap.size 9 i0 (.string ⟨#[]⟩) 1 Try.underlying43 hi hz0 hz1 _ _ _ _ n rfl rfl rfl rfl ?b1 ?b2 ?b3 ?_)
  case b1 => rw [hz2]; omega
  case b2 => unfold maxLen; omega
  case b3 => exact Nat.le_refl _
  intro w1 hown hgr
  have hb1 : Below w.heap.size w w1 := (Below.refl _ _).grown hgr (Nat.le_refl _) (by intro _ h; cases h)
  have hs1 : w.heap.size < w1.heap.size := (hown.lt _ rfl).2
  clear hgr
  go_wp2
  go_loopw [13] (fun i wr => ∃ k : Nat, k ≤ n ∧ i = .int .i64 k ∧ wr.ownsRow w.heap.size 9 1 (.slice (some ⟨w.heap.size, 0, none⟩) n n) n (fieldsAt fs k) ∧ Hid ((fs.take k).all FX.may = true) ∧ Below w.heap.size w wr ∧ w.heap.size < wr.heap.size) (fun i _ => n - (intOf i).toNat)
  case atStart => exact ⟨0, Nat.zero_le _, rfl, by rw [fieldsAt_zero, ← HN.out, ← toList_madeCells_one]; exact hown, Lib.hid rfl, hb1, hs1⟩
  case round =>
    clear hown hb1 hs1
    obtain ⟨k, hk, rfl, hown, HA, hW, hsz⟩ := hrel
    by_cases hlt : k < n
    · have hkf : k < fs.length := by rw [← HN.out]; exact hlt
      obtain ⟨c0, c1, c2, c3, c4⟩ := HC.out.below hW HG.out k hkf
      have hS : fs.take (k + 1) = fs.take k ++ [fs[k]] := by simp
      have HF := Lib.hid (fieldsAt_set fs k hkf)
      have HGt := Lib.hid (fieldsAt_get fs k hkf)
      have HM := Lib.hid (show fs[k] ∈ fs from List.getElem_mem hkf)
      obtain ⟨f, hf⟩ : ∃ f, f = fs[k] := ⟨_, rfl⟩
      rw [← hf] at c0 c1 c2 c3 c4 hS HF HM
      have HO := Lib.hid hown
      clear hf hown
      cases hm : f.may
      · have HB := Lib.hid (show fs.all FX.may = false by
          rw [List.all_eq_false]
          exact ⟨f, HM.out, by rw [hm]; decide⟩)
        have CF := Lib.hid (fun w => field_no f w hm)
        clear hm hS
        go_wp2_with (go_at_call 5; (with_reducible refine (CF.out _).mono ?_); rintro e w2 ⟨rfl, hb2⟩)
        go_ret2
        exact ⟨hW.trans (hb2.mono hW.size), .inr ⟨HB.out, rfl⟩⟩
      · have HA2 := Lib.hid (show (fs.take (k + 1)).all FX.may = true by
          rw [hS, List.all_append, HA.out]; simp [hm])
        have CF := Lib.hid (fun w => field_yes f w hm)
        clear hm hS
        go_wp2_with (go_at_call 5; (with_reducible refine (CF.out _).mono ?_); rintro e w2 ⟨rfl, hb2⟩; (have ho2 := own_keep5 HO.out hb2); (have hz2' : w.heap.size < w2.heap.size := Nat.lt_of_lt_of_le hsz hb2.size); (replace hb2 := hW.trans (hb2.mono hW.size)); (have f2 := ho2.frozenAt k); (have c5 := ho2.cellAt k (by omega)); rw [HGt.out] at c5)
        have HS := Lib.hid (ho2.stored k (.string f.field)).1
        rw [HF.out] at HS
        have HBS := Lib.hid (hb2.setCell (p := ⟨w.heap.size, k, none⟩) (Nat.le_refl _) (.string f.field))
        clear ho2
        go_wp2
        go_roundw
        case rel => exact ⟨k + 1, hlt, by go_num, HS.out, HA2, HBS.out, by simpa using hz2'⟩
        case measure => simp [intOf]; omega
    · obtain rfl : k = n := by omega
      have HB := Lib.hid (show fs.all FX.may = true by have := HA.out; rw [HN.out, List.take_length] at this; exact this)
      have HV := Lib.hid (show fieldsAt fs k = fs.map (fun f => .string f.field) by rw [HN.out, fieldsAt_all])
      rw [HV.out] at hown
      go_wp2
      go_ret2
      exact ⟨hW, .inl ⟨HB.out, k, by rw [HN.out]; rfl, by rw [← HN.out]; exact hown⟩⟩

theorem fieldsOf_yes (g o cap : Nat) (fs : List FX) (w : World) (hn : fs.length ≤ 1000000) (hc : RowF w g o fs) (hg : g < w.heap.size) (ha : fs.all FX.may = true) :
    Calls Try.prog 19 #[.slice (some ⟨g, o, none⟩) fs.length cap] w fun e w' => ∃ cap', e = .returned (.tuple #[.slice (some ⟨w.heap.size, 0, none⟩) fs.length cap', .int .i64 0]) ∧ w'.ownsRow w.heap.size 9 1 (.slice (some ⟨w.heap.size, 0, none⟩) fs.length cap') fs.length (fs.map (fun f => .string f.field)) ∧ Below w.heap.size w w' := by
  refine (fieldsOf_any g o cap fs w hn hc hg).mono ?_
  rintro e w' ⟨hb, ⟨_, c, he, ho⟩ | ⟨h, _⟩⟩
  · exact ⟨c, he, ho, hb⟩
  · rw [ha] at h; cases h
theorem fieldsOf_no (g o cap : Nat) (fs : List FX) (w : World) (hn : fs.length ≤ 1000000) (hc : RowF w g o fs) (hg : g < w.heap.size) (ha : fs.all FX.may = false) :
    Calls Try.prog 19 #[.slice (some ⟨g, o, none⟩) fs.length cap] w fun e w' => e = .returned (.tuple #[.slice none 0 0, .int .i64 1]) ∧ Below w.heap.size w w' := by
  refine (fieldsOf_any g o cap fs w hn hc hg).mono ?_
  rintro e w' ⟨hb, ⟨h, _⟩ | ⟨_, he⟩⟩
  · rw [ha] at h; cases h
  · exact ⟨he, hb⟩
end Go.Proofs.Ythgbfidghhlldab
