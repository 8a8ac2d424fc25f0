/- slices.insertionSortCmpFunc over contenders. -/
import Derived.Test.YthgbfidghhlldabPOrd1
import Derived.Deep.RegionHeld3
import Derived.BigQuiet
import Derived.BigRegion
import Derived.RegionTactic
import Derived.ChangeAlike
import Derived.Outline
namespace Go.Proofs.Ythgbfidghhlldab
open Go.RowKit Go.Lib
attribute [local go_sem ↓] Go.wp_at_zero Go.wp_at_succ

theorem own_drew {w : World} {base : Nat} {e : TypeId} {size : Nat} {v : Value} {n : Nat} {xs : List Value} (h : w.ownsRow base e size v n xs) : w.drew.ownsRow base e size v n xs := h

set_option maxRecDepth 100000 in
set_option maxHeartbeats 4000000 in
theorem insort_any (base g cap n : Nat) (fs : List FX) (w : World) (hn : fs.length = n) (hn3 : n ≤ 1000) (ho : w.ownsRow base 54 6 (.slice (some ⟨g, 0, none⟩) n cap) n (cellsC fs)) (hbase : base ≤ w.heap.size) :
    Calls Try.prog 46 #[.slice (some ⟨g, 0, none⟩) n cap, .int .i64 0, .int .i64 n, .func (.func 25) #[] #[]] w fun e w' => e = .returned (.tuple #[]) ∧ w'.ownsRow base 54 6 (.slice (some ⟨g, 0, none⟩) n cap) n (cellsC (B.isort keyF fs)) ∧ Below base w w' := by
  have h1 : B.isort keyF (fs.take 1) ++ fs.drop 1 = fs := by cases fs <;> rfl
  have hgb := ho.lt _ rfl
  go_enter Try.func46, Try.ntmps46
  go_wp2
  have HN := Lib.hid hn
  clear hn
  have ho1 : w.ownsRow base 54 6 (.slice (some ⟨g, 0, none⟩) n cap) n (cellsC (B.isort keyF (fs.take 1) ++ fs.drop 1)) := by rw [h1]; exact ho
  clear ho h1
  go_loopw [8, 9] (fun s8 s9 wr => ∃ i : Nat, 1 ≤ i ∧ (i ≤ n ∨ i = 1) ∧ s8 = .int .i64 i ∧ wr.ownsRow base 54 6 (.slice (some ⟨g, 0, none⟩) n cap) n (cellsC (B.isort keyF (fs.take i) ++ fs.drop i)) ∧ Below base w wr) (fun s8 _ _ => n - (intOf s8).toNat)
  case atStart => exact ⟨1, Nat.le_refl _, .inr rfl, rfl, ho1, Below.refl _ _⟩
  case round =>
    clear ho1
    obtain ⟨i, hi1, hi2, rfl, ho, hW⟩ := hrel
    obtain ⟨wo, rfl⟩ : ∃ wo : World, wo = wr := ⟨_, rfl⟩
    by_cases hlt : i < n
    · have hif : i < fs.length := by rw [HN.out]; exact hlt
      rw [B.rowJ_start hif] at ho
      have hp : (B.isort keyF (fs.take i)).length = i := by rw [B.isort_length, List.length_take]; omega
      have HE := Lib.hid (fun j hj a b => B.rowJ_end (key := keyF) (l := fs) (i := i) (j := j) hif hj a b)
      have hsr := B.isort_srt keysF (fs.take i)
      obtain ⟨p, hpp⟩ : ∃ p, p = B.isort keyF (fs.take i) := ⟨_, rfl⟩
      obtain ⟨x, hx⟩ : ∃ x, x = fs[i] := ⟨_, rfl⟩
      obtain ⟨r, hr⟩ : ∃ r, r = fs.drop (i + 1) := ⟨_, rfl⟩
      rw [← hpp, ← hx, ← hr] at ho HE
      rw [← hpp] at hp hsr
      have HP := Lib.hid hp
      have HSR := Lib.hid hsr
      have HL : Hid (∀ j, (B.rowJ p x r j).length = n) := Lib.hid (fun j => by rw [B.rowJ_length, hp, hr, List.length_drop, HN.out]; omega)
      have HR := Lib.hid hr
      clear hp hpp hx hr hsr
      go_wp2
      go_loopw [9] (fun s9 wq => ∃ j : Nat, j ≤ i ∧ s9 = .int .i64 j ∧ wq.ownsRow base 54 6 (.slice (some ⟨g, 0, none⟩) n cap) n (cellsC (B.rowJ p x r j)) ∧ Below base w wq ∧ Hid (∀ y ∈ p.drop j, B.lt keyF x y = true)) (fun s9 _ => (intOf s9).toNat)
      case atStart => exact ⟨i, Nat.le_refl _, rfl, ho, hW, Lib.hid (fun y hy => by rw [List.drop_of_length_le (by rw [HP.out]; exact Nat.le_refl _)] at hy; simp at hy)⟩
      case round =>
        clear ho hW
        obtain ⟨j, hj, rfl, ho, hW, HD⟩ := hrel
        rcases Nat.eq_zero_or_pos j with rfl | hj0
        · have ho2 := ho
          rw [HE.out 0 (Nat.zero_le _) (fun y hy => by simp at hy) HD.out, HR.out] at ho2
          clear ho
          go_wp2_with fail
          go_quiet (fail)
          rename_i nq
          go_wp2
          go_roundw
          case rel => exact ⟨i + 1, by omega, .inl hlt, by go_num, ho2, below_drewN hW nq⟩
          case measure => simp [intOf]; omega
        · obtain ⟨k, hjk⟩ : ∃ k, j = k + 1 := ⟨j - 1, by omega⟩
          have hkp : k < p.length := by rw [HP.out]; omega
          have hk1 : (0 : Int) < (j : Int) := by omega
          have q1 : IntKind.i64.wrap ((j : Int) - 1) = k := by rw [show (j : Int) - 1 = k by omega]; exact IntWalk.i64_in _ (by omega)
          have hkn : (j : Int) < n := by omega
          have hkn0 : (0 : Int) ≤ j := by omega
          have hkn1 : (0 : Int) ≤ k := by omega
          have hkn2 : (k : Int) < n := by omega
          have hin : i < n := hlt
          have hjn : j < n := by omega
          have HJK := Lib.hid hjk
          obtain ⟨y, hy⟩ : ∃ y, y = p[k] := ⟨_, rfl⟩
          have HY := Lib.hid hy
          have KA := Lib.hid (show ∀ wa, Below base w wa → wa.ownsRow base 54 6 (.slice (some ⟨g, 0, none⟩) n cap) n (cellsC (B.rowJ p x r j)) → (Below base w wa ∧ wa.ownsRow base 54 6 (.slice (some ⟨g, 0, none⟩) n cap) n (cellsC (B.rowJ p x r j)) ∧ wa.cell? ⟨g, j * 6, none⟩ = some (.int .u32 x.id) ∧ wa.cell? ⟨g, j * 6 + 1, none⟩ = some (.bool x.ext) ∧ wa.cell? ⟨g, j * 6 + 2, none⟩ = some (.bool x.rem) ∧ wa.cell? ⟨g, j * 6 + 3, none⟩ = some (.int .i64 x.dlc) ∧ wa.cell? ⟨g, j * 6 + 4, none⟩ = some (.string x.data) ∧ wa.cell? ⟨g, j * 6 + 5, none⟩ = some (.string x.field) ∧ wa.cell? ⟨g, k * 6, none⟩ = some (.int .u32 y.id) ∧ wa.cell? ⟨g, k * 6 + 1, none⟩ = some (.bool y.ext) ∧ wa.cell? ⟨g, k * 6 + 2, none⟩ = some (.bool y.rem) ∧ wa.cell? ⟨g, k * 6 + 3, none⟩ = some (.int .i64 y.dlc) ∧ wa.cell? ⟨g, k * 6 + 4, none⟩ = some (.string y.data) ∧ wa.cell? ⟨g, k * 6 + 5, none⟩ = some (.string y.field)) from fun wa h1 h2 => by
            have a := own_c h2 j (by rw [HL.out]; omega) x (B.rowJ_at (by rw [HP.out]; omega))
            have b := own_c h2 k (by rw [HL.out]; omega) y (by rw [HJK.out, B.rowJ_pred hkp, HY.out])
            obtain ⟨a0, a1, a2, a3, a4, a5⟩ := a
            obtain ⟨b0, b1, b2, b3, b4, b5⟩ := b
            exact ⟨h1, h2, a0, a1, a2, a3, a4, a5, b0, b1, b2, b3, b4, b5⟩)
          have KS := Lib.hid (show ∀ wa wb, Below wa.heap.size wa wb → (Below base w wa ∧ wa.ownsRow base 54 6 (.slice (some ⟨g, 0, none⟩) n cap) n (cellsC (B.rowJ p x r j)) ∧ wa.cell? ⟨g, j * 6, none⟩ = some (.int .u32 x.id) ∧ wa.cell? ⟨g, j * 6 + 1, none⟩ = some (.bool x.ext) ∧ wa.cell? ⟨g, j * 6 + 2, none⟩ = some (.bool x.rem) ∧ wa.cell? ⟨g, j * 6 + 3, none⟩ = some (.int .i64 x.dlc) ∧ wa.cell? ⟨g, j * 6 + 4, none⟩ = some (.string x.data) ∧ wa.cell? ⟨g, j * 6 + 5, none⟩ = some (.string x.field) ∧ wa.cell? ⟨g, k * 6, none⟩ = some (.int .u32 y.id) ∧ wa.cell? ⟨g, k * 6 + 1, none⟩ = some (.bool y.ext) ∧ wa.cell? ⟨g, k * 6 + 2, none⟩ = some (.bool y.rem) ∧ wa.cell? ⟨g, k * 6 + 3, none⟩ = some (.int .i64 y.dlc) ∧ wa.cell? ⟨g, k * 6 + 4, none⟩ = some (.string y.data) ∧ wa.cell? ⟨g, k * 6 + 5, none⟩ = some (.string y.field)) → (Below base w wb ∧ wb.ownsRow base 54 6 (.slice (some ⟨g, 0, none⟩) n cap) n (cellsC (B.rowJ p x r j)) ∧ wb.cell? ⟨g, j * 6, none⟩ = some (.int .u32 x.id) ∧ wb.cell? ⟨g, j * 6 + 1, none⟩ = some (.bool x.ext) ∧ wb.cell? ⟨g, j * 6 + 2, none⟩ = some (.bool x.rem) ∧ wb.cell? ⟨g, j * 6 + 3, none⟩ = some (.int .i64 x.dlc) ∧ wb.cell? ⟨g, j * 6 + 4, none⟩ = some (.string x.data) ∧ wb.cell? ⟨g, j * 6 + 5, none⟩ = some (.string x.field) ∧ wb.cell? ⟨g, k * 6, none⟩ = some (.int .u32 y.id) ∧ wb.cell? ⟨g, k * 6 + 1, none⟩ = some (.bool y.ext) ∧ wb.cell? ⟨g, k * 6 + 2, none⟩ = some (.bool y.rem) ∧ wb.cell? ⟨g, k * 6 + 3, none⟩ = some (.int .i64 y.dlc) ∧ wb.cell? ⟨g, k * 6 + 4, none⟩ = some (.string y.data) ∧ wb.cell? ⟨g, k * 6 + 5, none⟩ = some (.string y.field)) from fun wa wb hb h => KA.out wb (h.1.trans (hb.mono (by have := h.1.size; omega))) (own_keep5 h.2.1 hb))
          have HI := Lib.hid (KA.out _ hW ho)
          have CC0 := fun w => ordlit_any x y w
          have hcmp := FX.cmp_less x y
          obtain ⟨rr, hrr⟩ : ∃ rr, rr = x.cmp y := ⟨_, rfl⟩
          rw [← hrr] at CC0 hcmp
          have CC := Lib.hid CC0
          clear ho hW hy CC0 hrr hjk
          cases hxy : x.less y
          · have hr0 : ¬ rr < 0 := by rw [hxy] at hcmp; simpa using hcmp
            have HB := Lib.hid (B.before_not keysF HSR.out hkp (x := x) (by rw [← HY.out]; exact hxy))
            clear hcmp hxy
            go_wp2_with fail
            go_region_held3 (fun w' => Below base w w' ∧ w'.ownsRow base 54 6 (.slice (some ⟨g, 0, none⟩) n cap) n (cellsC (B.rowJ p x r j)) ∧ w'.cell? ⟨g, j * 6, none⟩ = some (.int .u32 x.id) ∧ w'.cell? ⟨g, j * 6 + 1, none⟩ = some (.bool x.ext) ∧ w'.cell? ⟨g, j * 6 + 2, none⟩ = some (.bool x.rem) ∧ w'.cell? ⟨g, j * 6 + 3, none⟩ = some (.int .i64 x.dlc) ∧ w'.cell? ⟨g, j * 6 + 4, none⟩ = some (.string x.data) ∧ w'.cell? ⟨g, j * 6 + 5, none⟩ = some (.string x.field) ∧ w'.cell? ⟨g, k * 6, none⟩ = some (.int .u32 y.id) ∧ w'.cell? ⟨g, k * 6 + 1, none⟩ = some (.bool y.ext) ∧ w'.cell? ⟨g, k * 6 + 2, none⟩ = some (.bool y.rem) ∧ w'.cell? ⟨g, k * 6 + 3, none⟩ = some (.int .i64 y.dlc) ∧ w'.cell? ⟨g, k * 6 + 4, none⟩ = some (.string y.data) ∧ w'.cell? ⟨g, k * 6 + 5, none⟩ = some (.string y.field))
              (first | assumption | exact KS.out _ _ (Below.refl _ _).drew HI.out)
              ((go_at_call 25; (with_reducible refine (CC.out _).mono ?_); rintro e w7 ⟨rfl, hb7⟩; have hI7 := KS.out _ _ hb7 (by assumption)))
            go_wp2
            have ho2 := hI7.2.1
            rw [HE.out j hj (by rw [HJK.out]; exact HB.out) HD.out, HR.out] at ho2
            have hW2 := hI7.1
            clear hI7 HI
            go_roundw
            case rel => exact ⟨i + 1, by omega, .inl hlt, by go_num, ho2, hW2⟩
            case measure => simp [intOf]; omega
          · have hr0 : rr < 0 := by rw [hxy] at hcmp; simpa using hcmp
            have HLT := Lib.hid hxy
            clear hcmp hxy
            go_wp2_with fail
            go_region_held3 (fun w' => Below base w w' ∧ w'.ownsRow base 54 6 (.slice (some ⟨g, 0, none⟩) n cap) n (cellsC (B.rowJ p x r j)) ∧ w'.cell? ⟨g, j * 6, none⟩ = some (.int .u32 x.id) ∧ w'.cell? ⟨g, j * 6 + 1, none⟩ = some (.bool x.ext) ∧ w'.cell? ⟨g, j * 6 + 2, none⟩ = some (.bool x.rem) ∧ w'.cell? ⟨g, j * 6 + 3, none⟩ = some (.int .i64 x.dlc) ∧ w'.cell? ⟨g, j * 6 + 4, none⟩ = some (.string x.data) ∧ w'.cell? ⟨g, j * 6 + 5, none⟩ = some (.string x.field) ∧ w'.cell? ⟨g, k * 6, none⟩ = some (.int .u32 y.id) ∧ w'.cell? ⟨g, k * 6 + 1, none⟩ = some (.bool y.ext) ∧ w'.cell? ⟨g, k * 6 + 2, none⟩ = some (.bool y.rem) ∧ w'.cell? ⟨g, k * 6 + 3, none⟩ = some (.int .i64 y.dlc) ∧ w'.cell? ⟨g, k * 6 + 4, none⟩ = some (.string y.data) ∧ w'.cell? ⟨g, k * 6 + 5, none⟩ = some (.string y.field))
              (first | assumption | exact KS.out _ _ (Below.refl _ _).drew HI.out)
              ((go_at_call 25; (with_reducible refine (CC.out _).mono ?_); rintro e w7 ⟨rfl, hb7⟩; have hI7 := KS.out _ _ hb7 (by assumption)))
            have HI7 := Lib.hid hI7
            obtain ⟨_, ho7, a0, a1, a2, a3, a4, a5, b0, b1, b2, b3, b4, b5⟩ := hI7
            have f0 := ho7.frozenAt (j * 6)
            have f1 := ho7.frozenAt (j * 6 + 1)
            have f2 := ho7.frozenAt (j * 6 + 2)
            have f3 := ho7.frozenAt (j * 6 + 3)
            have f4 := ho7.frozenAt (j * 6 + 4)
            have f5 := ho7.frozenAt (j * 6 + 5)
            have g0 := ho7.frozenAt (k * 6)
            have g1 := ho7.frozenAt (k * 6 + 1)
            have g2 := ho7.frozenAt (k * 6 + 2)
            have g3 := ho7.frozenAt (k * 6 + 3)
            have g4 := ho7.frozenAt (k * 6 + 4)
            have g5 := ho7.frozenAt (k * 6 + 5)
            have HF0 : (World.setC (World.setC w7 g (j * 6) y) g (k * 6) x).ownsRow base 54 6 (.slice (some ⟨g, 0, none⟩) n cap) n (cellsC (B.rowJ p x r k)) := by
              have := own_setC (own_setC ho7 j (by rw [HL.out]; omega) y) k (by rw [List.length_set, HL.out]; omega) x
              rw [HJK.out, HY.out, B.rowJ_swap hkp, ← HY.out, ← HJK.out] at this
              exact this
            have HB0 : Below base w (World.setC (World.setC w7 g (j * 6) y) g (k * 6) x) := below_setC (below_setC HI7.out.1 hgb.1 _ _) hgb.1 _ _
            clear HI ho7 CC KA KS
            obtain ⟨o6, ho6⟩ : ∃ o6, o6 = k * 6 := ⟨_, rfl⟩
            have r0 : k * 6 = o6 := ho6.symm
            have r1 : j * 6 = o6 + 6 := by rw [HJK.out, ← r0, Nat.add_mul]
            have HO6 := Lib.hid ho6
            clear ho6
            rw [r0] at b0 b1 b2 b3 b4 b5 g0 g1 g2 g3 g4 g5
            rw [r1] at a0 a1 a2 a3 a4 a5 f0 f1 f2 f3 f4 f5
            have r2 : o6 + 6 + 1 = o6 + 7 := rfl
            have r3 : o6 + 6 + 2 = o6 + 8 := rfl
            have r4 : o6 + 6 + 3 = o6 + 9 := rfl
            have r5 : o6 + 6 + 4 = o6 + 10 := rfl
            have r6 : o6 + 6 + 5 = o6 + 11 := rfl
            rw [r2] at a1 f1
            rw [r3] at a2 f2
            rw [r4] at a3 f3
            rw [r5] at a4 f4
            rw [r6] at a5 f5
            rw [r0, r1] at HF0 HB0
            unfold World.setC at HF0 HB0
            have HF := Lib.hid HF0
            have HB := Lib.hid HB0
            have HDK := Lib.hid (show ∀ z ∈ p.drop k, B.lt keyF x z = true from fun z hz => by
              rw [List.drop_eq_getElem_cons hkp] at hz
              rcases List.mem_cons.1 hz with rfl | hz
              · rw [← HY.out]; exact HLT.out
              · exact HD.out z (by rw [HJK.out]; exact hz))
            clear HF0 HB0 HI7
            go_wp2
            go_region
            go_wp2
            go_roundw
            case rel => exact ⟨k, by rw [HJK.out] at hj; omega, rfl, own_drew HF.out, HB.out.drew, HDK⟩
            case measure => simp [intOf]; omega
    · have hni : B.isort keyF (fs.take i) ++ fs.drop i = B.isort keyF fs := by
        rw [List.take_of_length_le (by rw [HN.out]; omega), List.drop_of_length_le (by rw [HN.out]; omega), List.append_nil]
      rw [hni] at ho
      clear hni
      go_wp2
      go_end0
      exact ⟨rfl, ho, hW⟩
end Go.Proofs.Ythgbfidghhlldab
