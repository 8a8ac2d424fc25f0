/- The walk of the law BitsRows, where rows came in, all well. -/
import Derived.Test.YtfnofajglbjgjaaRowsHead
namespace Go.Proofs.Ytfnofajglbjgjaa
open Go.RowKit Go.Lib

set_option maxRecDepth 100000 in
set_option maxHeartbeats 4000000 in
theorem rowsLaw_true_wrong0 (a : Addr) (n cap : Nat) (ss : List ByteArray) (A1 : Option Addr) (n1 c1 : Nat) (w : World) (hnc : n ≤ cap) (hcap : cap ≤ maxLen) (hss : ss.length = n) (hab : 0 < n → a.block < w.heap.size) (hcell : ∀ i, i < n → w.cell? (a.add i) = some (.string (B.at_ ss i)))
    (m : Nat) (hm : min (n : Int) 8 = (m : Int)) (cs : List ByteArray) (hcs : B.cuts (ss.take m) = cs) (ha : B.alike cs = true) (s : ByteArray) (hs : cutS ⟨(Lib.join (cs.map (·.data.toList)) []).toArray⟩ 300 = s)
    (m1 : Nat) (hm1 : min (n1 : Int) 20 = (m1 : Int)) (_hn1 : n1 ≤ c1) (zs : List Int) (hini : InI w A1 m1 zs) (hr : B.right s = false) (hm10 : m1 = 0) :
    Calls Try.prog 4 #[.slice (some a) n cap, .slice A1 n1 c1] w fun e w' => e = .returned (.bool true) ∧ Below w.heap.size w w' := by
  unfold maxLen at hcap
  have hm1n : m1 ≤ n1 := by omega
  have HINI := Lib.hid hini
  clear hini
  have hmn : m ≤ n := by omega
  have hm8 : m ≤ 8 := by omega
  obtain ⟨rs, hrs⟩ : ∃ rs, rs = ss.take m := ⟨_, rfl⟩
  have hrl : rs.length = m := by rw [hrs, List.length_take]; omega
  have hnews : ∀ (j : Nat) (u : Value), (rs.map Value.string)[j]? = some u → (w.alloc (.cells #[] 9)).cell? (a.add j) = some u := by
    intro j u hu
    rw [List.getElem?_map] at hu
    obtain ⟨s, hs, rfl⟩ := Option.map_eq_some_iff.1 hu
    have hj : j < m := by rw [← hrl]; exact (List.getElem?_eq_some_iff.1 hs).1
    rw [World.cell?_alloc_lt _ _ _ (by rw [addr_block]; exact hab (by omega)), hcell j (by omega)]
    rw [hrs, List.getElem?_take, if_pos hj] at hs
    unfold B.at_
    rw [List.getD_eq_getElem?_getD, hs]; rfl
  obtain ⟨i0, hi, hz0, hz1, hz2⟩ := info_parts Try.info9
  obtain ⟨B0, hB⟩ : ∃ b, b = w.heap.size := ⟨_, rfl⟩
  have hlit := World.ownsRow_lit (base := w.heap.size) (e := 9) (size := 1) w #[] 0 (Nat.le_refl _) (by simp) (by simp)
  rw [← hB] at hlit ⊢
  have HB := Lib.hid hB
  have HLIT := Lib.hid hlit
  have HRL := Lib.hid hrl
  have HNEWS := Lib.hid hnews
  have HRS := Lib.hid hrs
  have HCELL := Lib.hid hcell
  have HSS := Lib.hid hss
  clear hB hlit hrl hnews hrs hcell hss hab
  go_enter Try.func4, Try.ntmps4
  go_wp2_with (at_builtin; refine wpList_append_own _ rfl (.tmp 19) (.tmp 24) 34 rfl B0 9 i0 (.string ⟨#[]⟩) 1 16 Try.underlying34 hi hz0 hz1 hz2 rfl (by decide) _ _ _ rfl (by rw [← HB.out]; exact HLIT.out) a m _ (rs.map Value.string) rfl ?c0 ?c1 ?c2 ?c3 ?c4 ?c5 ?_)
  case c0 => exact HRL.out
  case c1 => exact fun j x hj => HNEWS.out j (.string x) (by rw [List.getElem?_map, hj]; rfl)
  case c2 => intro _ _; rfl
  case c3 => unfold maxLen; omega
  case c4 => omega
  case c5 => rw [HB.out]; omega
  intro v' w1 hown hgrow hnn
  have hb1 : Below B0 w w1 := ((Below.refl B0 w).alloc (by rw [HB.out]; exact Nat.le_refl _) _).grown hgrow (by rw [HB.out]; simp) (fun g hg => by simp [Value.ownBlock] at hg; rw [HB.out]; omega)
  obtain ⟨g, cg, rfl, hBg, hgl⟩ := own_form hown hnn
  clear hgrow hnn
  have hown : w1.ownsRow B0 9 1 (.slice (some ⟨g, 0, none⟩) m cg) m ((B.mix rs 0).map Value.string) := by rw [B.mix_zero]; exact hown
  have HOWN := Lib.hid hown
  have HW0 := Lib.hid (show B.wellTo rs 0 = decide (0 < m) by rw [B.wellTo_zero, HRL.out])
  clear hown
  go_wp2
  go_loopw [5, 31] (fun bl i wr => ∃ k : Nat, k ≤ m ∧ i = .int .i64 k ∧ bl = .bool (B.wellTo rs k) ∧ wr.ownsRow B0 9 1 (.slice (some ⟨g, 0, none⟩) m cg) m ((B.mix rs k).map Value.string) ∧ Below B0 w wr) (fun _ i _ => m - (RowKit.intOf i).toNat)
  case atStart => exact ⟨0, Nat.zero_le _, rfl, by rw [HW0.out], HOWN.out, hb1⟩
  case round =>
    obtain ⟨k, hk, rfl, hbl, ho, hb⟩ := hrel
    subst hbl
    by_cases hlt : k < m
    · have hkr : k < rs.length := by rw [HRL.out]; exact hlt
      have hce := ho.cellAt k (by omega)
      rw [List.getElem?_map, B.mix_old hkr, Option.map_some] at hce
      have hfr := ho.frozenAt k
      have hws := Lib.hid (B.wellTo_succ hkr)
      have C1 := Lib.hid (fun w => short_any (B.at_ rs k) w)
      rw [← B.at_cuts hkr] at C1
      have hst := (ho.stored k (.string (B.at_ (B.cuts rs) k))).1
      rw [show ((B.mix rs k).map Value.string).set k (.string (B.at_ (B.cuts rs) k)) = (B.mix rs (k + 1)).map Value.string from by rw [← List.map_set, B.mix_set hkr]] at hst
      have hk1 := hst.cellAt k (by omega)
      rw [List.getElem?_map, B.mix_new (by omega) (by omega), Option.map_some] at hk1
      have hk0 := hst.cellAt 0 (by omega)
      rw [List.getElem?_map, B.mix_new (by omega) (by omega), Option.map_some] at hk0
      have hbs : Below B0 w (wr.setCell ⟨g, k, none⟩ (.string (B.at_ (B.cuts rs) k))) := hb.setCell hBg _
      obtain ⟨s, hs⟩ : ∃ s, B.at_ rs k = s := ⟨_, rfl⟩
      obtain ⟨c, hc⟩ : ∃ s, B.at_ (B.cuts rs) k = s := ⟨_, rfl⟩
      obtain ⟨c0, hc0⟩ : ∃ s, B.at_ (B.cuts rs) 0 = s := ⟨_, rfl⟩
      have hcz : c.size ≤ 300 := by rw [← hc]; exact B.cuts_size _ (B.at_mem (by rw [B.cuts_length]; exact hkr))
      rw [hs] at hce C1
      rw [hc] at hst hk1 hk0 C1 hws hbs
      rw [hc0] at hk0 hws
      have hcm : c.size ≤ maxLen := by unfold maxLen; omega
      have HST := Lib.hid hst
      have HBS := Lib.hid hbs
      clear hs hc hc0 hst hbs ho
      go_wp2_with (first | (go_at_call 16; (with_reducible refine (C1.out _).mono ?_); rintro e w' ⟨rfl, rfl⟩))
      generalize wr.setCell ⟨g, k, none⟩ (.string c) = w2 at *
      have hm0 : 0 < m := by omega
      have hm0' : (0 : Int) < m := by omega
      clear hce hfr hb
      cases hwk : B.wellTo rs k with
      | false =>
        rw [hwk] at hws
        go_quiet ((go_at_call 12; exact quiet_mine (refright_any _ _ hcm)))
        rename_i nq
        go_wp2
        go_roundw
        case rel => exact ⟨k + 1, by omega, by go_num, val_bool (by rw [hws.out]; rfl), ownsRow_drewN HST.out nq, below_drewN HBS.out nq⟩
        case measure => simp [RowKit.intOf]; omega
      | true =>
        rw [hwk] at hws
        cases hr : B.right c with
        | false =>
          have hok : B.okrow c0 c = false := by unfold B.okrow; rw [hr]; rfl
          have HOK := Lib.hid hok
          clear hok
          go_quiet ((go_at_call 12; exact quiet_mine (refright_any _ _ hcm)))
          rename_i nq
          go_wp2
          go_roundw
          case rel => exact ⟨k + 1, by omega, by go_num, val_bool (by rw [hws.out]; rw [HOK.out]; rfl), ownsRow_drewN HST.out nq, below_drewN HBS.out nq⟩
          case measure => simp [RowKit.intOf]; omega
        | true =>
          by_cases he : c.size = c0.size
          · have HOK := Lib.hid (show B.okrow c0 c = true by unfold B.okrow; rw [hr]; simp [he])
            have hq : ((c.size : Int) == c0.size) = true := by rw [beq_iff_eq]; omega
            clear he
            go_quiet ((go_at_call 12; exact quiet_mine (refright_any _ _ hcm)))
            rename_i nq
            go_wp2
            go_roundw
            case rel => exact ⟨k + 1, by omega, by go_num, val_bool (by rw [hws.out]; rw [HOK.out]; rfl), ownsRow_drewN HST.out nq, below_drewN HBS.out nq⟩
            case measure => simp [RowKit.intOf]; omega
          · have HOK := Lib.hid (show B.okrow c0 c = false by unfold B.okrow; rw [hr]; simp [he])
            have hq : ((c.size : Int) == c0.size) = false := by rw [beq_eq_false_iff_ne]; omega
            clear he
            go_quiet ((go_at_call 12; exact quiet_mine (refright_any _ _ hcm)))
            rename_i nq
            go_wp2
            go_roundw
            case rel => exact ⟨k + 1, by omega, by go_num, val_bool (by rw [hws.out]; rw [HOK.out]; rfl), ownsRow_drewN HST.out nq, below_drewN HBS.out nq⟩
            case measure => simp [RowKit.intOf]; omega
    · have hkm : k = m := by omega
      have hwell : B.wellTo rs k = B.alike cs := by rw [hkm, ← HRL.out, B.wellTo_full, HRS.out, hcs]
      have hmix : B.mix rs k = cs := by rw [hkm, ← HRL.out, B.mix_full, HRS.out, hcs]
      have hcl : cs.length = m := by rw [← hcs, B.cuts_length, ← HRS.out, HRL.out]
      have hcz : ∀ s ∈ cs, s.size ≤ 300 := by rw [← hcs]; exact B.cuts_size
      rw [hmix] at ho
      have hRow : RowS wr g cs := fun i hi => by
        rw [ho.cellAt i (by omega), List.getElem?_map]
        unfold B.at_
        rw [List.getD_eq_getElem?_getD, List.getElem?_eq_getElem hi]; rfl
      have hgr : g < wr.heap.size := (ho.lt g rfl).2
      have hmcg : m ≤ cg := own_cap ho
      rw [ha] at hwell
      rw [hwell]
      have hG := Lib.hid hb
      clear hkm hmix ho hb hwell
      have hcz' : ∀ s ∈ cs, s.size ≤ maxLen := fun s hs => by have := hcz s hs; unfold maxLen; omega
      have hcm : cs.length ≤ maxLen := by unfold maxLen; omega
      have hc0 : (B.at_ cs 0).size ≤ 4000 := by have := hcz _ (B.at_mem (B.alike_pos ha)); omega
      have C17 := and_yes g cg cs wr hcm hcz' hRow ha (by omega) hgr
      have C18 := fun (w' : World) (h : RowS w' g cs) => refand_any g cg cs w' hcm hc0 h ha
      have C19 := fun (w' : World) (h1 : RowS w' g cs) (h2 : g < w'.heap.size) => join_any g cg cs w' h1 h2 (by omega) hcz (by omega)
      rw [hcl] at C17 C18 C19
      obtain ⟨J, hJ⟩ : ∃ J : ByteArray, ⟨(Lib.join (cs.map (·.data.toList)) []).toArray⟩ = J := ⟨_, rfl⟩
      rw [hJ] at C19 hs
      have C16 := fun w => short_any J w
      rw [hs] at C16
      obtain ⟨X, hX⟩ : ∃ X : ByteArray, ⟨(B.andL cs).toArray⟩ = X := ⟨_, rfl⟩
      rw [hX] at C17 C18
      have C18 := Lib.hid C18
      clear hX
      have C17 := Lib.hid C17
      have C19 := Lib.hid C19
      have C16 := Lib.hid C16
      have hsz : s.size ≤ 300 := by rw [← hs]; have : (cutS J 300).size = min 300 J.size := cutS_size J 300; omega
      have hsm : s.size ≤ maxLen := by unfold maxLen; omega
      have hB : Below wr.heap.size wr wr := Below.refl _ _
      have CF := Lib.hid (fun (w' : World) => flip_wrong s A1 0 c1 w' hsm hr)
      have CR := Lib.hid (fun (w' : World) => runs_no s w' hsm hr)
      have HROW := Lib.hid hRow
      clear hRow hcz' hcm hs hJ hcz hcl hcs ha
      go_wp2_with (first | (go_at_call 17; (with_reducible refine C17.out.mono ?_); rintro e w2 ⟨rfl, hb2⟩; replace hB := hB.trans (hb2.mono hB.size)) | (go_at_call 18; (with_reducible refine (C18.out _ (HROW.out.below hB hgr)).mono ?_); rintro e w2 ⟨rfl, rfl⟩) | (go_at_call 19; (with_reducible refine (C19.out _ (HROW.out.below hB hgr) (Nat.lt_of_lt_of_le hgr hB.size)).mono ?_); rintro e w2 ⟨rfl, hb2⟩; replace hB := hB.trans (hb2.mono hB.size)) | (go_at_call 16; (with_reducible refine (C16.out _).mono ?_); rintro e w2 ⟨rfl, rfl⟩) | (go_at_call 20; (with_reducible refine (CF.out _).mono ?_); rintro e w2 ⟨rfl, rfl⟩) | (go_at_call 21; (with_reducible refine (CR.out _).mono ?_); rintro e w2 ⟨rfl, rfl⟩) | (go_at_call 12; (with_reducible refine (refright_any _ _ hsm).mono ?_); rintro e w2 ⟨rfl, rfl⟩))
      refine wp_loop_rounds 1 ?_
      rw [rounds_succ]
      go_wp2_with (first | (go_at_call 12; (with_reducible refine (refright_any _ _ hsm).mono ?_); rintro e w2 ⟨rfl, rfl⟩) | (go_at_call 13; (with_reducible refine (alive_any _).mono ?_); rintro e w2 ⟨rfl, hb2⟩; replace hB := hB.trans (hb2.mono hB.size)))
      go_ret
      exact ⟨rfl, hG.out.trans (hB.mono (by have := hG.out.size; have := HB.out; omega))⟩

set_option maxRecDepth 100000 in
set_option maxHeartbeats 4000000 in
theorem rowsLaw_true_wrong1 (a : Addr) (n cap : Nat) (ss : List ByteArray) (A1 : Option Addr) (n1 c1 : Nat) (w : World) (hnc : n ≤ cap) (hcap : cap ≤ maxLen) (hss : ss.length = n) (hab : 0 < n → a.block < w.heap.size) (hcell : ∀ i, i < n → w.cell? (a.add i) = some (.string (B.at_ ss i)))
    (m : Nat) (hm : min (n : Int) 8 = (m : Int)) (cs : List ByteArray) (hcs : B.cuts (ss.take m) = cs) (ha : B.alike cs = true) (s : ByteArray) (hs : cutS ⟨(Lib.join (cs.map (·.data.toList)) []).toArray⟩ 300 = s)
    (m1 : Nat) (hm1 : min (n1 : Int) 20 = (m1 : Int)) (_hn1 : n1 ≤ c1) (zs : List Int) (hini : InI w A1 m1 zs) (hr : B.right s = false) (hm10 : 0 < m1) :
    Calls Try.prog 4 #[.slice (some a) n cap, .slice A1 n1 c1] w fun e w' => e = .returned (.bool true) ∧ Below w.heap.size w w' := by
  unfold maxLen at hcap
  have hm1n : m1 ≤ n1 := by omega
  have HINI := Lib.hid hini
  clear hini
  have hmn : m ≤ n := by omega
  have hm8 : m ≤ 8 := by omega
  obtain ⟨rs, hrs⟩ : ∃ rs, rs = ss.take m := ⟨_, rfl⟩
  have hrl : rs.length = m := by rw [hrs, List.length_take]; omega
  have hnews : ∀ (j : Nat) (u : Value), (rs.map Value.string)[j]? = some u → (w.alloc (.cells #[] 9)).cell? (a.add j) = some u := by
    intro j u hu
    rw [List.getElem?_map] at hu
    obtain ⟨s, hs, rfl⟩ := Option.map_eq_some_iff.1 hu
    have hj : j < m := by rw [← hrl]; exact (List.getElem?_eq_some_iff.1 hs).1
    rw [World.cell?_alloc_lt _ _ _ (by rw [addr_block]; exact hab (by omega)), hcell j (by omega)]
    rw [hrs, List.getElem?_take, if_pos hj] at hs
    unfold B.at_
    rw [List.getD_eq_getElem?_getD, hs]; rfl
  obtain ⟨i0, hi, hz0, hz1, hz2⟩ := info_parts Try.info9
  obtain ⟨B0, hB⟩ : ∃ b, b = w.heap.size := ⟨_, rfl⟩
  have hlit := World.ownsRow_lit (base := w.heap.size) (e := 9) (size := 1) w #[] 0 (Nat.le_refl _) (by simp) (by simp)
  rw [← hB] at hlit ⊢
  have HB := Lib.hid hB
  have HLIT := Lib.hid hlit
  have HRL := Lib.hid hrl
  have HNEWS := Lib.hid hnews
  have HRS := Lib.hid hrs
  have HCELL := Lib.hid hcell
  have HSS := Lib.hid hss
  clear hB hlit hrl hnews hrs hcell hss hab
  go_enter Try.func4, Try.ntmps4
  go_wp2_with (at_builtin; refine wpList_append_own _ rfl (.tmp 19) (.tmp 24) 34 rfl B0 9 i0 (.string ⟨#[]⟩) 1 16 Try.underlying34 hi hz0 hz1 hz2 rfl (by decide) _ _ _ rfl (by rw [← HB.out]; exact HLIT.out) a m _ (rs.map Value.string) rfl ?c0 ?c1 ?c2 ?c3 ?c4 ?c5 ?_)
  case c0 => exact HRL.out
  case c1 => exact fun j x hj => HNEWS.out j (.string x) (by rw [List.getElem?_map, hj]; rfl)
  case c2 => intro _ _; rfl
  case c3 => unfold maxLen; omega
  case c4 => omega
  case c5 => rw [HB.out]; omega
  intro v' w1 hown hgrow hnn
  have hb1 : Below B0 w w1 := ((Below.refl B0 w).alloc (by rw [HB.out]; exact Nat.le_refl _) _).grown hgrow (by rw [HB.out]; simp) (fun g hg => by simp [Value.ownBlock] at hg; rw [HB.out]; omega)
  obtain ⟨g, cg, rfl, hBg, hgl⟩ := own_form hown hnn
  clear hgrow hnn
  have hown : w1.ownsRow B0 9 1 (.slice (some ⟨g, 0, none⟩) m cg) m ((B.mix rs 0).map Value.string) := by rw [B.mix_zero]; exact hown
  have HOWN := Lib.hid hown
  have HW0 := Lib.hid (show B.wellTo rs 0 = decide (0 < m) by rw [B.wellTo_zero, HRL.out])
  clear hown
  go_wp2
  go_loopw [5, 31] (fun bl i wr => ∃ k : Nat, k ≤ m ∧ i = .int .i64 k ∧ bl = .bool (B.wellTo rs k) ∧ wr.ownsRow B0 9 1 (.slice (some ⟨g, 0, none⟩) m cg) m ((B.mix rs k).map Value.string) ∧ Below B0 w wr) (fun _ i _ => m - (RowKit.intOf i).toNat)
  case atStart => exact ⟨0, Nat.zero_le _, rfl, by rw [HW0.out], HOWN.out, hb1⟩
  case round =>
    obtain ⟨k, hk, rfl, hbl, ho, hb⟩ := hrel
    subst hbl
    by_cases hlt : k < m
    · have hkr : k < rs.length := by rw [HRL.out]; exact hlt
      have hce := ho.cellAt k (by omega)
      rw [List.getElem?_map, B.mix_old hkr, Option.map_some] at hce
      have hfr := ho.frozenAt k
      have hws := Lib.hid (B.wellTo_succ hkr)
      have C1 := Lib.hid (fun w => short_any (B.at_ rs k) w)
      rw [← B.at_cuts hkr] at C1
      have hst := (ho.stored k (.string (B.at_ (B.cuts rs) k))).1
      rw [show ((B.mix rs k).map Value.string).set k (.string (B.at_ (B.cuts rs) k)) = (B.mix rs (k + 1)).map Value.string from by rw [← List.map_set, B.mix_set hkr]] at hst
      have hk1 := hst.cellAt k (by omega)
      rw [List.getElem?_map, B.mix_new (by omega) (by omega), Option.map_some] at hk1
      have hk0 := hst.cellAt 0 (by omega)
      rw [List.getElem?_map, B.mix_new (by omega) (by omega), Option.map_some] at hk0
      have hbs : Below B0 w (wr.setCell ⟨g, k, none⟩ (.string (B.at_ (B.cuts rs) k))) := hb.setCell hBg _
      obtain ⟨s, hs⟩ : ∃ s, B.at_ rs k = s := ⟨_, rfl⟩
      obtain ⟨c, hc⟩ : ∃ s, B.at_ (B.cuts rs) k = s := ⟨_, rfl⟩
      obtain ⟨c0, hc0⟩ : ∃ s, B.at_ (B.cuts rs) 0 = s := ⟨_, rfl⟩
      have hcz : c.size ≤ 300 := by rw [← hc]; exact B.cuts_size _ (B.at_mem (by rw [B.cuts_length]; exact hkr))
      rw [hs] at hce C1
      rw [hc] at hst hk1 hk0 C1 hws hbs
      rw [hc0] at hk0 hws
      have hcm : c.size ≤ maxLen := by unfold maxLen; omega
      have HST := Lib.hid hst
      have HBS := Lib.hid hbs
      clear hs hc hc0 hst hbs ho
      go_wp2_with (first | (go_at_call 16; (with_reducible refine (C1.out _).mono ?_); rintro e w' ⟨rfl, rfl⟩))
      generalize wr.setCell ⟨g, k, none⟩ (.string c) = w2 at *
      have hm0 : 0 < m := by omega
      have hm0' : (0 : Int) < m := by omega
      clear hce hfr hb
      cases hwk : B.wellTo rs k with
      | false =>
        rw [hwk] at hws
        go_quiet ((go_at_call 12; exact quiet_mine (refright_any _ _ hcm)))
        rename_i nq
        go_wp2
        go_roundw
        case rel => exact ⟨k + 1, by omega, by go_num, val_bool (by rw [hws.out]; rfl), ownsRow_drewN HST.out nq, below_drewN HBS.out nq⟩
        case measure => simp [RowKit.intOf]; omega
      | true =>
        rw [hwk] at hws
        cases hr : B.right c with
        | false =>
          have hok : B.okrow c0 c = false := by unfold B.okrow; rw [hr]; rfl
          have HOK := Lib.hid hok
          clear hok
          go_quiet ((go_at_call 12; exact quiet_mine (refright_any _ _ hcm)))
          rename_i nq
          go_wp2
          go_roundw
          case rel => exact ⟨k + 1, by omega, by go_num, val_bool (by rw [hws.out]; rw [HOK.out]; rfl), ownsRow_drewN HST.out nq, below_drewN HBS.out nq⟩
          case measure => simp [RowKit.intOf]; omega
        | true =>
          by_cases he : c.size = c0.size
          · have HOK := Lib.hid (show B.okrow c0 c = true by unfold B.okrow; rw [hr]; simp [he])
            have hq : ((c.size : Int) == c0.size) = true := by rw [beq_iff_eq]; omega
            clear he
            go_quiet ((go_at_call 12; exact quiet_mine (refright_any _ _ hcm)))
            rename_i nq
            go_wp2
            go_roundw
            case rel => exact ⟨k + 1, by omega, by go_num, val_bool (by rw [hws.out]; rw [HOK.out]; rfl), ownsRow_drewN HST.out nq, below_drewN HBS.out nq⟩
            case measure => simp [RowKit.intOf]; omega
          · have HOK := Lib.hid (show B.okrow c0 c = false by unfold B.okrow; rw [hr]; simp [he])
            have hq : ((c.size : Int) == c0.size) = false := by rw [beq_eq_false_iff_ne]; omega
            clear he
            go_quiet ((go_at_call 12; exact quiet_mine (refright_any _ _ hcm)))
            rename_i nq
            go_wp2
            go_roundw
            case rel => exact ⟨k + 1, by omega, by go_num, val_bool (by rw [hws.out]; rw [HOK.out]; rfl), ownsRow_drewN HST.out nq, below_drewN HBS.out nq⟩
            case measure => simp [RowKit.intOf]; omega
    · have hkm : k = m := by omega
      have hwell : B.wellTo rs k = B.alike cs := by rw [hkm, ← HRL.out, B.wellTo_full, HRS.out, hcs]
      have hmix : B.mix rs k = cs := by rw [hkm, ← HRL.out, B.mix_full, HRS.out, hcs]
      have hcl : cs.length = m := by rw [← hcs, B.cuts_length, ← HRS.out, HRL.out]
      have hcz : ∀ s ∈ cs, s.size ≤ 300 := by rw [← hcs]; exact B.cuts_size
      rw [hmix] at ho
      have hRow : RowS wr g cs := fun i hi => by
        rw [ho.cellAt i (by omega), List.getElem?_map]
        unfold B.at_
        rw [List.getD_eq_getElem?_getD, List.getElem?_eq_getElem hi]; rfl
      have hgr : g < wr.heap.size := (ho.lt g rfl).2
      have hmcg : m ≤ cg := own_cap ho
      rw [ha] at hwell
      rw [hwell]
      have hG := Lib.hid hb
      clear hkm hmix ho hb hwell
      have hcz' : ∀ s ∈ cs, s.size ≤ maxLen := fun s hs => by have := hcz s hs; unfold maxLen; omega
      have hcm : cs.length ≤ maxLen := by unfold maxLen; omega
      have hc0 : (B.at_ cs 0).size ≤ 4000 := by have := hcz _ (B.at_mem (B.alike_pos ha)); omega
      have C17 := and_yes g cg cs wr hcm hcz' hRow ha (by omega) hgr
      have C18 := fun (w' : World) (h : RowS w' g cs) => refand_any g cg cs w' hcm hc0 h ha
      have C19 := fun (w' : World) (h1 : RowS w' g cs) (h2 : g < w'.heap.size) => join_any g cg cs w' h1 h2 (by omega) hcz (by omega)
      rw [hcl] at C17 C18 C19
      obtain ⟨J, hJ⟩ : ∃ J : ByteArray, ⟨(Lib.join (cs.map (·.data.toList)) []).toArray⟩ = J := ⟨_, rfl⟩
      rw [hJ] at C19 hs
      have C16 := fun w => short_any J w
      rw [hs] at C16
      obtain ⟨X, hX⟩ : ∃ X : ByteArray, ⟨(B.andL cs).toArray⟩ = X := ⟨_, rfl⟩
      rw [hX] at C17 C18
      have C18 := Lib.hid C18
      clear hX
      have C17 := Lib.hid C17
      have C19 := Lib.hid C19
      have C16 := Lib.hid C16
      have hsz : s.size ≤ 300 := by rw [← hs]; have : (cutS J 300).size = min 300 J.size := cutS_size J 300; omega
      have hsm : s.size ≤ maxLen := by unfold maxLen; omega
      have hB : Below wr.heap.size wr wr := Below.refl _ _
      have CF := Lib.hid (fun (w' : World) => flip_wrong s A1 m1 c1 w' hsm hr)
      have CR := Lib.hid (fun (w' : World) => runs_no s w' hsm hr)
      obtain ⟨bA, off, rfl, hbA, hRI⟩ := HINI.out.2 hm10
      have hx := hRI 0 (by rw [HINI.out.1]; exact hm10)
      rw [Nat.add_zero] at hx
      have HX := Lib.hid hx
      clear hRI hx
      have HROW := Lib.hid hRow
      clear hRow hcz' hcm hs hJ hcz hcl hcs ha
      go_wp2_with (first | (go_at_call 17; (with_reducible refine C17.out.mono ?_); rintro e w2 ⟨rfl, hb2⟩; replace hB := hB.trans (hb2.mono hB.size)) | (go_at_call 18; (with_reducible refine (C18.out _ (HROW.out.below hB hgr)).mono ?_); rintro e w2 ⟨rfl, rfl⟩) | (go_at_call 19; (with_reducible refine (C19.out _ (HROW.out.below hB hgr) (Nat.lt_of_lt_of_le hgr hB.size)).mono ?_); rintro e w2 ⟨rfl, hb2⟩; replace hB := hB.trans (hb2.mono hB.size)) | (go_at_call 16; (with_reducible refine (C16.out _).mono ?_); rintro e w2 ⟨rfl, rfl⟩) | (go_at_call 20; (with_reducible refine (CF.out _).mono ?_); rintro e w2 ⟨rfl, rfl⟩) | (go_at_call 21; (with_reducible refine (CR.out _).mono ?_); rintro e w2 ⟨rfl, rfl⟩) | (go_at_call 12; (with_reducible refine (refright_any _ _ hsm).mono ?_); rintro e w2 ⟨rfl, rfl⟩))
      have hx : w2.cell? ⟨bA, off, none⟩ = some (.int .i64 (zs.getD 0 0)) := by rw [hB.cell (p := ⟨bA, off, none⟩) (by show bA < _; have := hG.out.size; omega), hG.out.cell (p := ⟨bA, off, none⟩) (by show bA < _; rw [HB.out]; exact hbA)]; exact HX.out
      have hm1' : (0 : Int) < m1 := by omega
      refine wp_loop_rounds 1 ?_
      rw [rounds_succ]
      go_wp2_with (first | (go_at_call 12; (with_reducible refine (refright_any _ _ hsm).mono ?_); rintro e w2 ⟨rfl, rfl⟩) | (go_at_call 13; (with_reducible refine (alive_any _).mono ?_); rintro e w2 ⟨rfl, hb2⟩; replace hB := hB.trans (hb2.mono hB.size)))
      go_ret
      exact ⟨rfl, hG.out.trans (hB.mono (by have := hG.out.size; have := HB.out; omega))⟩

set_option maxRecDepth 100000 in
set_option maxHeartbeats 4000000 in
theorem rowsLaw_true_none (a : Addr) (n cap : Nat) (ss : List ByteArray) (A1 : Option Addr) (n1 c1 : Nat) (w : World) (hnc : n ≤ cap) (hcap : cap ≤ maxLen) (hss : ss.length = n) (hab : 0 < n → a.block < w.heap.size) (hcell : ∀ i, i < n → w.cell? (a.add i) = some (.string (B.at_ ss i)))
    (m : Nat) (hm : min (n : Int) 8 = (m : Int)) (cs : List ByteArray) (hcs : B.cuts (ss.take m) = cs) (ha : B.alike cs = true) (s : ByteArray) (hs : cutS ⟨(Lib.join (cs.map (·.data.toList)) []).toArray⟩ 300 = s)
    (m1 : Nat) (hm1 : min (n1 : Int) 20 = (m1 : Int)) (_hn1 : n1 ≤ c1) (zs : List Int) (hini : InI w A1 m1 zs) (hr : B.right s = true) (hm10 : m1 = 0) :
    Calls Try.prog 4 #[.slice (some a) n cap, .slice A1 n1 c1] w fun e w' => e = .returned (.bool true) ∧ Below w.heap.size w w' := by
  unfold maxLen at hcap
  have hm1n : m1 ≤ n1 := by omega
  have HINI := Lib.hid hini
  clear hini
  have hmn : m ≤ n := by omega
  have hm8 : m ≤ 8 := by omega
  obtain ⟨rs, hrs⟩ : ∃ rs, rs = ss.take m := ⟨_, rfl⟩
  have hrl : rs.length = m := by rw [hrs, List.length_take]; omega
  have hnews : ∀ (j : Nat) (u : Value), (rs.map Value.string)[j]? = some u → (w.alloc (.cells #[] 9)).cell? (a.add j) = some u := by
    intro j u hu
    rw [List.getElem?_map] at hu
    obtain ⟨s, hs, rfl⟩ := Option.map_eq_some_iff.1 hu
    have hj : j < m := by rw [← hrl]; exact (List.getElem?_eq_some_iff.1 hs).1
    rw [World.cell?_alloc_lt _ _ _ (by rw [addr_block]; exact hab (by omega)), hcell j (by omega)]
    rw [hrs, List.getElem?_take, if_pos hj] at hs
    unfold B.at_
    rw [List.getD_eq_getElem?_getD, hs]; rfl
  obtain ⟨i0, hi, hz0, hz1, hz2⟩ := info_parts Try.info9
  obtain ⟨B0, hB⟩ : ∃ b, b = w.heap.size := ⟨_, rfl⟩
  have hlit := World.ownsRow_lit (base := w.heap.size) (e := 9) (size := 1) w #[] 0 (Nat.le_refl _) (by simp) (by simp)
  rw [← hB] at hlit ⊢
  have HB := Lib.hid hB
  have HLIT := Lib.hid hlit
  have HRL := Lib.hid hrl
  have HNEWS := Lib.hid hnews
  have HRS := Lib.hid hrs
  have HCELL := Lib.hid hcell
  have HSS := Lib.hid hss
  clear hB hlit hrl hnews hrs hcell hss hab
  go_enter Try.func4, Try.ntmps4
  go_wp2_with (at_builtin; refine wpList_append_own _ rfl (.tmp 19) (.tmp 24) 34 rfl B0 9 i0 (.string ⟨#[]⟩) 1 16 Try.underlying34 hi hz0 hz1 hz2 rfl (by decide) _ _ _ rfl (by rw [← HB.out]; exact HLIT.out) a m _ (rs.map Value.string) rfl ?c0 ?c1 ?c2 ?c3 ?c4 ?c5 ?_)
  case c0 => exact HRL.out
  case c1 => exact fun j x hj => HNEWS.out j (.string x) (by rw [List.getElem?_map, hj]; rfl)
  case c2 => intro _ _; rfl
  case c3 => unfold maxLen; omega
  case c4 => omega
  case c5 => rw [HB.out]; omega
  intro v' w1 hown hgrow hnn
  have hb1 : Below B0 w w1 := ((Below.refl B0 w).alloc (by rw [HB.out]; exact Nat.le_refl _) _).grown hgrow (by rw [HB.out]; simp) (fun g hg => by simp [Value.ownBlock] at hg; rw [HB.out]; omega)
  obtain ⟨g, cg, rfl, hBg, hgl⟩ := own_form hown hnn
  clear hgrow hnn
  have hown : w1.ownsRow B0 9 1 (.slice (some ⟨g, 0, none⟩) m cg) m ((B.mix rs 0).map Value.string) := by rw [B.mix_zero]; exact hown
  have HOWN := Lib.hid hown
  have HW0 := Lib.hid (show B.wellTo rs 0 = decide (0 < m) by rw [B.wellTo_zero, HRL.out])
  clear hown
  go_wp2
  go_loopw [5, 31] (fun bl i wr => ∃ k : Nat, k ≤ m ∧ i = .int .i64 k ∧ bl = .bool (B.wellTo rs k) ∧ wr.ownsRow B0 9 1 (.slice (some ⟨g, 0, none⟩) m cg) m ((B.mix rs k).map Value.string) ∧ Below B0 w wr) (fun _ i _ => m - (RowKit.intOf i).toNat)
  case atStart => exact ⟨0, Nat.zero_le _, rfl, by rw [HW0.out], HOWN.out, hb1⟩
  case round =>
    obtain ⟨k, hk, rfl, hbl, ho, hb⟩ := hrel
    subst hbl
    by_cases hlt : k < m
    · have hkr : k < rs.length := by rw [HRL.out]; exact hlt
      have hce := ho.cellAt k (by omega)
      rw [List.getElem?_map, B.mix_old hkr, Option.map_some] at hce
      have hfr := ho.frozenAt k
      have hws := Lib.hid (B.wellTo_succ hkr)
      have C1 := Lib.hid (fun w => short_any (B.at_ rs k) w)
      rw [← B.at_cuts hkr] at C1
      have hst := (ho.stored k (.string (B.at_ (B.cuts rs) k))).1
      rw [show ((B.mix rs k).map Value.string).set k (.string (B.at_ (B.cuts rs) k)) = (B.mix rs (k + 1)).map Value.string from by rw [← List.map_set, B.mix_set hkr]] at hst
      have hk1 := hst.cellAt k (by omega)
      rw [List.getElem?_map, B.mix_new (by omega) (by omega), Option.map_some] at hk1
      have hk0 := hst.cellAt 0 (by omega)
      rw [List.getElem?_map, B.mix_new (by omega) (by omega), Option.map_some] at hk0
      have hbs : Below B0 w (wr.setCell ⟨g, k, none⟩ (.string (B.at_ (B.cuts rs) k))) := hb.setCell hBg _
      obtain ⟨s, hs⟩ : ∃ s, B.at_ rs k = s := ⟨_, rfl⟩
      obtain ⟨c, hc⟩ : ∃ s, B.at_ (B.cuts rs) k = s := ⟨_, rfl⟩
      obtain ⟨c0, hc0⟩ : ∃ s, B.at_ (B.cuts rs) 0 = s := ⟨_, rfl⟩
      have hcz : c.size ≤ 300 := by rw [← hc]; exact B.cuts_size _ (B.at_mem (by rw [B.cuts_length]; exact hkr))
      rw [hs] at hce C1
      rw [hc] at hst hk1 hk0 C1 hws hbs
      rw [hc0] at hk0 hws
      have hcm : c.size ≤ maxLen := by unfold maxLen; omega
      have HST := Lib.hid hst
      have HBS := Lib.hid hbs
      clear hs hc hc0 hst hbs ho
      go_wp2_with (first | (go_at_call 16; (with_reducible refine (C1.out _).mono ?_); rintro e w' ⟨rfl, rfl⟩))
      generalize wr.setCell ⟨g, k, none⟩ (.string c) = w2 at *
      have hm0 : 0 < m := by omega
      have hm0' : (0 : Int) < m := by omega
      clear hce hfr hb
      cases hwk : B.wellTo rs k with
      | false =>
        rw [hwk] at hws
        go_quiet ((go_at_call 12; exact quiet_mine (refright_any _ _ hcm)))
        rename_i nq
        go_wp2
        go_roundw
        case rel => exact ⟨k + 1, by omega, by go_num, val_bool (by rw [hws.out]; rfl), ownsRow_drewN HST.out nq, below_drewN HBS.out nq⟩
        case measure => simp [RowKit.intOf]; omega
      | true =>
        rw [hwk] at hws
        cases hr : B.right c with
        | false =>
          have hok : B.okrow c0 c = false := by unfold B.okrow; rw [hr]; rfl
          have HOK := Lib.hid hok
          clear hok
          go_quiet ((go_at_call 12; exact quiet_mine (refright_any _ _ hcm)))
          rename_i nq
          go_wp2
          go_roundw
          case rel => exact ⟨k + 1, by omega, by go_num, val_bool (by rw [hws.out]; rw [HOK.out]; rfl), ownsRow_drewN HST.out nq, below_drewN HBS.out nq⟩
          case measure => simp [RowKit.intOf]; omega
        | true =>
          by_cases he : c.size = c0.size
          · have HOK := Lib.hid (show B.okrow c0 c = true by unfold B.okrow; rw [hr]; simp [he])
            have hq : ((c.size : Int) == c0.size) = true := by rw [beq_iff_eq]; omega
            clear he
            go_quiet ((go_at_call 12; exact quiet_mine (refright_any _ _ hcm)))
            rename_i nq
            go_wp2
            go_roundw
            case rel => exact ⟨k + 1, by omega, by go_num, val_bool (by rw [hws.out]; rw [HOK.out]; rfl), ownsRow_drewN HST.out nq, below_drewN HBS.out nq⟩
            case measure => simp [RowKit.intOf]; omega
          · have HOK := Lib.hid (show B.okrow c0 c = false by unfold B.okrow; rw [hr]; simp [he])
            have hq : ((c.size : Int) == c0.size) = false := by rw [beq_eq_false_iff_ne]; omega
            clear he
            go_quiet ((go_at_call 12; exact quiet_mine (refright_any _ _ hcm)))
            rename_i nq
            go_wp2
            go_roundw
            case rel => exact ⟨k + 1, by omega, by go_num, val_bool (by rw [hws.out]; rw [HOK.out]; rfl), ownsRow_drewN HST.out nq, below_drewN HBS.out nq⟩
            case measure => simp [RowKit.intOf]; omega
    · have hkm : k = m := by omega
      have hwell : B.wellTo rs k = B.alike cs := by rw [hkm, ← HRL.out, B.wellTo_full, HRS.out, hcs]
      have hmix : B.mix rs k = cs := by rw [hkm, ← HRL.out, B.mix_full, HRS.out, hcs]
      have hcl : cs.length = m := by rw [← hcs, B.cuts_length, ← HRS.out, HRL.out]
      have hcz : ∀ s ∈ cs, s.size ≤ 300 := by rw [← hcs]; exact B.cuts_size
      rw [hmix] at ho
      have hRow : RowS wr g cs := fun i hi => by
        rw [ho.cellAt i (by omega), List.getElem?_map]
        unfold B.at_
        rw [List.getD_eq_getElem?_getD, List.getElem?_eq_getElem hi]; rfl
      have hgr : g < wr.heap.size := (ho.lt g rfl).2
      have hmcg : m ≤ cg := own_cap ho
      rw [ha] at hwell
      rw [hwell]
      have hG := Lib.hid hb
      clear hkm hmix ho hb hwell
      have hcz' : ∀ s ∈ cs, s.size ≤ maxLen := fun s hs => by have := hcz s hs; unfold maxLen; omega
      have hcm : cs.length ≤ maxLen := by unfold maxLen; omega
      have hc0 : (B.at_ cs 0).size ≤ 4000 := by have := hcz _ (B.at_mem (B.alike_pos ha)); omega
      have C17 := and_yes g cg cs wr hcm hcz' hRow ha (by omega) hgr
      have C18 := fun (w' : World) (h : RowS w' g cs) => refand_any g cg cs w' hcm hc0 h ha
      have C19 := fun (w' : World) (h1 : RowS w' g cs) (h2 : g < w'.heap.size) => join_any g cg cs w' h1 h2 (by omega) hcz (by omega)
      rw [hcl] at C17 C18 C19
      obtain ⟨J, hJ⟩ : ∃ J : ByteArray, ⟨(Lib.join (cs.map (·.data.toList)) []).toArray⟩ = J := ⟨_, rfl⟩
      rw [hJ] at C19 hs
      have C16 := fun w => short_any J w
      rw [hs] at C16
      obtain ⟨X, hX⟩ : ∃ X : ByteArray, ⟨(B.andL cs).toArray⟩ = X := ⟨_, rfl⟩
      rw [hX] at C17 C18
      have C18 := Lib.hid C18
      clear hX
      have C17 := Lib.hid C17
      have C19 := Lib.hid C19
      have C16 := Lib.hid C16
      have hsz : s.size ≤ 300 := by rw [← hs]; have : (cutS J 300).size = min 300 J.size := cutS_size J 300; omega
      have hsm : s.size ≤ maxLen := by unfold maxLen; omega
      have hB : Below wr.heap.size wr wr := Below.refl _ _
      have CF := Lib.hid (fun (w' : World) => flip_none s A1 c1 w' hr)
      obtain ⟨rr, hrr⟩ : ∃ rr, rr = B.runsOf s.data.toList := ⟨_, rfl⟩
      have CR := fun (w' : World) => runs_yes s w' hr
      have CRR := fun (w' : World) => refruns_any s w' (by omega)
      rw [← hrr] at CR CRR
      have hn2 : rr.length ≤ 4000 := by rw [hrr]; have := B.runs_le s.data.toList; rw [B.size_len] at this; omega
      obtain ⟨n2, hn2'⟩ : ∃ n2, n2 = rr.length := ⟨_, rfl⟩
      rw [← hn2'] at hn2
      have HN2 := Lib.hid hn2'
      have CR := Lib.hid CR
      have CRR := Lib.hid CRR
      clear hrr hn2'
      have HROW := Lib.hid hRow
      clear hRow hcz' hcm hs hJ hcz hcl hcs ha
      go_wp2_with (first | (go_at_call 17; (with_reducible refine C17.out.mono ?_); rintro e w2 ⟨rfl, hb2⟩; replace hB := hB.trans (hb2.mono hB.size)) | (go_at_call 18; (with_reducible refine (C18.out _ (HROW.out.below hB hgr)).mono ?_); rintro e w2 ⟨rfl, rfl⟩) | (go_at_call 19; (with_reducible refine (C19.out _ (HROW.out.below hB hgr) (Nat.lt_of_lt_of_le hgr hB.size)).mono ?_); rintro e w2 ⟨rfl, hb2⟩; replace hB := hB.trans (hb2.mono hB.size)) | (go_at_call 16; (with_reducible refine (C16.out _).mono ?_); rintro e w2 ⟨rfl, rfl⟩) | (go_at_call 20; (with_reducible refine (CF.out _).mono ?_); rintro e w2 ⟨rfl, hb2⟩; replace hB := hB.trans (hb2.mono hB.size)))
      refine (CR.out _).mono ?_
      rintro e wa ⟨v, rfl, ho, hb2⟩
      obtain ⟨A2, c2, rfl, hS2⟩ := own_runs ho
      rw [← show n2 = _ from HN2.out]
      have HS2 := Lib.hid hS2
      replace hB := hB.trans (hb2.mono hB.size)
      replace hG := Lib.hid (hG.out.trans (hB.mono (by have := hG.out.size; have := HB.out; omega)))
      clear ho hS2 hB hb2
      have hB : Below wa.heap.size wa wa := Below.refl _ _
      go_wp2_with (first | (go_at_call 12; (with_reducible refine (refright_any _ _ hsm).mono ?_); rintro e w2 ⟨rfl, rfl⟩) | (go_at_call 13; (with_reducible refine (alive_any _).mono ?_); rintro e w2 ⟨rfl, hb2⟩; replace hB := hB.trans (hb2.mono hB.size)) | (go_at_call 24; (with_reducible refine (CRR.out _).mono ?_); rintro e w2 ⟨v, rfl, ho, hb2⟩; replace hB := hB.trans (hb2.mono hB.size); obtain ⟨A3, c3, rfl, hS3⟩ := own_runs ho; rw [← show n2 = _ from HN2.out]; clear ho; have HS3 := Lib.hid hS3; clear hS3) | (go_at_call 23; (with_reducible refine (same_any _ _ _ _ n2 rr _ HN2.out hn2 (HS2.out.below hB) HS3.out).mono ?_); rintro e w2 ⟨rfl, hb2⟩; replace hB := hB.trans (hb2.mono hB.size)))
      refine wp_loop_rounds 1 ?_
      rw [rounds_succ]
      go_wp2_with (first | (go_at_call 12; (with_reducible refine (refright_any _ _ hsm).mono ?_); rintro e w2 ⟨rfl, rfl⟩) | (go_at_call 13; (with_reducible refine (alive_any _).mono ?_); rintro e w2 ⟨rfl, hb2⟩; replace hB := hB.trans (hb2.mono hB.size)) | (go_at_call 24; (with_reducible refine (CRR.out _).mono ?_); rintro e w2 ⟨v, rfl, ho, hb2⟩; replace hB := hB.trans (hb2.mono hB.size); obtain ⟨A3, c3, rfl, hS3⟩ := own_runs ho; rw [← show n2 = _ from HN2.out]; clear ho; have HS3 := Lib.hid hS3; clear hS3) | (go_at_call 23; (with_reducible refine (same_any _ _ _ _ n2 rr _ HN2.out hn2 (HS2.out.below hB) HS3.out).mono ?_); rintro e w2 ⟨rfl, hb2⟩; replace hB := hB.trans (hb2.mono hB.size)))
      go_ret
      exact ⟨rfl, hG.out.trans (hB.mono (by have := hG.out.size; have := HB.out; omega))⟩

set_option maxRecDepth 100000 in
set_option maxHeartbeats 4000000 in
theorem rowsLaw_true_yes (a : Addr) (n cap : Nat) (ss : List ByteArray) (A1 : Option Addr) (n1 c1 : Nat) (w : World) (hnc : n ≤ cap) (hcap : cap ≤ maxLen) (hss : ss.length = n) (hab : 0 < n → a.block < w.heap.size) (hcell : ∀ i, i < n → w.cell? (a.add i) = some (.string (B.at_ ss i)))
    (m : Nat) (hm : min (n : Int) 8 = (m : Int)) (cs : List ByteArray) (hcs : B.cuts (ss.take m) = cs) (ha : B.alike cs = true) (s : ByteArray) (hs : cutS ⟨(Lib.join (cs.map (·.data.toList)) []).toArray⟩ 300 = s)
    (m1 : Nat) (hm1 : min (n1 : Int) 20 = (m1 : Int)) (_hn1 : n1 ≤ c1) (zs : List Int) (hini : InI w A1 m1 zs) (hr : B.right s = true) (hm10 : 0 < m1) (hp : B.places s.size zs = true) :
    Calls Try.prog 4 #[.slice (some a) n cap, .slice A1 n1 c1] w fun e w' => e = .returned (.bool true) ∧ Below w.heap.size w w' := by
  unfold maxLen at hcap
  have hm1n : m1 ≤ n1 := by omega
  have HINI := Lib.hid hini
  clear hini
  have hmn : m ≤ n := by omega
  have hm8 : m ≤ 8 := by omega
  obtain ⟨rs, hrs⟩ : ∃ rs, rs = ss.take m := ⟨_, rfl⟩
  have hrl : rs.length = m := by rw [hrs, List.length_take]; omega
  have hnews : ∀ (j : Nat) (u : Value), (rs.map Value.string)[j]? = some u → (w.alloc (.cells #[] 9)).cell? (a.add j) = some u := by
    intro j u hu
    rw [List.getElem?_map] at hu
    obtain ⟨s, hs, rfl⟩ := Option.map_eq_some_iff.1 hu
    have hj : j < m := by rw [← hrl]; exact (List.getElem?_eq_some_iff.1 hs).1
    rw [World.cell?_alloc_lt _ _ _ (by rw [addr_block]; exact hab (by omega)), hcell j (by omega)]
    rw [hrs, List.getElem?_take, if_pos hj] at hs
    unfold B.at_
    rw [List.getD_eq_getElem?_getD, hs]; rfl
  obtain ⟨i0, hi, hz0, hz1, hz2⟩ := info_parts Try.info9
  obtain ⟨B0, hB⟩ : ∃ b, b = w.heap.size := ⟨_, rfl⟩
  have hlit := World.ownsRow_lit (base := w.heap.size) (e := 9) (size := 1) w #[] 0 (Nat.le_refl _) (by simp) (by simp)
  rw [← hB] at hlit ⊢
  have HB := Lib.hid hB
  have HLIT := Lib.hid hlit
  have HRL := Lib.hid hrl
  have HNEWS := Lib.hid hnews
  have HRS := Lib.hid hrs
  have HCELL := Lib.hid hcell
  have HSS := Lib.hid hss
  clear hB hlit hrl hnews hrs hcell hss hab
  go_enter Try.func4, Try.ntmps4
  go_wp2_with (at_builtin; refine wpList_append_own _ rfl (.tmp 19) (.tmp 24) 34 rfl B0 9 i0 (.string ⟨#[]⟩) 1 16 Try.underlying34 hi hz0 hz1 hz2 rfl (by decide) _ _ _ rfl (by rw [← HB.out]; exact HLIT.out) a m _ (rs.map Value.string) rfl ?c0 ?c1 ?c2 ?c3 ?c4 ?c5 ?_)
  case c0 => exact HRL.out
  case c1 => exact fun j x hj => HNEWS.out j (.string x) (by rw [List.getElem?_map, hj]; rfl)
  case c2 => intro _ _; rfl
  case c3 => unfold maxLen; omega
  case c4 => omega
  case c5 => rw [HB.out]; omega
  intro v' w1 hown hgrow hnn
  have hb1 : Below B0 w w1 := ((Below.refl B0 w).alloc (by rw [HB.out]; exact Nat.le_refl _) _).grown hgrow (by rw [HB.out]; simp) (fun g hg => by simp [Value.ownBlock] at hg; rw [HB.out]; omega)
  obtain ⟨g, cg, rfl, hBg, hgl⟩ := own_form hown hnn
  clear hgrow hnn
  have hown : w1.ownsRow B0 9 1 (.slice (some ⟨g, 0, none⟩) m cg) m ((B.mix rs 0).map Value.string) := by rw [B.mix_zero]; exact hown
  have HOWN := Lib.hid hown
  have HW0 := Lib.hid (show B.wellTo rs 0 = decide (0 < m) by rw [B.wellTo_zero, HRL.out])
  clear hown
  go_wp2
  go_loopw [5, 31] (fun bl i wr => ∃ k : Nat, k ≤ m ∧ i = .int .i64 k ∧ bl = .bool (B.wellTo rs k) ∧ wr.ownsRow B0 9 1 (.slice (some ⟨g, 0, none⟩) m cg) m ((B.mix rs k).map Value.string) ∧ Below B0 w wr) (fun _ i _ => m - (RowKit.intOf i).toNat)
  case atStart => exact ⟨0, Nat.zero_le _, rfl, by rw [HW0.out], HOWN.out, hb1⟩
  case round =>
    obtain ⟨k, hk, rfl, hbl, ho, hb⟩ := hrel
    subst hbl
    by_cases hlt : k < m
    · have hkr : k < rs.length := by rw [HRL.out]; exact hlt
      have hce := ho.cellAt k (by omega)
      rw [List.getElem?_map, B.mix_old hkr, Option.map_some] at hce
      have hfr := ho.frozenAt k
      have hws := Lib.hid (B.wellTo_succ hkr)
      have C1 := Lib.hid (fun w => short_any (B.at_ rs k) w)
      rw [← B.at_cuts hkr] at C1
      have hst := (ho.stored k (.string (B.at_ (B.cuts rs) k))).1
      rw [show ((B.mix rs k).map Value.string).set k (.string (B.at_ (B.cuts rs) k)) = (B.mix rs (k + 1)).map Value.string from by rw [← List.map_set, B.mix_set hkr]] at hst
      have hk1 := hst.cellAt k (by omega)
      rw [List.getElem?_map, B.mix_new (by omega) (by omega), Option.map_some] at hk1
      have hk0 := hst.cellAt 0 (by omega)
      rw [List.getElem?_map, B.mix_new (by omega) (by omega), Option.map_some] at hk0
      have hbs : Below B0 w (wr.setCell ⟨g, k, none⟩ (.string (B.at_ (B.cuts rs) k))) := hb.setCell hBg _
      obtain ⟨s, hs⟩ : ∃ s, B.at_ rs k = s := ⟨_, rfl⟩
      obtain ⟨c, hc⟩ : ∃ s, B.at_ (B.cuts rs) k = s := ⟨_, rfl⟩
      obtain ⟨c0, hc0⟩ : ∃ s, B.at_ (B.cuts rs) 0 = s := ⟨_, rfl⟩
      have hcz : c.size ≤ 300 := by rw [← hc]; exact B.cuts_size _ (B.at_mem (by rw [B.cuts_length]; exact hkr))
      rw [hs] at hce C1
      rw [hc] at hst hk1 hk0 C1 hws hbs
      rw [hc0] at hk0 hws
      have hcm : c.size ≤ maxLen := by unfold maxLen; omega
      have HST := Lib.hid hst
      have HBS := Lib.hid hbs
      clear hs hc hc0 hst hbs ho
      go_wp2_with (first | (go_at_call 16; (with_reducible refine (C1.out _).mono ?_); rintro e w' ⟨rfl, rfl⟩))
      generalize wr.setCell ⟨g, k, none⟩ (.string c) = w2 at *
      have hm0 : 0 < m := by omega
      have hm0' : (0 : Int) < m := by omega
      clear hce hfr hb
      cases hwk : B.wellTo rs k with
      | false =>
        rw [hwk] at hws
        go_quiet ((go_at_call 12; exact quiet_mine (refright_any _ _ hcm)))
        rename_i nq
        go_wp2
        go_roundw
        case rel => exact ⟨k + 1, by omega, by go_num, val_bool (by rw [hws.out]; rfl), ownsRow_drewN HST.out nq, below_drewN HBS.out nq⟩
        case measure => simp [RowKit.intOf]; omega
      | true =>
        rw [hwk] at hws
        cases hr : B.right c with
        | false =>
          have hok : B.okrow c0 c = false := by unfold B.okrow; rw [hr]; rfl
          have HOK := Lib.hid hok
          clear hok
          go_quiet ((go_at_call 12; exact quiet_mine (refright_any _ _ hcm)))
          rename_i nq
          go_wp2
          go_roundw
          case rel => exact ⟨k + 1, by omega, by go_num, val_bool (by rw [hws.out]; rw [HOK.out]; rfl), ownsRow_drewN HST.out nq, below_drewN HBS.out nq⟩
          case measure => simp [RowKit.intOf]; omega
        | true =>
          by_cases he : c.size = c0.size
          · have HOK := Lib.hid (show B.okrow c0 c = true by unfold B.okrow; rw [hr]; simp [he])
            have hq : ((c.size : Int) == c0.size) = true := by rw [beq_iff_eq]; omega
            clear he
            go_quiet ((go_at_call 12; exact quiet_mine (refright_any _ _ hcm)))
            rename_i nq
            go_wp2
            go_roundw
            case rel => exact ⟨k + 1, by omega, by go_num, val_bool (by rw [hws.out]; rw [HOK.out]; rfl), ownsRow_drewN HST.out nq, below_drewN HBS.out nq⟩
            case measure => simp [RowKit.intOf]; omega
          · have HOK := Lib.hid (show B.okrow c0 c = false by unfold B.okrow; rw [hr]; simp [he])
            have hq : ((c.size : Int) == c0.size) = false := by rw [beq_eq_false_iff_ne]; omega
            clear he
            go_quiet ((go_at_call 12; exact quiet_mine (refright_any _ _ hcm)))
            rename_i nq
            go_wp2
            go_roundw
            case rel => exact ⟨k + 1, by omega, by go_num, val_bool (by rw [hws.out]; rw [HOK.out]; rfl), ownsRow_drewN HST.out nq, below_drewN HBS.out nq⟩
            case measure => simp [RowKit.intOf]; omega
    · have hkm : k = m := by omega
      have hwell : B.wellTo rs k = B.alike cs := by rw [hkm, ← HRL.out, B.wellTo_full, HRS.out, hcs]
      have hmix : B.mix rs k = cs := by rw [hkm, ← HRL.out, B.mix_full, HRS.out, hcs]
      have hcl : cs.length = m := by rw [← hcs, B.cuts_length, ← HRS.out, HRL.out]
      have hcz : ∀ s ∈ cs, s.size ≤ 300 := by rw [← hcs]; exact B.cuts_size
      rw [hmix] at ho
      have hRow : RowS wr g cs := fun i hi => by
        rw [ho.cellAt i (by omega), List.getElem?_map]
        unfold B.at_
        rw [List.getD_eq_getElem?_getD, List.getElem?_eq_getElem hi]; rfl
      have hgr : g < wr.heap.size := (ho.lt g rfl).2
      have hmcg : m ≤ cg := own_cap ho
      rw [ha] at hwell
      rw [hwell]
      have hG := Lib.hid hb
      clear hkm hmix ho hb hwell
      have hcz' : ∀ s ∈ cs, s.size ≤ maxLen := fun s hs => by have := hcz s hs; unfold maxLen; omega
      have hcm : cs.length ≤ maxLen := by unfold maxLen; omega
      have hc0 : (B.at_ cs 0).size ≤ 4000 := by have := hcz _ (B.at_mem (B.alike_pos ha)); omega
      have C17 := and_yes g cg cs wr hcm hcz' hRow ha (by omega) hgr
      have C18 := fun (w' : World) (h : RowS w' g cs) => refand_any g cg cs w' hcm hc0 h ha
      have C19 := fun (w' : World) (h1 : RowS w' g cs) (h2 : g < w'.heap.size) => join_any g cg cs w' h1 h2 (by omega) hcz (by omega)
      rw [hcl] at C17 C18 C19
      obtain ⟨J, hJ⟩ : ∃ J : ByteArray, ⟨(Lib.join (cs.map (·.data.toList)) []).toArray⟩ = J := ⟨_, rfl⟩
      rw [hJ] at C19 hs
      have C16 := fun w => short_any J w
      rw [hs] at C16
      obtain ⟨X, hX⟩ : ∃ X : ByteArray, ⟨(B.andL cs).toArray⟩ = X := ⟨_, rfl⟩
      rw [hX] at C17 C18
      have C18 := Lib.hid C18
      clear hX
      have C17 := Lib.hid C17
      have C19 := Lib.hid C19
      have C16 := Lib.hid C16
      have hsz : s.size ≤ 300 := by rw [← hs]; have : (cutS J 300).size = min 300 J.size := cutS_size J 300; omega
      have hsm : s.size ≤ maxLen := by unfold maxLen; omega
      have hB : Below wr.heap.size wr wr := Below.refl _ _
      obtain ⟨bA, off, rfl, hbA, hRI⟩ := HINI.out.2 hm10
      have HZL := Lib.hid HINI.out.1
      have CF := fun (w' : World) (h1 : RowI w' bA off zs) (h2 : bA < w'.heap.size) => flip_any s bA off c1 zs w' hr (by rw [HZL.out]; unfold maxLen; omega) h1 h2
      rw [flipEnd_yes hp] at CF
      obtain ⟨T, hT⟩ : ∃ T : ByteArray, ⟨(B.flips s.data.toList zs).toArray⟩ = T := ⟨_, rfl⟩
      rw [hT] at CF
      rw [show zs.length = m1 from HZL.out] at CF
      have CF := Lib.hid CF
      have HRI : Hid (∀ w' : World, Below wr.heap.size wr w' → RowI w' bA off zs ∧ bA < w'.heap.size) := Lib.hid (fun w' hb => by
        have hb0 : bA < wr.heap.size := by have := hG.out.size; omega
        refine ⟨fun i hi => ?_, Nat.lt_of_lt_of_le hb0 hb.size⟩
        rw [hb.cell (p := ⟨bA, off + i, none⟩) hb0, hG.out.cell (p := ⟨bA, off + i, none⟩) (by show bA < _; rw [HB.out]; exact hbA)]
        exact hRI i hi)
      clear hRI
      obtain ⟨rr, hrr⟩ : ∃ rr, rr = B.runsOf s.data.toList := ⟨_, rfl⟩
      have CR := fun (w' : World) => runs_yes s w' hr
      have CRR := fun (w' : World) => refruns_any s w' (by omega)
      rw [← hrr] at CR CRR
      have hn2 : rr.length ≤ 4000 := by rw [hrr]; have := B.runs_le s.data.toList; rw [B.size_len] at this; omega
      obtain ⟨n2, hn2'⟩ : ∃ n2, n2 = rr.length := ⟨_, rfl⟩
      rw [← hn2'] at hn2
      have HN2 := Lib.hid hn2'
      have CR := Lib.hid CR
      have CRR := Lib.hid CRR
      clear hrr hn2'
      have HROW := Lib.hid hRow
      clear hRow hcz' hcm hs hJ hcz hcl hcs ha
      go_wp2_with (first | (go_at_call 17; (with_reducible refine C17.out.mono ?_); rintro e w2 ⟨rfl, hb2⟩; replace hB := hB.trans (hb2.mono hB.size)) | (go_at_call 18; (with_reducible refine (C18.out _ (HROW.out.below hB hgr)).mono ?_); rintro e w2 ⟨rfl, rfl⟩) | (go_at_call 19; (with_reducible refine (C19.out _ (HROW.out.below hB hgr) (Nat.lt_of_lt_of_le hgr hB.size)).mono ?_); rintro e w2 ⟨rfl, hb2⟩; replace hB := hB.trans (hb2.mono hB.size)) | (go_at_call 16; (with_reducible refine (C16.out _).mono ?_); rintro e w2 ⟨rfl, rfl⟩) | (go_at_call 20; (with_reducible refine (CF.out _ (HRI.out _ hB).1 (HRI.out _ hB).2).mono ?_); rintro e w2 ⟨rfl, hb2⟩; replace hB := hB.trans (hb2.mono hB.size)))
      refine (CR.out _).mono ?_
      rintro e wa ⟨v, rfl, ho, hb2⟩
      obtain ⟨A2, c2, rfl, hS2⟩ := own_runs ho
      rw [← show n2 = _ from HN2.out]
      have HS2 := Lib.hid hS2
      replace hB := hB.trans (hb2.mono hB.size)
      have HRI2 := Lib.hid (fun (w' : World) (h : Below wa.heap.size wa w') => HRI.out w' (hB.trans (h.mono hB.size)))
      replace hG := Lib.hid (hG.out.trans (hB.mono (by have := hG.out.size; have := HB.out; omega)))
      clear ho hS2 hB hb2
      have hB : Below wa.heap.size wa wa := Below.refl _ _
      go_wp2_with (first | (go_at_call 12; (with_reducible refine (refright_any _ _ hsm).mono ?_); rintro e w2 ⟨rfl, rfl⟩) | (go_at_call 13; (with_reducible refine (alive_any _).mono ?_); rintro e w2 ⟨rfl, hb2⟩; replace hB := hB.trans (hb2.mono hB.size)) | (go_at_call 24; (with_reducible refine (CRR.out _).mono ?_); rintro e w2 ⟨v, rfl, ho, hb2⟩; replace hB := hB.trans (hb2.mono hB.size); obtain ⟨A3, c3, rfl, hS3⟩ := own_runs ho; rw [← show n2 = _ from HN2.out]; clear ho; have HS3 := Lib.hid hS3; clear hS3) | (go_at_call 23; (with_reducible refine (same_any _ _ _ _ n2 rr _ HN2.out hn2 (HS2.out.below hB) HS3.out).mono ?_); rintro e w2 ⟨rfl, hb2⟩; replace hB := hB.trans (hb2.mono hB.size)))
      go_loopw [15, 16, 109] (fun wn bd i wr2 => ∃ k2 : Nat, k2 ≤ m1 ∧ i = .int .i64 k2 ∧ wn = .string (turned s zs k2) ∧ bd = .bool false ∧ B.preP s.size zs k2 ∧ Below wa.heap.size wa wr2) (fun _ _ i _ => m1 - (RowKit.intOf i).toNat)
      case atStart => exact ⟨0, Nat.zero_le _, rfl, by rw [turned_zero], rfl, B.preP_zero _ _, hB⟩
      case round =>
        obtain ⟨k2, hk2, rfl, htu, rfl, hpp, hB⟩ := hrel
        subst htu
        by_cases hl2 : k2 < m1
        · have hkz : k2 < zs.length := by rw [HZL.out]; exact hl2
          have hx := (HRI2.out _ hB).1 k2 hkz
          obtain ⟨z, hz⟩ : ∃ z, zs.getD k2 0 = z := ⟨_, rfl⟩
          rw [hz] at hx
          by_cases hin : 0 ≤ z ∧ z < s.size
          · obtain ⟨h0, h1⟩ := hin
            obtain ⟨j, rfl⟩ := Int.eq_ofNat_of_zero_le h0
            have hjs : j < s.size := by omega
            have hpp' := Lib.hid (B.preP_succ hkz hpp (by rw [hz]; exact h0) (by rw [hz]; exact h1))
            have CT := fun (w' : World) => refturn_any (turned s zs k2) j w' (by rw [turned_size]; exact hjs) (by rw [turned_size]; omega) (turned_right zs k2 hr)
            rw [turned_succ hkz hz] at CT
            have CT := Lib.hid CT
            clear hpp hz
            go_wp2_with (go_at_call 22; (with_reducible refine (CT.out _).mono ?_); rintro e w2 ⟨rfl, hb2⟩; replace hB := hB.trans (hb2.mono hB.size))
            go_roundw
            case rel => exact ⟨k2 + 1, by omega, by go_num, rfl, rfl, hpp'.out, hB⟩
            case measure => simp [RowKit.intOf]; omega
          · exfalso
            have := B.places_bad (n := s.size) hkz (by rw [hz]; exact hin)
            rw [hp] at this
            cases this
        · have HT := Lib.hid (show turned s zs k2 = T by rw [← hT]; unfold turned; rw [List.take_of_length_le (by rw [HZL.out]; omega)])
          rw [HT.out]
          clear hpp
          go_wp2_with (first | (go_at_call 12; (with_reducible refine (refright_any _ _ hsm).mono ?_); rintro e w2 ⟨rfl, rfl⟩) | (go_at_call 13; (with_reducible refine (alive_any _).mono ?_); rintro e w2 ⟨rfl, hb2⟩; replace hB := hB.trans (hb2.mono hB.size)) | (go_at_call 24; (with_reducible refine (CRR.out _).mono ?_); rintro e w2 ⟨v, rfl, ho, hb2⟩; replace hB := hB.trans (hb2.mono hB.size); obtain ⟨A3, c3, rfl, hS3⟩ := own_runs ho; rw [← show n2 = _ from HN2.out]; clear ho; have HS3 := Lib.hid hS3; clear hS3) | (go_at_call 23; (with_reducible refine (same_any _ _ _ _ n2 rr _ HN2.out hn2 (HS2.out.below hB) HS3.out).mono ?_); rintro e w2 ⟨rfl, hb2⟩; replace hB := hB.trans (hb2.mono hB.size)))
          go_ret
          exact ⟨rfl, hG.out.trans (hB.mono (by have := hG.out.size; have := HB.out; omega))⟩

set_option maxRecDepth 100000 in
set_option maxHeartbeats 4000000 in
theorem rowsLaw_true_bad (a : Addr) (n cap : Nat) (ss : List ByteArray) (A1 : Option Addr) (n1 c1 : Nat) (w : World) (hnc : n ≤ cap) (hcap : cap ≤ maxLen) (hss : ss.length = n) (hab : 0 < n → a.block < w.heap.size) (hcell : ∀ i, i < n → w.cell? (a.add i) = some (.string (B.at_ ss i)))
    (m : Nat) (hm : min (n : Int) 8 = (m : Int)) (cs : List ByteArray) (hcs : B.cuts (ss.take m) = cs) (ha : B.alike cs = true) (s : ByteArray) (hs : cutS ⟨(Lib.join (cs.map (·.data.toList)) []).toArray⟩ 300 = s)
    (m1 : Nat) (hm1 : min (n1 : Int) 20 = (m1 : Int)) (_hn1 : n1 ≤ c1) (zs : List Int) (hini : InI w A1 m1 zs) (hr : B.right s = true) (hm10 : 0 < m1) (hp : B.places s.size zs = false) :
    Calls Try.prog 4 #[.slice (some a) n cap, .slice A1 n1 c1] w fun e w' => e = .returned (.bool true) ∧ Below w.heap.size w w' := by
  unfold maxLen at hcap
  have hm1n : m1 ≤ n1 := by omega
  have HINI := Lib.hid hini
  clear hini
  have hmn : m ≤ n := by omega
  have hm8 : m ≤ 8 := by omega
  obtain ⟨rs, hrs⟩ : ∃ rs, rs = ss.take m := ⟨_, rfl⟩
  have hrl : rs.length = m := by rw [hrs, List.length_take]; omega
  have hnews : ∀ (j : Nat) (u : Value), (rs.map Value.string)[j]? = some u → (w.alloc (.cells #[] 9)).cell? (a.add j) = some u := by
    intro j u hu
    rw [List.getElem?_map] at hu
    obtain ⟨s, hs, rfl⟩ := Option.map_eq_some_iff.1 hu
    have hj : j < m := by rw [← hrl]; exact (List.getElem?_eq_some_iff.1 hs).1
    rw [World.cell?_alloc_lt _ _ _ (by rw [addr_block]; exact hab (by omega)), hcell j (by omega)]
    rw [hrs, List.getElem?_take, if_pos hj] at hs
    unfold B.at_
    rw [List.getD_eq_getElem?_getD, hs]; rfl
  obtain ⟨i0, hi, hz0, hz1, hz2⟩ := info_parts Try.info9
  obtain ⟨B0, hB⟩ : ∃ b, b = w.heap.size := ⟨_, rfl⟩
  have hlit := World.ownsRow_lit (base := w.heap.size) (e := 9) (size := 1) w #[] 0 (Nat.le_refl _) (by simp) (by simp)
  rw [← hB] at hlit ⊢
  have HB := Lib.hid hB
  have HLIT := Lib.hid hlit
  have HRL := Lib.hid hrl
  have HNEWS := Lib.hid hnews
  have HRS := Lib.hid hrs
  have HCELL := Lib.hid hcell
  have HSS := Lib.hid hss
  clear hB hlit hrl hnews hrs hcell hss hab
  go_enter Try.func4, Try.ntmps4
  go_wp2_with (at_builtin; refine wpList_append_own _ rfl (.tmp 19) (.tmp 24) 34 rfl B0 9 i0 (.string ⟨#[]⟩) 1 16 Try.underlying34 hi hz0 hz1 hz2 rfl (by decide) _ _ _ rfl (by rw [← HB.out]; exact HLIT.out) a m _ (rs.map Value.string) rfl ?c0 ?c1 ?c2 ?c3 ?c4 ?c5 ?_)
  case c0 => exact HRL.out
  case c1 => exact fun j x hj => HNEWS.out j (.string x) (by rw [List.getElem?_map, hj]; rfl)
  case c2 => intro _ _; rfl
  case c3 => unfold maxLen; omega
  case c4 => omega
  case c5 => rw [HB.out]; omega
  intro v' w1 hown hgrow hnn
  have hb1 : Below B0 w w1 := ((Below.refl B0 w).alloc (by rw [HB.out]; exact Nat.le_refl _) _).grown hgrow (by rw [HB.out]; simp) (fun g hg => by simp [Value.ownBlock] at hg; rw [HB.out]; omega)
  obtain ⟨g, cg, rfl, hBg, hgl⟩ := own_form hown hnn
  clear hgrow hnn
  have hown : w1.ownsRow B0 9 1 (.slice (some ⟨g, 0, none⟩) m cg) m ((B.mix rs 0).map Value.string) := by rw [B.mix_zero]; exact hown
  have HOWN := Lib.hid hown
  have HW0 := Lib.hid (show B.wellTo rs 0 = decide (0 < m) by rw [B.wellTo_zero, HRL.out])
  clear hown
  go_wp2
  go_loopw [5, 31] (fun bl i wr => ∃ k : Nat, k ≤ m ∧ i = .int .i64 k ∧ bl = .bool (B.wellTo rs k) ∧ wr.ownsRow B0 9 1 (.slice (some ⟨g, 0, none⟩) m cg) m ((B.mix rs k).map Value.string) ∧ Below B0 w wr) (fun _ i _ => m - (RowKit.intOf i).toNat)
  case atStart => exact ⟨0, Nat.zero_le _, rfl, by rw [HW0.out], HOWN.out, hb1⟩
  case round =>
    obtain ⟨k, hk, rfl, hbl, ho, hb⟩ := hrel
    subst hbl
    by_cases hlt : k < m
    · have hkr : k < rs.length := by rw [HRL.out]; exact hlt
      have hce := ho.cellAt k (by omega)
      rw [List.getElem?_map, B.mix_old hkr, Option.map_some] at hce
      have hfr := ho.frozenAt k
      have hws := Lib.hid (B.wellTo_succ hkr)
      have C1 := Lib.hid (fun w => short_any (B.at_ rs k) w)
      rw [← B.at_cuts hkr] at C1
      have hst := (ho.stored k (.string (B.at_ (B.cuts rs) k))).1
      rw [show ((B.mix rs k).map Value.string).set k (.string (B.at_ (B.cuts rs) k)) = (B.mix rs (k + 1)).map Value.string from by rw [← List.map_set, B.mix_set hkr]] at hst
      have hk1 := hst.cellAt k (by omega)
      rw [List.getElem?_map, B.mix_new (by omega) (by omega), Option.map_some] at hk1
      have hk0 := hst.cellAt 0 (by omega)
      rw [List.getElem?_map, B.mix_new (by omega) (by omega), Option.map_some] at hk0
      have hbs : Below B0 w (wr.setCell ⟨g, k, none⟩ (.string (B.at_ (B.cuts rs) k))) := hb.setCell hBg _
      obtain ⟨s, hs⟩ : ∃ s, B.at_ rs k = s := ⟨_, rfl⟩
      obtain ⟨c, hc⟩ : ∃ s, B.at_ (B.cuts rs) k = s := ⟨_, rfl⟩
      obtain ⟨c0, hc0⟩ : ∃ s, B.at_ (B.cuts rs) 0 = s := ⟨_, rfl⟩
      have hcz : c.size ≤ 300 := by rw [← hc]; exact B.cuts_size _ (B.at_mem (by rw [B.cuts_length]; exact hkr))
      rw [hs] at hce C1
      rw [hc] at hst hk1 hk0 C1 hws hbs
      rw [hc0] at hk0 hws
      have hcm : c.size ≤ maxLen := by unfold maxLen; omega
      have HST := Lib.hid hst
      have HBS := Lib.hid hbs
      clear hs hc hc0 hst hbs ho
      go_wp2_with (first | (go_at_call 16; (with_reducible refine (C1.out _).mono ?_); rintro e w' ⟨rfl, rfl⟩))
      generalize wr.setCell ⟨g, k, none⟩ (.string c) = w2 at *
      have hm0 : 0 < m := by omega
      have hm0' : (0 : Int) < m := by omega
      clear hce hfr hb
      cases hwk : B.wellTo rs k with
      | false =>
        rw [hwk] at hws
        go_quiet ((go_at_call 12; exact quiet_mine (refright_any _ _ hcm)))
        rename_i nq
        go_wp2
        go_roundw
        case rel => exact ⟨k + 1, by omega, by go_num, val_bool (by rw [hws.out]; rfl), ownsRow_drewN HST.out nq, below_drewN HBS.out nq⟩
        case measure => simp [RowKit.intOf]; omega
      | true =>
        rw [hwk] at hws
        cases hr : B.right c with
        | false =>
          have hok : B.okrow c0 c = false := by unfold B.okrow; rw [hr]; rfl
          have HOK := Lib.hid hok
          clear hok
          go_quiet ((go_at_call 12; exact quiet_mine (refright_any _ _ hcm)))
          rename_i nq
          go_wp2
          go_roundw
          case rel => exact ⟨k + 1, by omega, by go_num, val_bool (by rw [hws.out]; rw [HOK.out]; rfl), ownsRow_drewN HST.out nq, below_drewN HBS.out nq⟩
          case measure => simp [RowKit.intOf]; omega
        | true =>
          by_cases he : c.size = c0.size
          · have HOK := Lib.hid (show B.okrow c0 c = true by unfold B.okrow; rw [hr]; simp [he])
            have hq : ((c.size : Int) == c0.size) = true := by rw [beq_iff_eq]; omega
            clear he
            go_quiet ((go_at_call 12; exact quiet_mine (refright_any _ _ hcm)))
            rename_i nq
            go_wp2
            go_roundw
            case rel => exact ⟨k + 1, by omega, by go_num, val_bool (by rw [hws.out]; rw [HOK.out]; rfl), ownsRow_drewN HST.out nq, below_drewN HBS.out nq⟩
            case measure => simp [RowKit.intOf]; omega
          · have HOK := Lib.hid (show B.okrow c0 c = false by unfold B.okrow; rw [hr]; simp [he])
            have hq : ((c.size : Int) == c0.size) = false := by rw [beq_eq_false_iff_ne]; omega
            clear he
            go_quiet ((go_at_call 12; exact quiet_mine (refright_any _ _ hcm)))
            rename_i nq
            go_wp2
            go_roundw
            case rel => exact ⟨k + 1, by omega, by go_num, val_bool (by rw [hws.out]; rw [HOK.out]; rfl), ownsRow_drewN HST.out nq, below_drewN HBS.out nq⟩
            case measure => simp [RowKit.intOf]; omega
    · have hkm : k = m := by omega
      have hwell : B.wellTo rs k = B.alike cs := by rw [hkm, ← HRL.out, B.wellTo_full, HRS.out, hcs]
      have hmix : B.mix rs k = cs := by rw [hkm, ← HRL.out, B.mix_full, HRS.out, hcs]
      have hcl : cs.length = m := by rw [← hcs, B.cuts_length, ← HRS.out, HRL.out]
      have hcz : ∀ s ∈ cs, s.size ≤ 300 := by rw [← hcs]; exact B.cuts_size
      rw [hmix] at ho
      have hRow : RowS wr g cs := fun i hi => by
        rw [ho.cellAt i (by omega), List.getElem?_map]
        unfold B.at_
        rw [List.getD_eq_getElem?_getD, List.getElem?_eq_getElem hi]; rfl
      have hgr : g < wr.heap.size := (ho.lt g rfl).2
      have hmcg : m ≤ cg := own_cap ho
      rw [ha] at hwell
      rw [hwell]
      have hG := Lib.hid hb
      clear hkm hmix ho hb hwell
      have hcz' : ∀ s ∈ cs, s.size ≤ maxLen := fun s hs => by have := hcz s hs; unfold maxLen; omega
      have hcm : cs.length ≤ maxLen := by unfold maxLen; omega
      have hc0 : (B.at_ cs 0).size ≤ 4000 := by have := hcz _ (B.at_mem (B.alike_pos ha)); omega
      have C17 := and_yes g cg cs wr hcm hcz' hRow ha (by omega) hgr
      have C18 := fun (w' : World) (h : RowS w' g cs) => refand_any g cg cs w' hcm hc0 h ha
      have C19 := fun (w' : World) (h1 : RowS w' g cs) (h2 : g < w'.heap.size) => join_any g cg cs w' h1 h2 (by omega) hcz (by omega)
      rw [hcl] at C17 C18 C19
      obtain ⟨J, hJ⟩ : ∃ J : ByteArray, ⟨(Lib.join (cs.map (·.data.toList)) []).toArray⟩ = J := ⟨_, rfl⟩
      rw [hJ] at C19 hs
      have C16 := fun w => short_any J w
      rw [hs] at C16
      obtain ⟨X, hX⟩ : ∃ X : ByteArray, ⟨(B.andL cs).toArray⟩ = X := ⟨_, rfl⟩
      rw [hX] at C17 C18
      have C18 := Lib.hid C18
      clear hX
      have C17 := Lib.hid C17
      have C19 := Lib.hid C19
      have C16 := Lib.hid C16
      have hsz : s.size ≤ 300 := by rw [← hs]; have : (cutS J 300).size = min 300 J.size := cutS_size J 300; omega
      have hsm : s.size ≤ maxLen := by unfold maxLen; omega
      have hB : Below wr.heap.size wr wr := Below.refl _ _
      obtain ⟨bA, off, rfl, hbA, hRI⟩ := HINI.out.2 hm10
      have HZL := Lib.hid HINI.out.1
      have CF := fun (w' : World) (h1 : RowI w' bA off zs) (h2 : bA < w'.heap.size) => flip_any s bA off c1 zs w' hr (by rw [HZL.out]; unfold maxLen; omega) h1 h2
      rw [flipEnd_no hp] at CF
      rw [show zs.length = m1 from HZL.out] at CF
      have CF := Lib.hid CF
      have HRI : Hid (∀ w' : World, Below wr.heap.size wr w' → RowI w' bA off zs ∧ bA < w'.heap.size) := Lib.hid (fun w' hb => by
        have hb0 : bA < wr.heap.size := by have := hG.out.size; omega
        refine ⟨fun i hi => ?_, Nat.lt_of_lt_of_le hb0 hb.size⟩
        rw [hb.cell (p := ⟨bA, off + i, none⟩) hb0, hG.out.cell (p := ⟨bA, off + i, none⟩) (by show bA < _; rw [HB.out]; exact hbA)]
        exact hRI i hi)
      clear hRI
      obtain ⟨rr, hrr⟩ : ∃ rr, rr = B.runsOf s.data.toList := ⟨_, rfl⟩
      have CR := fun (w' : World) => runs_yes s w' hr
      have CRR := fun (w' : World) => refruns_any s w' (by omega)
      rw [← hrr] at CR CRR
      have hn2 : rr.length ≤ 4000 := by rw [hrr]; have := B.runs_le s.data.toList; rw [B.size_len] at this; omega
      obtain ⟨n2, hn2'⟩ : ∃ n2, n2 = rr.length := ⟨_, rfl⟩
      rw [← hn2'] at hn2
      have HN2 := Lib.hid hn2'
      have CR := Lib.hid CR
      have CRR := Lib.hid CRR
      clear hrr hn2'
      have HROW := Lib.hid hRow
      clear hRow hcz' hcm hs hJ hcz hcl hcs ha
      go_wp2_with (first | (go_at_call 17; (with_reducible refine C17.out.mono ?_); rintro e w2 ⟨rfl, hb2⟩; replace hB := hB.trans (hb2.mono hB.size)) | (go_at_call 18; (with_reducible refine (C18.out _ (HROW.out.below hB hgr)).mono ?_); rintro e w2 ⟨rfl, rfl⟩) | (go_at_call 19; (with_reducible refine (C19.out _ (HROW.out.below hB hgr) (Nat.lt_of_lt_of_le hgr hB.size)).mono ?_); rintro e w2 ⟨rfl, hb2⟩; replace hB := hB.trans (hb2.mono hB.size)) | (go_at_call 16; (with_reducible refine (C16.out _).mono ?_); rintro e w2 ⟨rfl, rfl⟩) | (go_at_call 20; (with_reducible refine (CF.out _ (HRI.out _ hB).1 (HRI.out _ hB).2).mono ?_); rintro e w2 ⟨rfl, hb2⟩; replace hB := hB.trans (hb2.mono hB.size)))
      refine (CR.out _).mono ?_
      rintro e wa ⟨v, rfl, ho, hb2⟩
      obtain ⟨A2, c2, rfl, hS2⟩ := own_runs ho
      rw [← show n2 = _ from HN2.out]
      have HS2 := Lib.hid hS2
      replace hB := hB.trans (hb2.mono hB.size)
      have HRI2 := Lib.hid (fun (w' : World) (h : Below wa.heap.size wa w') => HRI.out w' (hB.trans (h.mono hB.size)))
      replace hG := Lib.hid (hG.out.trans (hB.mono (by have := hG.out.size; have := HB.out; omega)))
      clear ho hS2 hB hb2
      have hB : Below wa.heap.size wa wa := Below.refl _ _
      go_wp2_with (first | (go_at_call 12; (with_reducible refine (refright_any _ _ hsm).mono ?_); rintro e w2 ⟨rfl, rfl⟩) | (go_at_call 13; (with_reducible refine (alive_any _).mono ?_); rintro e w2 ⟨rfl, hb2⟩; replace hB := hB.trans (hb2.mono hB.size)) | (go_at_call 24; (with_reducible refine (CRR.out _).mono ?_); rintro e w2 ⟨v, rfl, ho, hb2⟩; replace hB := hB.trans (hb2.mono hB.size); obtain ⟨A3, c3, rfl, hS3⟩ := own_runs ho; rw [← show n2 = _ from HN2.out]; clear ho; have HS3 := Lib.hid hS3; clear hS3) | (go_at_call 23; (with_reducible refine (same_any _ _ _ _ n2 rr _ HN2.out hn2 (HS2.out.below hB) HS3.out).mono ?_); rintro e w2 ⟨rfl, hb2⟩; replace hB := hB.trans (hb2.mono hB.size)))
      go_loopw [15, 16, 109] (fun wn bd i wr2 => ∃ k2 : Nat, k2 ≤ m1 ∧ i = .int .i64 k2 ∧ wn = .string (turned s zs k2) ∧ bd = .bool false ∧ B.preP s.size zs k2 ∧ Below wa.heap.size wa wr2) (fun _ _ i _ => m1 - (RowKit.intOf i).toNat)
      case atStart => exact ⟨0, Nat.zero_le _, rfl, by rw [turned_zero], rfl, B.preP_zero _ _, hB⟩
      case round =>
        obtain ⟨k2, hk2, rfl, htu, rfl, hpp, hB⟩ := hrel
        subst htu
        by_cases hl2 : k2 < m1
        · have hkz : k2 < zs.length := by rw [HZL.out]; exact hl2
          have hx := (HRI2.out _ hB).1 k2 hkz
          obtain ⟨z, hz⟩ : ∃ z, zs.getD k2 0 = z := ⟨_, rfl⟩
          rw [hz] at hx
          by_cases hin : 0 ≤ z ∧ z < s.size
          · obtain ⟨h0, h1⟩ := hin
            obtain ⟨j, rfl⟩ := Int.eq_ofNat_of_zero_le h0
            have hjs : j < s.size := by omega
            have hpp' := Lib.hid (B.preP_succ hkz hpp (by rw [hz]; exact h0) (by rw [hz]; exact h1))
            have CT := fun (w' : World) => refturn_any (turned s zs k2) j w' (by rw [turned_size]; exact hjs) (by rw [turned_size]; omega) (turned_right zs k2 hr)
            rw [turned_succ hkz hz] at CT
            have CT := Lib.hid CT
            clear hpp hz
            go_wp2_with (go_at_call 22; (with_reducible refine (CT.out _).mono ?_); rintro e w2 ⟨rfl, hb2⟩; replace hB := hB.trans (hb2.mono hB.size))
            go_roundw
            case rel => exact ⟨k2 + 1, by omega, by go_num, rfl, rfl, hpp'.out, hB⟩
            case measure => simp [RowKit.intOf]; omega
          · clear hpp hz
            by_cases h0 : z < 0
            · clear hin
              go_wp2_with (first | (go_at_call 12; (with_reducible refine (refright_any _ _ hsm).mono ?_); rintro e w2 ⟨rfl, rfl⟩) | (go_at_call 13; (with_reducible refine (alive_any _).mono ?_); rintro e w2 ⟨rfl, hb2⟩; replace hB := hB.trans (hb2.mono hB.size)) | (go_at_call 24; (with_reducible refine (CRR.out _).mono ?_); rintro e w2 ⟨v, rfl, ho, hb2⟩; replace hB := hB.trans (hb2.mono hB.size); obtain ⟨A3, c3, rfl, hS3⟩ := own_runs ho; rw [← show n2 = _ from HN2.out]; clear ho; have HS3 := Lib.hid hS3; clear hS3) | (go_at_call 23; (with_reducible refine (same_any _ _ _ _ n2 rr _ HN2.out hn2 (HS2.out.below hB) HS3.out).mono ?_); rintro e w2 ⟨rfl, hb2⟩; replace hB := hB.trans (hb2.mono hB.size)))
              go_ret
              exact ⟨rfl, hG.out.trans (hB.mono (by have := hG.out.size; have := HB.out; omega))⟩
            · have h1 : (s.size : Int) ≤ z := by omega
              clear hin
              go_wp2_with (first | (go_at_call 12; (with_reducible refine (refright_any _ _ hsm).mono ?_); rintro e w2 ⟨rfl, rfl⟩) | (go_at_call 13; (with_reducible refine (alive_any _).mono ?_); rintro e w2 ⟨rfl, hb2⟩; replace hB := hB.trans (hb2.mono hB.size)) | (go_at_call 24; (with_reducible refine (CRR.out _).mono ?_); rintro e w2 ⟨v, rfl, ho, hb2⟩; replace hB := hB.trans (hb2.mono hB.size); obtain ⟨A3, c3, rfl, hS3⟩ := own_runs ho; rw [← show n2 = _ from HN2.out]; clear ho; have HS3 := Lib.hid hS3; clear hS3) | (go_at_call 23; (with_reducible refine (same_any _ _ _ _ n2 rr _ HN2.out hn2 (HS2.out.below hB) HS3.out).mono ?_); rintro e w2 ⟨rfl, hb2⟩; replace hB := hB.trans (hb2.mono hB.size)))
              go_ret
              exact ⟨rfl, hG.out.trans (hB.mono (by have := hG.out.size; have := HB.out; omega))⟩
        · exfalso
          have := B.preP_full (n := s.size) (zs := zs) (by rw [HZL.out, show m1 = k2 from by omega]; exact hpp)
          rw [hp] at this
          cases this

end Go.Proofs.Ytfnofajglbjgjaa
