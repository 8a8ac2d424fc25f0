/- The law PrioLeft. -/
import Derived.Test.YtkkibcjndgfmfaaPLeft
import Derived.Deep.RegionHeld3
namespace Go.Proofs.Ytkkibcjndgfmfaa
open Go.RowKit Go.Lib Go.Maps
attribute [local go_sem ↓] Go.wp_at_zero Go.wp_at_succ

set_option maxRecDepth 100000 in
set_option maxHeartbeats 4000000 in
theorem prioleft_no (A : Option Addr) (n cap : Nat) (gs : List FX) (w : World) (h : InF w A n cap gs) (hno : (gs.map FX.cut).all FX.may = false ∨ (gs.map FX.cut).length = 0) :
    Calls Try.prog 4 #[.slice A n cap] w fun e w' => e = .returned (.bool true) ∧ Below w.heap.size w w' := by
  have hsh := h.short
  have CF := Lib.hid (few_all h)
  obtain ⟨hs, hhs⟩ : ∃ hs, hs = gs.map FX.cut := ⟨_, rfl⟩
  rw [← hhs] at CF hno
  have hl : hs.length ≤ 10 := by rw [hhs, List.length_map]; exact hsh
  have CA := Lib.hid (fun w => alive5_any w)
  clear h hhs hsh
  obtain ⟨m, hm⟩ : ∃ m, m = hs.length := ⟨_, rfl⟩
  have CC := Lib.hid (fun g1 cap1 (w1 : World) (ho : w1.ownsRow w.heap.size 25 5 (.slice (some ⟨g1, 0, none⟩) hs.length cap1) hs.length (cellsF hs)) => contest_no g1 0 cap1 hs w1 (by omega) (own_row ho) (ho.lt _ rfl).2 hno)
  have CW0 := fun g1 cap1 (w1 : World) (h1 : RowF w1 g1 0 hs) (h2 : g1 < w1.heap.size) => refwell_any g1 0 cap1 hs w1 (by omega) h1 h2
  rw [← hm] at CF CC CW0 hl hno
  rcases Nat.eq_zero_or_pos m with h0 | h0
  · rw [h0] at CF CC
    clear CW0 hno hm hl h0
    go_enter Try.func4, Try.ntmps4
    go_wp2_with (first
      | (go_at_call 7; (with_reducible refine CF.out.mono ?_); rintro e w1 ⟨g1, cap1, rfl, ho, hb1⟩)
      | (go_at_call 14; (with_reducible refine (CC.out _ _ _ ho).mono ?_); rintro e w2 ⟨rfl, hb2⟩; replace hb2 := hb1.trans (hb2.mono hb1.size))
      | (go_at_call 13; (with_reducible refine (CA.out _).mono ?_); rintro e w3 ⟨rfl, hb3⟩; replace hb3 := hb2.trans (hb3.mono hb2.size)))
    go_ret
    exact ⟨rfl, hb3⟩
  · have ha : hs.all FX.may = false := by rcases hno with h | h; exact h; omega
    rw [ha] at CW0
    have CW := Lib.hid CW0
    have hm0 : ¬ m = 0 := by omega
    clear CW0 hno hm ha
    go_enter Try.func4, Try.ntmps4
    go_wp2_with (first
      | (go_at_call 7; (with_reducible refine CF.out.mono ?_); rintro e w1 ⟨g1, cap1, rfl, ho, hb1⟩; (have hr1 := own_row ho); (have hg1 := (ho.lt _ rfl).2))
      | (go_at_call 14; (with_reducible refine (CC.out _ _ _ ho).mono ?_); rintro e w2 ⟨rfl, hb2⟩; (replace hr1 := hr1.below hb2 hg1); (replace hg1 := Nat.lt_of_lt_of_le hg1 hb2.size); replace hb2 := hb1.trans (hb2.mono hb1.size))
      | (go_at_call 13; (with_reducible refine (CA.out _).mono ?_); rintro e w3 ⟨rfl, hb3⟩; (replace hr1 := hr1.below hb3 hg1); (replace hg1 := Nat.lt_of_lt_of_le hg1 hb3.size); replace hb3 := hb2.trans (hb3.mono hb2.size))
      | (go_at_call 16; (with_reducible refine (CW.out _ _ _ hr1 hg1).mono ?_); rintro e w4 ⟨rfl, hb4⟩; replace hb4 := hb3.trans (hb4.mono hb3.size)))
    go_ret
    exact ⟨rfl, hb4⟩

set_option maxRecDepth 100000 in
set_option maxHeartbeats 8000000 in
theorem prioleft_yes (A : Option Addr) (n cap : Nat) (gs : List FX) (w : World) (h : InF w A n cap gs) (ha : (gs.map FX.cut).all FX.may = true) (h0 : 0 < (gs.map FX.cut).length) :
    Calls Try.prog 4 #[.slice A n cap] w fun e w' => e = .returned (.bool true) ∧ Below w.heap.size w w' := by
  have hsh := h.short
  have CF := Lib.hid (few_all h)
  obtain ⟨hs, hhs⟩ : ∃ hs, hs = gs.map FX.cut := ⟨_, rfl⟩
  simp only [← hhs] at CF ha h0
  have hl : hs.length ≤ 10 := by rw [hhs, List.length_map]; exact hsh
  have CA := Lib.hid (fun w => alive5_any w)
  clear h hhs hsh
  have CC := Lib.hid (fun g1 cap1 (w1 : World) (ho : w1.ownsRow w.heap.size 25 5 (.slice (some ⟨g1, 0, none⟩) hs.length cap1) hs.length (cellsF hs)) => contest_yes g1 0 cap1 hs w1 (by omega) (own_row ho) (ho.lt _ rfl).2 ha h0)
  obtain ⟨ls, hls⟩ : ∃ ls, ls = leftF hs h0 := ⟨_, rfl⟩
  obtain ⟨os, hos⟩ : ∃ os, os = lostF hs h0 := ⟨_, rfl⟩
  have hlp : 0 < ls.length := by rw [hls]; exact leftF_pos
  have HLT := Lib.hid (show ∀ i ∈ ls, i < hs.length from fun i hi => by rw [hls] at hi; exact (mem_leftF.1 hi).1)
  have HOL := Lib.hid (show os.length = hs.length by rw [hos]; exact lostF_len)
  have HIN := Lib.hid (show ∀ i (h : i < os.length), i ∈ ls → os[i] = -1 from fun i h hi => by
    subst hos; subst hls
    exact lostF_in (by rw [lostF_len] at h; exact h) hi)
  have HOUT := Lib.hid (show ∀ i (h : i < os.length), ¬ i ∈ ls → 0 ≤ os[i] from fun i h hi => by
    subst hos; subst hls
    exact lostF_out (by rw [lostF_len] at h; exact h) hi)
  obtain ⟨z, hz⟩ : ∃ z, z = ls[0] := ⟨_, rfl⟩
  have hzl : z ∈ leftF hs h0 := by rw [hz, ← hls]; exact List.getElem_mem hlp
  have hzm : z < hs.length := (mem_leftF.1 hzl).1
  obtain ⟨zf, hzf⟩ : ∃ zf, zf = hs[z]'hzm := ⟨_, rfl⟩
  have HZL := Lib.hid (show ∀ i (h : i < hs.length), zf.less hs[i] = !decide (i ∈ ls) from fun i h => by rw [hzf, hls]; exact left_less h hzl)
  have HLZ := Lib.hid (show ∀ i (h : i < hs.length), hs[i].less zf = false from fun i h => by rw [hzf]; exact less_left h hzl)
  have HFD := Lib.hid (show ∀ i (h : i < hs.length), hs[i].field = zf.field ↔ i ∈ ls from fun i h => by rw [hzf, hls]; exact left_field h hzl)
  rw [← hls, ← hos] at CC
  have hzmay : zf.may = true := by rw [hzf]; exact (List.all_eq_true.1 ha) _ (List.getElem_mem hzm)
  have HMAY := Lib.hid (show ∀ i (h : i < hs.length), hs[i].may = true from fun i h => (List.all_eq_true.1 ha) _ (List.getElem_mem h))
  have CZ := Lib.hid (fun w => field_yes zf w hzmay)
  have HZ := Lib.hid hz
  have HZF := Lib.hid hzf
  obtain ⟨m, hm⟩ : ∃ m, m = hs.length := ⟨_, rfl⟩
  rw [← hm] at CF CC hl h0 hzm HOL
  have HM := Lib.hid hm
  obtain ⟨p, hp⟩ : ∃ p, p = ls.length := ⟨_, rfl⟩
  rw [← hp] at CC hlp
  have HP := Lib.hid hp
  have hp10 : p ≤ 1000000 := by
    have : ls.length ≤ (List.range hs.length).length := by rw [hls]; exact List.length_filter_le _ _
    rw [List.length_range] at this
    omega
  have hmm := @run_makeMap Try.prog
  clear ha hls hos hz hzl hzf hm hp
  have hm0 : ¬ m = 0 := by omega
  have hp0 : ¬ p = 0 := by omega
  have hp0' : ((p : Int) == 0) = false := beq_eq_false_iff_ne.2 (by omega)
  go_enter Try.func4, Try.ntmps4
  go_wp2_with (first
    | (go_at_call 7; (with_reducible refine CF.out.mono ?_); rintro e w1 ⟨g1, cap1, rfl, ho, hb1⟩; (have hr1 := own_row ho); (have hg1 := (ho.lt _ rfl).2))
    | (go_at_call 14; (with_reducible refine (CC.out _ _ _ ho).mono ?_); rintro e w2 ⟨vl, vo, rfl, hol, hoo, hb2⟩; (obtain ⟨gl, capl, rfl, _, hgl⟩ := own_form hol (own_not_nil hol hlp)); (obtain ⟨go, capo, rfl, _, hgo⟩ := own_form hoo (own_not_nil hoo h0)); (replace hr1 := hr1.below hb2 hg1); (replace hg1 := Nat.lt_of_lt_of_le hg1 hb2.size); (replace hb2 := hb1.trans (hb2.mono hb1.size)))
    | (go_at_call 13; (with_reducible refine (CA.out _).mono ?_); rintro e w3 ⟨rfl, hb3⟩; (replace hr1 := hr1.below hb3 hg1); (replace hol := own_keep5 hol hb3); (replace hoo := own_keep5 hoo hb3); (replace hg1 := Nat.lt_of_lt_of_le hg1 hb3.size); (replace hgl := Nat.lt_of_lt_of_le hgl hb3.size); (replace hgo := Nat.lt_of_lt_of_le hgo hb3.size); (replace hb3 := hb2.trans (hb3.mono hb2.size))))
  have hA := (Below.refl w3.heap.size w3).alloc (Nat.le_refl _) (.map #[] 0)
  have hLS : LS w hs ls os g1 gl go w3.heap.size (ls.take 0) (w3.alloc (.map #[] 0)) := by
    refine ⟨hr1.below hA hg1, fun j hj => ?_, fun j hj => ?_, setM_made w3, ⟨hg1, hgl, hgo, hb3.size⟩, hb3.trans (hA.mono hb3.size)⟩
    · rw [hA.cell (p := ⟨gl, j, none⟩) hgl, hol.cellAt j (by rw [HP.out]; omega)]; unfold natV; simp [hj]
    · rw [hA.cell (p := ⟨go, j, none⟩) hgo, hoo.cellAt j (by rw [← HOL.out]; omega)]; unfold intV; simp [hj]
  generalize w3.alloc (.map #[] 0) = w4 at *
  generalize w3.heap.size = bm at *
  clear hA hr1 hg1 hol hgl hoo hgo hb1 hb2 hb3 ho CF CC
  go_loopw [54] (fun i wr => ∃ k : Nat, k ≤ p ∧ i = .int .i64 k ∧ LS w hs ls os g1 gl go bm (ls.take k) wr) (fun i _ => p - (intOf i).toNat)
  case atStart => exact ⟨0, Nat.zero_le _, rfl, hLS⟩
  case round =>
    clear hLS
    obtain ⟨k, hk, rfl, hS⟩ := hrel
    by_cases hlt : k < p
    · have hkl : k < ls.length := by rw [← HP.out]; exact hlt
      have c1 := hS.left k hkl
      have him : ls[k] < hs.length := HLT.out _ (List.getElem_mem hkl)
      have hio : ls[k] < os.length := by rw [HOL.out, HM.out]; exact him
      have c2 := hS.lost ls[k] hio
      rw [HIN.out _ hio (List.getElem_mem hkl)] at c2
      have hT : ls.take (k + 1) = ls.take k ++ [ls[k]] := by simp
      have hset : SetM wr bm (ls.take k) := hS.set
      obtain ⟨i, hi⟩ : ∃ i, i = ls[k] := ⟨_, rfl⟩
      rw [← hi] at c1 c2 him hT
      rw [← HM.out] at him
      have HT := Lib.hid hT
      have hi1 : (i : Int) < m := by omega
      have hi2 : (0 : Int) ≤ i := by omega
      have hi3 : ¬ (m : Int) ≤ i := by omega
      have HS := Lib.hid hS
      clear hi hT hS hio
      go_wp2_with (at_mapUpdate; refine wpList_mapUpdate_own _ rfl _ _ _ 43 rfl 3 4 lawInt Try.underlying43 _ bm (ls.take k).length _ rfl hset (by rw [List.length_take]; unfold maxLen; omega) _ _ _ rfl rfl (keyOf_int_mk Try.underlying3 (wf_nat (by omega))) _ [] (plainElem_bool Try.underlying4 true) ?_; intro w5 hown5 hgr5)
      have HS5 := Lib.hid (HS.out.put hgr5 hown5)
      clear hown5 hgr5 hset
      rw [← HT.out] at HS5
      go_wp2
      go_roundw
      case rel => exact ⟨k + 1, hlt, by go_num, HS5.out⟩
      case measure => simp [intOf]; omega
    · obtain rfl : k = p := by omega
      rw [show ls.take k = ls from by rw [HP.out, List.take_length]] at hS
      have c1 := hS.left 0 (by rw [← HP.out]; exact hlp)
      rw [← HZ.out] at c1
      obtain ⟨e0, e1, e2, e3, e4⟩ := hS.row.at0 z (by rw [← HM.out]; exact hzm)
      rw [← HZF.out] at e0 e1 e2 e3 e4
      have HS := Lib.hid hS
      have hz1 : (z : Int) < m := by omega
      clear hS
      go_wp2_with (go_at_call 8; (with_reducible refine (CZ.out _).mono ?_); rintro e w5 ⟨rfl, hb5⟩; (replace HS := Lib.hid (HS.out.keep hb5)))
      clear c1 e0 e1 e2 e3 e4 hb5
      go_loopw [88] (fun i wr => ∃ j : Nat, j ≤ m ∧ i = .int .i64 j ∧ LS w hs ls os g1 gl go bm ls wr) (fun i _ => m - (intOf i).toNat)
      case atStart => exact ⟨0, Nat.zero_le _, rfl, HS.out⟩
      case round =>
        clear HS
        obtain ⟨j, hj, rfl, hS⟩ := hrel
        by_cases hjm : j < m
        · have hjh : j < hs.length := by rw [← HM.out]; exact hjm
          obtain ⟨e0, e1, e2, e3, e4⟩ := hS.row.at0 j hjh
          have hjo : j < os.length := by rw [HOL.out]; exact hjm
          have hmay := HMAY.out j hjh
          have hzl := HZL.out j hjh
          have hlz := HLZ.out j hjh
          have hfd := HFD.out j hjh
          obtain ⟨f, hf⟩ : ∃ f, f = hs[j] := ⟨_, rfl⟩
          rw [← hf] at e0 e1 e2 e3 e4 hmay hzl hlz hfd
          have CZJ0 := fun w => less_yes zf f w hzmay hmay
          rw [hzl] at CZJ0
          have CJZ0 := fun w => less_yes f zf w hmay hzmay
          rw [hlz] at CJZ0
          have CJZ := Lib.hid CJZ0
          have CF0 := fun w => field_yes f w hmay
          obtain ⟨o, ho⟩ : ∃ o, o = os[j] := ⟨_, rfl⟩
          have HO := Lib.hid ho
          have hjz : (0 : Int) ≤ j := by omega
          have hjm' : (j : Int) < m := by omega
          have hzm' : (z : Int) < m := by omega
          have hzz : (0 : Int) ≤ z := by omega
          have HS := Lib.hid hS
          have hbl : Below wr.heap.size wr (wr.alloc (.cells f.v 25)) := (Below.refl _ _).alloc (Nat.le_refl _) _
          have hKn : Blk (wr.alloc (.cells f.v 25)) wr.heap.size f.v 25 := blk_new _ _ _ _ rfl
          have HSn := Lib.hid (hS.keep hbl)
          clear hS hbl HS hzl hlz CJZ0 hmay hf
          by_cases hin : j ∈ ls
          · have hoz : o = -1 := by rw [ho]; exact HIN.out j hjo hin
            have hos : ¬ 0 ≤ o := by omega
            have HDI := Lib.hid (decide_eq_true hin)
            rw [decide_eq_true hin] at CZJ0
            rw [hfd.2 hin] at CF0
            have CZJ := Lib.hid CZJ0
            have CFJ := Lib.hid CF0
            clear CZJ0 CF0 hin hfd hoz ho
            go_wp2_with (go_at_call 8; (with_reducible refine (CFJ.out _).mono ?_); rintro e w6 ⟨rfl, hb6⟩; (have HS6 := HSn.out.keep hb6); (have hK := hKn.keep hb6))
            clear HSn hKn hb6 e0 e1 e2 e3 e4
            generalize wr.heap.size = b4 at *
            have KA := Lib.hid (show ∀ wa, LS w hs ls os g1 gl go bm ls wa → Blk wa b4 f.v 25 → (LS w hs ls os g1 gl go bm ls wa ∧ Blk wa b4 f.v 25 ∧ wa.cell? ⟨gl, 0, none⟩ = some (.int .i64 z) ∧ wa.cell? ⟨g1, z * 5, none⟩ = some (.int .u32 zf.id) ∧ wa.cell? ⟨g1, z * 5 + 1, none⟩ = some (.bool zf.ext) ∧ wa.cell? ⟨g1, z * 5 + 2, none⟩ = some (.bool zf.rem) ∧ wa.cell? ⟨g1, z * 5 + 3, none⟩ = some (.int .i64 zf.dlc) ∧ wa.cell? ⟨g1, z * 5 + 4, none⟩ = some (.string zf.data) ∧ wa.cell? ⟨b4, 0, none⟩ = some (.int .u32 f.id) ∧ wa.cell? ⟨b4, 1, none⟩ = some (.bool f.ext) ∧ wa.cell? ⟨b4, 2, none⟩ = some (.bool f.rem) ∧ wa.cell? ⟨b4, 3, none⟩ = some (.int .i64 f.dlc) ∧ wa.cell? ⟨b4, 4, none⟩ = some (.string f.data) ∧ wa.cell? ⟨go, j, none⟩ = some (.int .i64 o) ∧ (Instr.lookup 43 (.map (some bm)) (.int .i64 j) false).run Try.prog wa = .ok (.bool true) wa) from fun wa h1 h2 => by
              obtain ⟨x0, x1, x2, x3, x4⟩ := h1.row.at0 z (by rw [← HM.out]; exact hzm)
              rw [← HZF.out] at x0 x1 x2 x3 x4
              have y := h1.left 0 (by rw [← HP.out]; exact hlp)
              rw [← HZ.out] at y
              have u := h1.lost j hjo
              have v := h1.set.look j (by omega)
              rw [HDI.out] at v
              rw [← HO.out] at u
              exact ⟨h1, h2, y, x0, x1, x2, x3, x4, h2.cell 0 _ rfl, h2.cell 1 _ rfl, h2.cell 2 _ rfl, h2.cell 3 _ rfl, h2.cell 4 _ rfl, u, v⟩)
            have KS := Lib.hid (show ∀ wa wb, Below wa.heap.size wa wb → (LS w hs ls os g1 gl go bm ls wa ∧ Blk wa b4 f.v 25 ∧ wa.cell? ⟨gl, 0, none⟩ = some (.int .i64 z) ∧ wa.cell? ⟨g1, z * 5, none⟩ = some (.int .u32 zf.id) ∧ wa.cell? ⟨g1, z * 5 + 1, none⟩ = some (.bool zf.ext) ∧ wa.cell? ⟨g1, z * 5 + 2, none⟩ = some (.bool zf.rem) ∧ wa.cell? ⟨g1, z * 5 + 3, none⟩ = some (.int .i64 zf.dlc) ∧ wa.cell? ⟨g1, z * 5 + 4, none⟩ = some (.string zf.data) ∧ wa.cell? ⟨b4, 0, none⟩ = some (.int .u32 f.id) ∧ wa.cell? ⟨b4, 1, none⟩ = some (.bool f.ext) ∧ wa.cell? ⟨b4, 2, none⟩ = some (.bool f.rem) ∧ wa.cell? ⟨b4, 3, none⟩ = some (.int .i64 f.dlc) ∧ wa.cell? ⟨b4, 4, none⟩ = some (.string f.data) ∧ wa.cell? ⟨go, j, none⟩ = some (.int .i64 o) ∧ (Instr.lookup 43 (.map (some bm)) (.int .i64 j) false).run Try.prog wa = .ok (.bool true) wa) → (LS w hs ls os g1 gl go bm ls wb ∧ Blk wb b4 f.v 25 ∧ wb.cell? ⟨gl, 0, none⟩ = some (.int .i64 z) ∧ wb.cell? ⟨g1, z * 5, none⟩ = some (.int .u32 zf.id) ∧ wb.cell? ⟨g1, z * 5 + 1, none⟩ = some (.bool zf.ext) ∧ wb.cell? ⟨g1, z * 5 + 2, none⟩ = some (.bool zf.rem) ∧ wb.cell? ⟨g1, z * 5 + 3, none⟩ = some (.int .i64 zf.dlc) ∧ wb.cell? ⟨g1, z * 5 + 4, none⟩ = some (.string zf.data) ∧ wb.cell? ⟨b4, 0, none⟩ = some (.int .u32 f.id) ∧ wb.cell? ⟨b4, 1, none⟩ = some (.bool f.ext) ∧ wb.cell? ⟨b4, 2, none⟩ = some (.bool f.rem) ∧ wb.cell? ⟨b4, 3, none⟩ = some (.int .i64 f.dlc) ∧ wb.cell? ⟨b4, 4, none⟩ = some (.string f.data) ∧ wb.cell? ⟨go, j, none⟩ = some (.int .i64 o) ∧ (Instr.lookup 43 (.map (some bm)) (.int .i64 j) false).run Try.prog wb = .ok (.bool true) wb) from fun wa wb hb h => KA.out wb (h.1.keep hb) (h.2.1.keep hb))
            have HI := Lib.hid (KA.out _ HS6 hK)
            clear hK HS6
            have hI := HI.out
            go_region_held3 (fun w' => LS w hs ls os g1 gl go bm ls w' ∧ Blk w' b4 f.v 25 ∧ w'.cell? ⟨gl, 0, none⟩ = some (.int .i64 z) ∧ w'.cell? ⟨g1, z * 5, none⟩ = some (.int .u32 zf.id) ∧ w'.cell? ⟨g1, z * 5 + 1, none⟩ = some (.bool zf.ext) ∧ w'.cell? ⟨g1, z * 5 + 2, none⟩ = some (.bool zf.rem) ∧ w'.cell? ⟨g1, z * 5 + 3, none⟩ = some (.int .i64 zf.dlc) ∧ w'.cell? ⟨g1, z * 5 + 4, none⟩ = some (.string zf.data) ∧ w'.cell? ⟨b4, 0, none⟩ = some (.int .u32 f.id) ∧ w'.cell? ⟨b4, 1, none⟩ = some (.bool f.ext) ∧ w'.cell? ⟨b4, 2, none⟩ = some (.bool f.rem) ∧ w'.cell? ⟨b4, 3, none⟩ = some (.int .i64 f.dlc) ∧ w'.cell? ⟨b4, 4, none⟩ = some (.string f.data) ∧ w'.cell? ⟨go, j, none⟩ = some (.int .i64 o) ∧ (Instr.lookup 43 (.map (some bm)) (.int .i64 j) false).run Try.prog w' = .ok (.bool true) w')
              (first | assumption | exact KS.out _ _ (Below.refl _ _).drew HI.out)
              ((go_at_call 11; (with_reducible refine (CZJ.out _).mono ?_); rintro e w7 ⟨rfl, hb7⟩; have hI7 := KS.out _ _ hb7 (by assumption)))
            go_wp2
            go_region_held3 (fun w' => LS w hs ls os g1 gl go bm ls w' ∧ Blk w' b4 f.v 25 ∧ w'.cell? ⟨gl, 0, none⟩ = some (.int .i64 z) ∧ w'.cell? ⟨g1, z * 5, none⟩ = some (.int .u32 zf.id) ∧ w'.cell? ⟨g1, z * 5 + 1, none⟩ = some (.bool zf.ext) ∧ w'.cell? ⟨g1, z * 5 + 2, none⟩ = some (.bool zf.rem) ∧ w'.cell? ⟨g1, z * 5 + 3, none⟩ = some (.int .i64 zf.dlc) ∧ w'.cell? ⟨g1, z * 5 + 4, none⟩ = some (.string zf.data) ∧ w'.cell? ⟨b4, 0, none⟩ = some (.int .u32 f.id) ∧ w'.cell? ⟨b4, 1, none⟩ = some (.bool f.ext) ∧ w'.cell? ⟨b4, 2, none⟩ = some (.bool f.rem) ∧ w'.cell? ⟨b4, 3, none⟩ = some (.int .i64 f.dlc) ∧ w'.cell? ⟨b4, 4, none⟩ = some (.string f.data) ∧ w'.cell? ⟨go, j, none⟩ = some (.int .i64 o) ∧ (Instr.lookup 43 (.map (some bm)) (.int .i64 j) false).run Try.prog w' = .ok (.bool true) w')
              (first | assumption | exact KS.out _ _ (Below.refl _ _).drew hI7)
              ((go_at_call 11; (with_reducible refine (CJZ.out _).mono ?_); rintro e w8 ⟨rfl, hb8⟩; have hI8 := KS.out _ _ hb8 (by assumption)))
            go_wp2
            go_roundw
            case rel => exact ⟨j + 1, hjm, by go_num, hI8.1⟩
            case measure => simp [intOf]; omega
          · have hoz : 0 ≤ o := by rw [ho]; exact HOUT.out j hjo hin
            have hne : (f.field.toList == zf.field.toList) = false := beq_eq_false_iff_ne.2 (fun e => hin (hfd.1 (bytes_same (by simpa [ByteArray.toList_eq] using e))))
            have HDI := Lib.hid (decide_eq_false hin)
            rw [decide_eq_false hin] at CZJ0
            have CZJ := Lib.hid CZJ0
            have CFJ := Lib.hid CF0
            clear CZJ0 CF0 hin hfd ho
            go_wp2_with (go_at_call 8; (with_reducible refine (CFJ.out _).mono ?_); rintro e w6 ⟨rfl, hb6⟩; (have HS6 := HSn.out.keep hb6); (have hK := hKn.keep hb6))
            clear HSn hKn hb6 e0 e1 e2 e3 e4
            generalize wr.heap.size = b4 at *
            have KA := Lib.hid (show ∀ wa, LS w hs ls os g1 gl go bm ls wa → Blk wa b4 f.v 25 → (LS w hs ls os g1 gl go bm ls wa ∧ Blk wa b4 f.v 25 ∧ wa.cell? ⟨gl, 0, none⟩ = some (.int .i64 z) ∧ wa.cell? ⟨g1, z * 5, none⟩ = some (.int .u32 zf.id) ∧ wa.cell? ⟨g1, z * 5 + 1, none⟩ = some (.bool zf.ext) ∧ wa.cell? ⟨g1, z * 5 + 2, none⟩ = some (.bool zf.rem) ∧ wa.cell? ⟨g1, z * 5 + 3, none⟩ = some (.int .i64 zf.dlc) ∧ wa.cell? ⟨g1, z * 5 + 4, none⟩ = some (.string zf.data) ∧ wa.cell? ⟨b4, 0, none⟩ = some (.int .u32 f.id) ∧ wa.cell? ⟨b4, 1, none⟩ = some (.bool f.ext) ∧ wa.cell? ⟨b4, 2, none⟩ = some (.bool f.rem) ∧ wa.cell? ⟨b4, 3, none⟩ = some (.int .i64 f.dlc) ∧ wa.cell? ⟨b4, 4, none⟩ = some (.string f.data) ∧ wa.cell? ⟨go, j, none⟩ = some (.int .i64 o) ∧ (Instr.lookup 43 (.map (some bm)) (.int .i64 j) false).run Try.prog wa = .ok (.bool false) wa) from fun wa h1 h2 => by
              obtain ⟨x0, x1, x2, x3, x4⟩ := h1.row.at0 z (by rw [← HM.out]; exact hzm)
              rw [← HZF.out] at x0 x1 x2 x3 x4
              have y := h1.left 0 (by rw [← HP.out]; exact hlp)
              rw [← HZ.out] at y
              have u := h1.lost j hjo
              have v := h1.set.look j (by omega)
              rw [HDI.out] at v
              rw [← HO.out] at u
              exact ⟨h1, h2, y, x0, x1, x2, x3, x4, h2.cell 0 _ rfl, h2.cell 1 _ rfl, h2.cell 2 _ rfl, h2.cell 3 _ rfl, h2.cell 4 _ rfl, u, v⟩)
            have KS := Lib.hid (show ∀ wa wb, Below wa.heap.size wa wb → (LS w hs ls os g1 gl go bm ls wa ∧ Blk wa b4 f.v 25 ∧ wa.cell? ⟨gl, 0, none⟩ = some (.int .i64 z) ∧ wa.cell? ⟨g1, z * 5, none⟩ = some (.int .u32 zf.id) ∧ wa.cell? ⟨g1, z * 5 + 1, none⟩ = some (.bool zf.ext) ∧ wa.cell? ⟨g1, z * 5 + 2, none⟩ = some (.bool zf.rem) ∧ wa.cell? ⟨g1, z * 5 + 3, none⟩ = some (.int .i64 zf.dlc) ∧ wa.cell? ⟨g1, z * 5 + 4, none⟩ = some (.string zf.data) ∧ wa.cell? ⟨b4, 0, none⟩ = some (.int .u32 f.id) ∧ wa.cell? ⟨b4, 1, none⟩ = some (.bool f.ext) ∧ wa.cell? ⟨b4, 2, none⟩ = some (.bool f.rem) ∧ wa.cell? ⟨b4, 3, none⟩ = some (.int .i64 f.dlc) ∧ wa.cell? ⟨b4, 4, none⟩ = some (.string f.data) ∧ wa.cell? ⟨go, j, none⟩ = some (.int .i64 o) ∧ (Instr.lookup 43 (.map (some bm)) (.int .i64 j) false).run Try.prog wa = .ok (.bool false) wa) → (LS w hs ls os g1 gl go bm ls wb ∧ Blk wb b4 f.v 25 ∧ wb.cell? ⟨gl, 0, none⟩ = some (.int .i64 z) ∧ wb.cell? ⟨g1, z * 5, none⟩ = some (.int .u32 zf.id) ∧ wb.cell? ⟨g1, z * 5 + 1, none⟩ = some (.bool zf.ext) ∧ wb.cell? ⟨g1, z * 5 + 2, none⟩ = some (.bool zf.rem) ∧ wb.cell? ⟨g1, z * 5 + 3, none⟩ = some (.int .i64 zf.dlc) ∧ wb.cell? ⟨g1, z * 5 + 4, none⟩ = some (.string zf.data) ∧ wb.cell? ⟨b4, 0, none⟩ = some (.int .u32 f.id) ∧ wb.cell? ⟨b4, 1, none⟩ = some (.bool f.ext) ∧ wb.cell? ⟨b4, 2, none⟩ = some (.bool f.rem) ∧ wb.cell? ⟨b4, 3, none⟩ = some (.int .i64 f.dlc) ∧ wb.cell? ⟨b4, 4, none⟩ = some (.string f.data) ∧ wb.cell? ⟨go, j, none⟩ = some (.int .i64 o) ∧ (Instr.lookup 43 (.map (some bm)) (.int .i64 j) false).run Try.prog wb = .ok (.bool false) wb) from fun wa wb hb h => KA.out wb (h.1.keep hb) (h.2.1.keep hb))
            have HI := Lib.hid (KA.out _ HS6 hK)
            clear hK HS6
            have hI := HI.out
            go_region_held3 (fun w' => LS w hs ls os g1 gl go bm ls w' ∧ Blk w' b4 f.v 25 ∧ w'.cell? ⟨gl, 0, none⟩ = some (.int .i64 z) ∧ w'.cell? ⟨g1, z * 5, none⟩ = some (.int .u32 zf.id) ∧ w'.cell? ⟨g1, z * 5 + 1, none⟩ = some (.bool zf.ext) ∧ w'.cell? ⟨g1, z * 5 + 2, none⟩ = some (.bool zf.rem) ∧ w'.cell? ⟨g1, z * 5 + 3, none⟩ = some (.int .i64 zf.dlc) ∧ w'.cell? ⟨g1, z * 5 + 4, none⟩ = some (.string zf.data) ∧ w'.cell? ⟨b4, 0, none⟩ = some (.int .u32 f.id) ∧ w'.cell? ⟨b4, 1, none⟩ = some (.bool f.ext) ∧ w'.cell? ⟨b4, 2, none⟩ = some (.bool f.rem) ∧ w'.cell? ⟨b4, 3, none⟩ = some (.int .i64 f.dlc) ∧ w'.cell? ⟨b4, 4, none⟩ = some (.string f.data) ∧ w'.cell? ⟨go, j, none⟩ = some (.int .i64 o) ∧ (Instr.lookup 43 (.map (some bm)) (.int .i64 j) false).run Try.prog w' = .ok (.bool false) w')
              (first | assumption | exact KS.out _ _ (Below.refl _ _).drew HI.out)
              ((go_at_call 11; (with_reducible refine (CZJ.out _).mono ?_); rintro e w7 ⟨rfl, hb7⟩; have hI7 := KS.out _ _ hb7 (by assumption)))
            go_wp2
            go_region_held3 (fun w' => LS w hs ls os g1 gl go bm ls w' ∧ Blk w' b4 f.v 25 ∧ w'.cell? ⟨gl, 0, none⟩ = some (.int .i64 z) ∧ w'.cell? ⟨g1, z * 5, none⟩ = some (.int .u32 zf.id) ∧ w'.cell? ⟨g1, z * 5 + 1, none⟩ = some (.bool zf.ext) ∧ w'.cell? ⟨g1, z * 5 + 2, none⟩ = some (.bool zf.rem) ∧ w'.cell? ⟨g1, z * 5 + 3, none⟩ = some (.int .i64 zf.dlc) ∧ w'.cell? ⟨g1, z * 5 + 4, none⟩ = some (.string zf.data) ∧ w'.cell? ⟨b4, 0, none⟩ = some (.int .u32 f.id) ∧ w'.cell? ⟨b4, 1, none⟩ = some (.bool f.ext) ∧ w'.cell? ⟨b4, 2, none⟩ = some (.bool f.rem) ∧ w'.cell? ⟨b4, 3, none⟩ = some (.int .i64 f.dlc) ∧ w'.cell? ⟨b4, 4, none⟩ = some (.string f.data) ∧ w'.cell? ⟨go, j, none⟩ = some (.int .i64 o) ∧ (Instr.lookup 43 (.map (some bm)) (.int .i64 j) false).run Try.prog w' = .ok (.bool false) w')
              (first | assumption | exact KS.out _ _ (Below.refl _ _).drew hI7)
              ((go_at_call 11; (with_reducible refine (CJZ.out _).mono ?_); rintro e w8 ⟨rfl, hb8⟩; have hI8 := KS.out _ _ hb8 (by assumption)))
            go_wp2
            go_roundw
            case rel => exact ⟨j + 1, hjm, by go_num, hI8.1⟩
            case measure => simp [intOf]; omega
        · go_wp2
          go_ret
          exact ⟨rfl, hS.bel⟩

/-- the law PrioLeft -/
theorem prioleft_any (A : Option Addr) (n cap : Nat) (gs : List FX) (w : World) (h : InF w A n cap gs) :
    Calls Try.prog 4 #[.slice A n cap] w fun e w' => e = .returned (.bool true) ∧ Below w.heap.size w w' := by
  cases ha : (gs.map FX.cut).all FX.may
  · exact prioleft_no A n cap gs w h (.inl ha)
  · rcases Nat.eq_zero_or_pos (gs.map FX.cut).length with h0 | h0
    · exact prioleft_no A n cap gs w h (.inr h0)
    · exact prioleft_yes A n cap gs w h ha h0
end Go.Proofs.Ytkkibcjndgfmfaa
