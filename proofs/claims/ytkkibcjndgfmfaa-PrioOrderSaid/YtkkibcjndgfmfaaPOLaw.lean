/- The law PrioOrder. -/
import Derived.Test.YtkkibcjndgfmfaaPOrd4
import Derived.Deep.RegionHeld3
namespace Go.Proofs.Ytkkibcjndgfmfaa
open Go.RowKit Go.Lib
attribute [local go_sem ↓] Go.wp_at_zero Go.wp_at_succ

abbrev KD (h : Nat) (f : FX) (w : World) : Prop := w.cell? ⟨h, 0, none⟩ = some (.int .u32 f.id) ∧ w.cell? ⟨h, 1, none⟩ = some (.bool f.ext) ∧ w.cell? ⟨h, 2, none⟩ = some (.bool f.rem) ∧ w.cell? ⟨h, 3, none⟩ = some (.int .i64 f.dlc) ∧ w.cell? ⟨h, 4, none⟩ = some (.string f.data)
theorem blk_kd {w : World} {h : Nat} {f : FX} (k : Blk w h f.v 25) : KD h f w := ⟨k.cell 0 _ rfl, k.cell 1 _ rfl, k.cell 2 _ rfl, k.cell 3 _ rfl, k.cell 4 _ rfl⟩
/-- what lies in memory: the row, the row in order, and frames of its rounds -/
structure QS (w0 : World) (hs os : List FX) (g1 h : Nat) (bs : List (Nat × FX)) (W : World) : Prop where
  row : RowF W g1 0 hs
  ord : RowF W h 0 os
  lt : g1 < W.heap.size ∧ h < W.heap.size
  bel : Below w0.heap.size w0 W
  blk : ∀ p ∈ bs, Blk W p.1 p.2.v 25
section
variable {w0 W W' : World} {hs os : List FX} {g1 h : Nat} {bs : List (Nat × FX)}
theorem QS.keep (q : QS w0 hs os g1 h bs W) (hb : Below W.heap.size W W') : QS w0 hs os g1 h bs W' :=
  ⟨q.row.below hb q.lt.1, q.ord.below hb q.lt.2, ⟨Nat.lt_of_lt_of_le q.lt.1 hb.size, Nat.lt_of_lt_of_le q.lt.2 hb.size⟩, q.bel.trans (hb.mono q.bel.size), fun p hp => (q.blk p hp).keep hb⟩
theorem QS.push (q : QS w0 hs os g1 h bs W) (f : FX) : QS w0 hs os g1 h ((W.heap.size, f) :: bs) (W.alloc (.cells f.v 25)) := by
  have hb : Below W.heap.size W (W.alloc (.cells f.v 25)) := (Below.refl _ _).alloc (Nat.le_refl _) _
  have k := q.keep hb
  refine ⟨k.row, k.ord, k.lt, k.bel, fun p hp => ?_⟩
  rcases List.mem_cons.1 hp with rfl | hp
  · exact blk_new _ _ _ _ rfl
  · exact k.blk p hp
theorem QS.weak (q : QS w0 hs os g1 h bs W) (bs' : List (Nat × FX)) (hs' : ∀ p ∈ bs', p ∈ bs) : QS w0 hs os g1 h bs' W := ⟨q.row, q.ord, q.lt, q.bel, fun p hp => q.blk p (hs' p hp)⟩
theorem QS.one {b : Nat} {f : FX} (q : QS w0 hs os g1 h bs W) (hm : (b, f) ∈ bs) : KD b f W := blk_kd (q.blk _ hm)
end
theorem less_both {f g : FX} (h1 : f.less g = false) (h2 : g.less f = false) : f.field = g.field := by
  apply bytes_same
  rw [FX.field_list, FX.field_list]
  exact B.lt_same keysF h1 h2
theorem less_ne {f g : FX} (h : f.less g = true) : f.field ≠ g.field := fun e => by
  have : B.fieldL f.fr = B.fieldL g.fr := by rw [← FX.field_list, ← FX.field_list, e]
  unfold FX.less at h
  rw [this, B.lessL_self] at h; cases h
theorem toList_ne {a b : ByteArray} (h : a ≠ b) : (a.toList == b.toList) = false := beq_eq_false_iff_ne.2 (fun e => h (bytes_same (by simpa [ByteArray.toList_eq] using e)))

set_option maxRecDepth 100000 in
set_option maxHeartbeats 4000000 in
theorem prioorder_no (A : Option Addr) (n cap : Nat) (gs : List FX) (w : World) (h : InF w A n cap gs) (hno : (gs.map FX.cut).all FX.may = false) :
    Calls Try.prog 5 #[.slice A n cap] w fun e w' => e = .returned (.bool true) ∧ Below w.heap.size w w' := by
  have hsh := h.short
  have CF := Lib.hid (few_all h)
  obtain ⟨hs, hhs⟩ : ∃ hs, hs = gs.map FX.cut := ⟨_, rfl⟩
  rw [← hhs] at CF hno
  have hl : hs.length ≤ 10 := by rw [hhs, List.length_map]; exact hsh
  have CA := Lib.hid (fun w => alive5_any w)
  clear h hhs hsh
  obtain ⟨m, hm⟩ : ∃ m, m = hs.length := ⟨_, rfl⟩
  have CC := Lib.hid (fun g1 cap1 (w1 : World) (h1 : RowF w1 g1 0 hs) (h2 : g1 < w1.heap.size) => order_no g1 cap1 hs w1 (by omega) h1 h2 hno)
  have CW0 := fun g1 cap1 (w1 : World) (h1 : RowF w1 g1 0 hs) (h2 : g1 < w1.heap.size) => refwell_any g1 0 cap1 hs w1 (by omega) h1 h2
  rw [hno] at CW0
  rw [← hm] at CF CC CW0 hl
  have CW := Lib.hid CW0
  clear CW0 hno hm
  go_enter Try.func5, Try.ntmps5
  go_wp2_with (first
    | (go_at_call 7; (with_reducible refine CF.out.mono ?_); rintro e w1 ⟨g1, cap1, rfl, ho, hb1⟩; (have hr1 := own_row ho); (have hg1 := (ho.lt _ rfl).2))
    | (go_at_call 15; (with_reducible refine (CC.out _ _ _ hr1 hg1).mono ?_); rintro e w2 ⟨rfl, hb2⟩; (replace hr1 := hr1.below hb2 hg1); (replace hg1 := Nat.lt_of_lt_of_le hg1 hb2.size); replace hb2 := hb1.trans (hb2.mono hb1.size))
    | (go_at_call 13; (with_reducible refine (CA.out _).mono ?_); rintro e w3 ⟨rfl, hb3⟩; (replace hr1 := hr1.below hb3 hg1); (replace hg1 := Nat.lt_of_lt_of_le hg1 hb3.size); replace hb3 := hb2.trans (hb3.mono hb2.size))
    | (go_at_call 16; (with_reducible refine (CW.out _ _ _ hr1 hg1).mono ?_); rintro e w4 ⟨rfl, hb4⟩; replace hb4 := hb3.trans (hb4.mono hb3.size)))
  go_ret
  exact ⟨rfl, hb4⟩

set_option maxRecDepth 100000 in
set_option maxHeartbeats 16000000 in
theorem prioorder_yes (A : Option Addr) (n cap : Nat) (gs : List FX) (w : World) (h : InF w A n cap gs) (ha : (gs.map FX.cut).all FX.may = true) :
    Calls Try.prog 5 #[.slice A n cap] w fun e w' => e = .returned (.bool true) ∧ Below w.heap.size w w' := by
  have hsh := h.short
  have CF := Lib.hid (few_all h)
  obtain ⟨hs, hhs⟩ : ∃ hs, hs = gs.map FX.cut := ⟨_, rfl⟩
  simp only [← hhs] at CF ha
  have hl : hs.length ≤ 10 := by rw [hhs, List.length_map]; exact hsh
  have CA := Lib.hid (fun w => alive5_any w)
  clear h hhs hsh
  have CC := Lib.hid (fun g1 cap1 (w1 : World) (h1 : RowF w1 g1 0 hs) (h2 : g1 < w1.heap.size) => order_yes g1 cap1 hs w1 hl h1 h2 ha)
  have HMAY := Lib.hid (show ∀ i (h : i < hs.length), hs[i].may = true from fun i h => (List.all_eq_true.1 ha) _ (List.getElem_mem h))
  obtain ⟨os, hos⟩ : ∃ os, os = B.isort keyF hs := ⟨_, rfl⟩
  have HOM := Lib.hid (show ∀ i (h : i < os.length), os[i].may = true from fun i h => (List.all_eq_true.1 ha) _ ((B.isort_mem hs _).1 (by rw [← hos]; exact List.getElem_mem h)))
  have HOL := Lib.hid (show os.length = hs.length by rw [hos, B.isort_length])
  have HSR := Lib.hid (show B.Srt keyF os by rw [hos]; exact B.isort_srt keysF hs)
  rw [← hos] at CC
  obtain ⟨m, hm⟩ : ∃ m, m = hs.length := ⟨_, rfl⟩
  rw [← hm] at CF CC hl HOL
  have HM := Lib.hid hm
  clear ha hos hm
  go_enter Try.func5, Try.ntmps5
  go_wp2_with (first
    | (go_at_call 7; (with_reducible refine CF.out.mono ?_); rintro e w1 ⟨g1, cap1, rfl, ho, hb1⟩; (have hr1 := own_row ho); (have hg1 := (ho.lt _ rfl).2))
    | (go_at_call 15; (with_reducible refine (CC.out _ _ _ hr1 hg1).mono ?_); rintro e w2 ⟨hh, caph, rfl, hoo, hb2⟩; (replace hr1 := hr1.below hb2 hg1); (replace hg1 := Nat.lt_of_lt_of_le hg1 hb2.size); (replace hb2 := hb1.trans (hb2.mono hb1.size))))
  have hQ : QS w hs os g1 hh [] w2 := ⟨hr1, own_row hoo, ⟨hg1, (hoo.lt _ rfl).2⟩, hb2, fun p hp => by simp at hp⟩
  clear CF CC hr1 hg1 hoo hb1 hb2 ho
  go_loopw [34] (fun i wr => ∃ a : Nat, a ≤ m ∧ i = .int .i64 a ∧ QS w hs os g1 hh [] wr) (fun i _ => m - (intOf i).toNat)
  case atStart => exact ⟨0, Nat.zero_le _, rfl, hQ⟩
  case round =>
    clear hQ
    obtain ⟨a, ha, rfl, hQ⟩ := hrel
    by_cases hlt : a < m
    · have hal : a < hs.length := by rw [← HM.out]; exact hlt
      obtain ⟨e0, e1, e2, e3, e4⟩ := hQ.row.at0 a hal
      have hfm := HMAY.out a hal
      obtain ⟨f, hf⟩ : ∃ f, f = hs[a] := ⟨_, rfl⟩
      rw [← hf] at e0 e1 e2 e3 e4 hfm
      have hQ1 := hQ.push f
      clear hQ hf
      have HQ1 := Lib.hid hQ1
      clear hQ1
      go_wp2
      obtain ⟨bf, hbf⟩ : ∃ bf, bf = wr.heap.size := ⟨_, rfl⟩
      simp only [← hbf] at HQ1 ⊢
      clear e0 e1 e2 e3 e4 hbf
      go_loopw [40] (fun i wq => ∃ b : Nat, b ≤ m ∧ i = .int .i64 b ∧ QS w hs os g1 hh [(bf, f)] wq) (fun i _ => m - (intOf i).toNat)
      case atStart => exact ⟨0, Nat.zero_le _, rfl, HQ1.out⟩
      case round =>
        clear HQ1
        obtain ⟨b, hb, rfl, hQ⟩ := hrel
        by_cases hltb : b < m
        · have hbl : b < hs.length := by rw [← HM.out]; exact hltb
          obtain ⟨e0, e1, e2, e3, e4⟩ := hQ.row.at0 b hbl
          obtain ⟨d0, d1, d2, d3, d4⟩ := hQ.one (b := bf) (f := f) (by simp)
          have hbfl : bf < wr.heap.size := (hQ.blk (bf, f) (by simp)).lt
          have hgm := HMAY.out b hbl
          obtain ⟨g, hg⟩ : ∃ g, g = hs[b] := ⟨_, rfl⟩
          rw [← hg] at e0 e1 e2 e3 e4 hgm
          have HQ := Lib.hid (hQ.push g)
          clear hQ hg
          have CFF := Lib.hid (fun w => field_yes f w hfm)
          have CFG := Lib.hid (fun w => field_yes g w hgm)
          by_cases hfg : f.less g = true
          · have hne := toList_ne (less_ne hfg)
            have hgf := B.lt_asymm keysF hfg
            replace hgf : g.less f = false := hgf
            have CXY0 := fun w => less_yes f g w hfm hgm
            have CYX0 := fun w => less_yes g f w hgm hfm
            rw [hfg] at CXY0
            rw [hgf] at CYX0
            have CXY := Lib.hid CXY0
            have CYX := Lib.hid CYX0
            have HFGT := Lib.hid hfg
            clear CXY0 CYX0 hfg hgf
            go_wp2_with (first
              | (go_at_call 8; (with_reducible refine (CFF.out _).mono ?_); rintro e wn ⟨rfl, hbn⟩; (replace HQ := Lib.hid (HQ.out.keep hbn)); (obtain ⟨d0, d1, d2, d3, d4⟩ := HQ.out.one (b := bf) (f := f) (by simp)); (obtain ⟨c0, c1, c2, c3, c4⟩ := HQ.out.one (b := wr.heap.size) (f := g) (by simp)))
              | (go_at_call 8; (with_reducible refine (CFG.out _).mono ?_); rintro e wn ⟨rfl, hbn⟩; (replace HQ := Lib.hid (HQ.out.keep hbn)); (obtain ⟨d0, d1, d2, d3, d4⟩ := HQ.out.one (b := bf) (f := f) (by simp)); (obtain ⟨c0, c1, c2, c3, c4⟩ := HQ.out.one (b := wr.heap.size) (f := g) (by simp)))
              | (go_at_call 11; (with_reducible refine (CXY.out _).mono ?_); rintro e wn ⟨rfl, hbn⟩; (replace HQ := Lib.hid (HQ.out.keep hbn)); (obtain ⟨d0, d1, d2, d3, d4⟩ := HQ.out.one (b := bf) (f := f) (by simp)); (obtain ⟨c0, c1, c2, c3, c4⟩ := HQ.out.one (b := wr.heap.size) (f := g) (by simp)))
              | (go_at_call 11; (with_reducible refine (CYX.out _).mono ?_); rintro e wn ⟨rfl, hbn⟩; (replace HQ := Lib.hid (HQ.out.keep hbn)); (obtain ⟨d0, d1, d2, d3, d4⟩ := HQ.out.one (b := bf) (f := f) (by simp)); (obtain ⟨c0, c1, c2, c3, c4⟩ := HQ.out.one (b := wr.heap.size) (f := g) (by simp))))
            obtain ⟨bg, hbg⟩ : ∃ bg, bg = wr.heap.size := ⟨_, rfl⟩
            simp only [← hbg] at HQ ⊢
            clear hbg
            clear d0 d1 d2 d3 d4 e0 e1 e2 e3 e4 c0 c1 c2 c3 c4
            go_loopw [80] (fun i wh => ∃ c : Nat, c ≤ m ∧ i = .int .i64 c ∧ QS w hs os g1 hh [(bg, g), (bf, f)] wh) (fun i _ => m - (intOf i).toNat)
            case atStart => exact ⟨0, Nat.zero_le _, rfl, HQ.out⟩
            case round =>
              clear HQ
              obtain ⟨c, hc, rfl, hQ⟩ := hrel
              by_cases hltc : c < m
              · have hcl : c < hs.length := by rw [← HM.out]; exact hltc
                obtain ⟨e0, e1, e2, e3, e4⟩ := hQ.row.at0 c hcl
                obtain ⟨d0, d1, d2, d3, d4⟩ := hQ.one (b := bf) (f := f) (by simp)
                obtain ⟨c0, c1, c2, c3, c4⟩ := hQ.one (b := bg) (f := g) (by simp)
                have hbfl2 : bf < wr.heap.size := (hQ.blk (bf, f) (by simp)).lt
                have hbgl2 : bg < wr.heap.size := (hQ.blk (bg, g) (by simp)).lt
                have hxm := HMAY.out c hcl
                obtain ⟨x, hx⟩ : ∃ x, x = hs[c] := ⟨_, rfl⟩
                rw [← hx] at e0 e1 e2 e3 e4 hxm
                have HQ := Lib.hid (hQ.push x)
                clear hQ hx
                cases hgx : g.less x
                · have CGX0 := fun w => less_yes g x w hgm hxm
                  rw [hgx] at CGX0
                  have CGX := Lib.hid CGX0
                  clear CGX0 hgx
                  go_wp2_with (first
                    | (go_at_call 11; (with_reducible refine (CXY.out _).mono ?_); rintro e wn ⟨rfl, hbn⟩; (replace HQ := Lib.hid (HQ.out.keep hbn)); (obtain ⟨d0, d1, d2, d3, d4⟩ := HQ.out.one (b := bf) (f := f) (by simp)); (obtain ⟨c0, c1, c2, c3, c4⟩ := HQ.out.one (b := bg) (f := g) (by simp)); (obtain ⟨x0, x1, x2, x3, x4⟩ := HQ.out.one (b := wr.heap.size) (f := x) (by simp)))
                    | (go_at_call 11; (with_reducible refine (CGX.out _).mono ?_); rintro e wn ⟨rfl, hbn⟩; (replace HQ := Lib.hid (HQ.out.keep hbn)); (obtain ⟨d0, d1, d2, d3, d4⟩ := HQ.out.one (b := bf) (f := f) (by simp)); (obtain ⟨c0, c1, c2, c3, c4⟩ := HQ.out.one (b := bg) (f := g) (by simp)); (obtain ⟨x0, x1, x2, x3, x4⟩ := HQ.out.one (b := wr.heap.size) (f := x) (by simp))))
                  go_roundw
                  case rel => exact ⟨c + 1, hltc, by go_num, HQ.out.weak _ (by simp)⟩
                  case measure => simp [intOf]; omega
                · have CGX0 := fun w => less_yes g x w hgm hxm
                  rw [hgx] at CGX0
                  have CGX := Lib.hid CGX0
                  have CFX0 := fun w => less_yes f x w hfm hxm
                  rw [show f.less x = true from FX.less_trans HFGT.out hgx] at CFX0
                  have CFX := Lib.hid CFX0
                  clear CFX0
                  clear CGX0 hgx
                  go_wp2_with (first
                    | (go_at_call 11; (with_reducible refine (CXY.out _).mono ?_); rintro e wn ⟨rfl, hbn⟩; (replace HQ := Lib.hid (HQ.out.keep hbn)); (obtain ⟨d0, d1, d2, d3, d4⟩ := HQ.out.one (b := bf) (f := f) (by simp)); (obtain ⟨c0, c1, c2, c3, c4⟩ := HQ.out.one (b := bg) (f := g) (by simp)); (obtain ⟨x0, x1, x2, x3, x4⟩ := HQ.out.one (b := wr.heap.size) (f := x) (by simp)))
                    | (go_at_call 11; (with_reducible refine (CGX.out _).mono ?_); rintro e wn ⟨rfl, hbn⟩; (replace HQ := Lib.hid (HQ.out.keep hbn)); (obtain ⟨d0, d1, d2, d3, d4⟩ := HQ.out.one (b := bf) (f := f) (by simp)); (obtain ⟨c0, c1, c2, c3, c4⟩ := HQ.out.one (b := bg) (f := g) (by simp)); (obtain ⟨x0, x1, x2, x3, x4⟩ := HQ.out.one (b := wr.heap.size) (f := x) (by simp)))
                    | (go_at_call 11; (with_reducible refine (CFX.out _).mono ?_); rintro e wn ⟨rfl, hbn⟩; (replace HQ := Lib.hid (HQ.out.keep hbn)); (obtain ⟨d0, d1, d2, d3, d4⟩ := HQ.out.one (b := bf) (f := f) (by simp)); (obtain ⟨c0, c1, c2, c3, c4⟩ := HQ.out.one (b := bg) (f := g) (by simp)); (obtain ⟨x0, x1, x2, x3, x4⟩ := HQ.out.one (b := wr.heap.size) (f := x) (by simp))))
                  go_roundw
                  case rel => exact ⟨c + 1, hltc, by go_num, HQ.out.weak _ (by simp)⟩
                  case measure => simp [intOf]; omega
              · go_wp2
                go_roundw
                case rel => exact ⟨b + 1, hltb, by go_num, hQ.weak _ (by simp)⟩
                case measure => simp [intOf]; omega
          · replace hfg := Bool.eq_false_iff.2 hfg
            by_cases hgf : g.less f = true
            · have hne := toList_ne (fun e => less_ne hgf e.symm)
              have CXY0 := fun w => less_yes f g w hfm hgm
              have CYX0 := fun w => less_yes g f w hgm hfm
              rw [hfg] at CXY0
              rw [hgf] at CYX0
              have CXY := Lib.hid CXY0
              have CYX := Lib.hid CYX0
              clear CXY0 CYX0 hfg hgf
              go_wp2_with (first
                | (go_at_call 8; (with_reducible refine (CFF.out _).mono ?_); rintro e wn ⟨rfl, hbn⟩; (replace HQ := Lib.hid (HQ.out.keep hbn)); (obtain ⟨d0, d1, d2, d3, d4⟩ := HQ.out.one (b := bf) (f := f) (by simp)); (obtain ⟨c0, c1, c2, c3, c4⟩ := HQ.out.one (b := wr.heap.size) (f := g) (by simp)))
                | (go_at_call 8; (with_reducible refine (CFG.out _).mono ?_); rintro e wn ⟨rfl, hbn⟩; (replace HQ := Lib.hid (HQ.out.keep hbn)); (obtain ⟨d0, d1, d2, d3, d4⟩ := HQ.out.one (b := bf) (f := f) (by simp)); (obtain ⟨c0, c1, c2, c3, c4⟩ := HQ.out.one (b := wr.heap.size) (f := g) (by simp)))
                | (go_at_call 11; (with_reducible refine (CXY.out _).mono ?_); rintro e wn ⟨rfl, hbn⟩; (replace HQ := Lib.hid (HQ.out.keep hbn)); (obtain ⟨d0, d1, d2, d3, d4⟩ := HQ.out.one (b := bf) (f := f) (by simp)); (obtain ⟨c0, c1, c2, c3, c4⟩ := HQ.out.one (b := wr.heap.size) (f := g) (by simp)))
                | (go_at_call 11; (with_reducible refine (CYX.out _).mono ?_); rintro e wn ⟨rfl, hbn⟩; (replace HQ := Lib.hid (HQ.out.keep hbn)); (obtain ⟨d0, d1, d2, d3, d4⟩ := HQ.out.one (b := bf) (f := f) (by simp)); (obtain ⟨c0, c1, c2, c3, c4⟩ := HQ.out.one (b := wr.heap.size) (f := g) (by simp))))
              obtain ⟨bg, hbg⟩ : ∃ bg, bg = wr.heap.size := ⟨_, rfl⟩
              simp only [← hbg] at HQ ⊢
              clear hbg
              clear d0 d1 d2 d3 d4 e0 e1 e2 e3 e4 c0 c1 c2 c3 c4
              go_loopw [80] (fun i wh => ∃ c : Nat, c ≤ m ∧ i = .int .i64 c ∧ QS w hs os g1 hh [(bg, g), (bf, f)] wh) (fun i _ => m - (intOf i).toNat)
              case atStart => exact ⟨0, Nat.zero_le _, rfl, HQ.out⟩
              case round =>
                clear HQ
                obtain ⟨c, hc, rfl, hQ⟩ := hrel
                by_cases hltc : c < m
                · have hcl : c < hs.length := by rw [← HM.out]; exact hltc
                  obtain ⟨e0, e1, e2, e3, e4⟩ := hQ.row.at0 c hcl
                  obtain ⟨d0, d1, d2, d3, d4⟩ := hQ.one (b := bf) (f := f) (by simp)
                  obtain ⟨c0, c1, c2, c3, c4⟩ := hQ.one (b := bg) (f := g) (by simp)
                  have hbfl2 : bf < wr.heap.size := (hQ.blk (bf, f) (by simp)).lt
                  have hbgl2 : bg < wr.heap.size := (hQ.blk (bg, g) (by simp)).lt
                  have hxm := HMAY.out c hcl
                  obtain ⟨x, hx⟩ : ∃ x, x = hs[c] := ⟨_, rfl⟩
                  rw [← hx] at e0 e1 e2 e3 e4 hxm
                  have HQ := Lib.hid (hQ.push x)
                  clear hQ hx
                  go_wp2_with ((go_at_call 11; (with_reducible refine (CXY.out _).mono ?_); rintro e wn ⟨rfl, hbn⟩; (replace HQ := Lib.hid (HQ.out.keep hbn)); (obtain ⟨d0, d1, d2, d3, d4⟩ := HQ.out.one (b := bf) (f := f) (by simp)); (obtain ⟨c0, c1, c2, c3, c4⟩ := HQ.out.one (b := bg) (f := g) (by simp)); (obtain ⟨x0, x1, x2, x3, x4⟩ := HQ.out.one (b := wr.heap.size) (f := x) (by simp))))
                  go_roundw
                  case rel => exact ⟨c + 1, hltc, by go_num, HQ.out.weak _ (by simp)⟩
                  case measure => simp [intOf]; omega
                · go_wp2
                  go_roundw
                  case rel => exact ⟨b + 1, hltb, by go_num, hQ.weak _ (by simp)⟩
                  case measure => simp [intOf]; omega
            · replace hgf := Bool.eq_false_iff.2 hgf
              have hsame := less_both hfg hgf
              rw [← hsame] at CFG
              have CXY0 := fun w => less_yes f g w hfm hgm
              have CYX0 := fun w => less_yes g f w hgm hfm
              rw [hfg] at CXY0
              rw [hgf] at CYX0
              have CXY := Lib.hid CXY0
              have CYX := Lib.hid CYX0
              clear CXY0 CYX0 hfg hgf hsame
              go_wp2_with (first
                | (go_at_call 8; (with_reducible refine (CFF.out _).mono ?_); rintro e wn ⟨rfl, hbn⟩; (replace HQ := Lib.hid (HQ.out.keep hbn)); (obtain ⟨d0, d1, d2, d3, d4⟩ := HQ.out.one (b := bf) (f := f) (by simp)); (obtain ⟨c0, c1, c2, c3, c4⟩ := HQ.out.one (b := wr.heap.size) (f := g) (by simp)))
                | (go_at_call 8; (with_reducible refine (CFG.out _).mono ?_); rintro e wn ⟨rfl, hbn⟩; (replace HQ := Lib.hid (HQ.out.keep hbn)); (obtain ⟨d0, d1, d2, d3, d4⟩ := HQ.out.one (b := bf) (f := f) (by simp)); (obtain ⟨c0, c1, c2, c3, c4⟩ := HQ.out.one (b := wr.heap.size) (f := g) (by simp)))
                | (go_at_call 11; (with_reducible refine (CXY.out _).mono ?_); rintro e wn ⟨rfl, hbn⟩; (replace HQ := Lib.hid (HQ.out.keep hbn)); (obtain ⟨d0, d1, d2, d3, d4⟩ := HQ.out.one (b := bf) (f := f) (by simp)); (obtain ⟨c0, c1, c2, c3, c4⟩ := HQ.out.one (b := wr.heap.size) (f := g) (by simp)))
                | (go_at_call 11; (with_reducible refine (CYX.out _).mono ?_); rintro e wn ⟨rfl, hbn⟩; (replace HQ := Lib.hid (HQ.out.keep hbn)); (obtain ⟨d0, d1, d2, d3, d4⟩ := HQ.out.one (b := bf) (f := f) (by simp)); (obtain ⟨c0, c1, c2, c3, c4⟩ := HQ.out.one (b := wr.heap.size) (f := g) (by simp))))
              obtain ⟨bg, hbg⟩ : ∃ bg, bg = wr.heap.size := ⟨_, rfl⟩
              simp only [← hbg] at HQ ⊢
              clear hbg
              clear d0 d1 d2 d3 d4 e0 e1 e2 e3 e4 c0 c1 c2 c3 c4
              go_loopw [80] (fun i wh => ∃ c : Nat, c ≤ m ∧ i = .int .i64 c ∧ QS w hs os g1 hh [(bg, g), (bf, f)] wh) (fun i _ => m - (intOf i).toNat)
              case atStart => exact ⟨0, Nat.zero_le _, rfl, HQ.out⟩
              case round =>
                clear HQ
                obtain ⟨c, hc, rfl, hQ⟩ := hrel
                by_cases hltc : c < m
                · have hcl : c < hs.length := by rw [← HM.out]; exact hltc
                  obtain ⟨e0, e1, e2, e3, e4⟩ := hQ.row.at0 c hcl
                  obtain ⟨d0, d1, d2, d3, d4⟩ := hQ.one (b := bf) (f := f) (by simp)
                  obtain ⟨c0, c1, c2, c3, c4⟩ := hQ.one (b := bg) (f := g) (by simp)
                  have hbfl2 : bf < wr.heap.size := (hQ.blk (bf, f) (by simp)).lt
                  have hbgl2 : bg < wr.heap.size := (hQ.blk (bg, g) (by simp)).lt
                  have hxm := HMAY.out c hcl
                  obtain ⟨x, hx⟩ : ∃ x, x = hs[c] := ⟨_, rfl⟩
                  rw [← hx] at e0 e1 e2 e3 e4 hxm
                  have HQ := Lib.hid (hQ.push x)
                  clear hQ hx
                  go_wp2_with ((go_at_call 11; (with_reducible refine (CXY.out _).mono ?_); rintro e wn ⟨rfl, hbn⟩; (replace HQ := Lib.hid (HQ.out.keep hbn)); (obtain ⟨d0, d1, d2, d3, d4⟩ := HQ.out.one (b := bf) (f := f) (by simp)); (obtain ⟨c0, c1, c2, c3, c4⟩ := HQ.out.one (b := bg) (f := g) (by simp)); (obtain ⟨x0, x1, x2, x3, x4⟩ := HQ.out.one (b := wr.heap.size) (f := x) (by simp))))
                  go_roundw
                  case rel => exact ⟨c + 1, hltc, by go_num, HQ.out.weak _ (by simp)⟩
                  case measure => simp [intOf]; omega
                · go_wp2
                  go_roundw
                  case rel => exact ⟨b + 1, hltb, by go_num, hQ.weak _ (by simp)⟩
                  case measure => simp [intOf]; omega
        · go_wp2
          go_roundw
          case rel => exact ⟨a + 1, hlt, by go_num, hQ.weak _ (by simp)⟩
          case measure => simp [intOf]; omega
    · go_wp2
      go_loopw [103] (fun i wr => ∃ a : Nat, a ≤ m ∧ i = .int .i64 a ∧ QS w hs os g1 hh [] wr) (fun i _ => m - (intOf i).toNat)
      case atStart => exact ⟨0, Nat.zero_le _, rfl, hQ⟩
      case round =>
        clear hQ
        obtain ⟨i, hi, rfl, hQ⟩ := hrel
        by_cases hltI : i < m
        · have HQ := Lib.hid hQ
          clear hQ
          go_wp2
          go_loopw [107] (fun s wq => ∃ k : Nat, k ≤ i ∧ s = .int .i64 k ∧ QS w hs os g1 hh [] wq) (fun s _ => i - (intOf s).toNat)
          case atStart => exact ⟨0, Nat.zero_le _, rfl, HQ.out⟩
          case round =>
            clear HQ
            obtain ⟨k, hk, rfl, hQ⟩ := hrel
            by_cases hltk : k < i
            · have hio : i < os.length := by rw [HOL.out]; exact hltI
              have hko : k < os.length := by omega
              have hsl : os[i].less os[k] = false := List.pairwise_iff_getElem.1 HSR.out k i hko hio hltk
              have him := HOM.out i hio
              have hkm := HOM.out k hko
              obtain ⟨x, hx⟩ : ∃ x, x = os[i] := ⟨_, rfl⟩
              obtain ⟨y, hy⟩ : ∃ y, y = os[k] := ⟨_, rfl⟩
              rw [← hx, ← hy] at hsl
              rw [← hx] at him
              rw [← hy] at hkm
              have CXY0 := fun w => less_yes x y w him hkm
              rw [hsl] at CXY0
              have CXY := Lib.hid CXY0
              have HX := Lib.hid hx
              have HY := Lib.hid hy
              have KA := Lib.hid (show ∀ wa, QS w hs os g1 hh [] wa → (QS w hs os g1 hh [] wa ∧ wa.cell? ⟨hh, i * 5, none⟩ = some (.int .u32 x.id) ∧ wa.cell? ⟨hh, i * 5 + 1, none⟩ = some (.bool x.ext) ∧ wa.cell? ⟨hh, i * 5 + 2, none⟩ = some (.bool x.rem) ∧ wa.cell? ⟨hh, i * 5 + 3, none⟩ = some (.int .i64 x.dlc) ∧ wa.cell? ⟨hh, i * 5 + 4, none⟩ = some (.string x.data) ∧ wa.cell? ⟨hh, k * 5, none⟩ = some (.int .u32 y.id) ∧ wa.cell? ⟨hh, k * 5 + 1, none⟩ = some (.bool y.ext) ∧ wa.cell? ⟨hh, k * 5 + 2, none⟩ = some (.bool y.rem) ∧ wa.cell? ⟨hh, k * 5 + 3, none⟩ = some (.int .i64 y.dlc) ∧ wa.cell? ⟨hh, k * 5 + 4, none⟩ = some (.string y.data)) from fun wa q => by
                obtain ⟨a0, a1, a2, a3, a4⟩ := q.ord.at0 i hio
                obtain ⟨b0, b1, b2, b3, b4⟩ := q.ord.at0 k hko
                rw [← HX.out] at a0 a1 a2 a3 a4
                rw [← HY.out] at b0 b1 b2 b3 b4
                exact ⟨q, a0, a1, a2, a3, a4, b0, b1, b2, b3, b4⟩)
              have KS := Lib.hid (show ∀ wa wb, Below wa.heap.size wa wb → (QS w hs os g1 hh [] wa ∧ wa.cell? ⟨hh, i * 5, none⟩ = some (.int .u32 x.id) ∧ wa.cell? ⟨hh, i * 5 + 1, none⟩ = some (.bool x.ext) ∧ wa.cell? ⟨hh, i * 5 + 2, none⟩ = some (.bool x.rem) ∧ wa.cell? ⟨hh, i * 5 + 3, none⟩ = some (.int .i64 x.dlc) ∧ wa.cell? ⟨hh, i * 5 + 4, none⟩ = some (.string x.data) ∧ wa.cell? ⟨hh, k * 5, none⟩ = some (.int .u32 y.id) ∧ wa.cell? ⟨hh, k * 5 + 1, none⟩ = some (.bool y.ext) ∧ wa.cell? ⟨hh, k * 5 + 2, none⟩ = some (.bool y.rem) ∧ wa.cell? ⟨hh, k * 5 + 3, none⟩ = some (.int .i64 y.dlc) ∧ wa.cell? ⟨hh, k * 5 + 4, none⟩ = some (.string y.data)) → (QS w hs os g1 hh [] wb ∧ wb.cell? ⟨hh, i * 5, none⟩ = some (.int .u32 x.id) ∧ wb.cell? ⟨hh, i * 5 + 1, none⟩ = some (.bool x.ext) ∧ wb.cell? ⟨hh, i * 5 + 2, none⟩ = some (.bool x.rem) ∧ wb.cell? ⟨hh, i * 5 + 3, none⟩ = some (.int .i64 x.dlc) ∧ wb.cell? ⟨hh, i * 5 + 4, none⟩ = some (.string x.data) ∧ wb.cell? ⟨hh, k * 5, none⟩ = some (.int .u32 y.id) ∧ wb.cell? ⟨hh, k * 5 + 1, none⟩ = some (.bool y.ext) ∧ wb.cell? ⟨hh, k * 5 + 2, none⟩ = some (.bool y.rem) ∧ wb.cell? ⟨hh, k * 5 + 3, none⟩ = some (.int .i64 y.dlc) ∧ wb.cell? ⟨hh, k * 5 + 4, none⟩ = some (.string y.data)) from fun wa wb hb q => KA.out wb (q.1.keep hb))
              have HI := Lib.hid (KA.out _ hQ)
              have z0 : (0 : Int) ≤ i := by omega
              have z1 : (i : Int) < m := by omega
              have z2 : (0 : Int) ≤ k := by omega
              have z3 : (k : Int) < m := by omega
              clear hQ hsl him hkm hx hy CXY0
              go_wp2_with fail
              go_region_held3 (fun w' => QS w hs os g1 hh [] w' ∧ w'.cell? ⟨hh, i * 5, none⟩ = some (.int .u32 x.id) ∧ w'.cell? ⟨hh, i * 5 + 1, none⟩ = some (.bool x.ext) ∧ w'.cell? ⟨hh, i * 5 + 2, none⟩ = some (.bool x.rem) ∧ w'.cell? ⟨hh, i * 5 + 3, none⟩ = some (.int .i64 x.dlc) ∧ w'.cell? ⟨hh, i * 5 + 4, none⟩ = some (.string x.data) ∧ w'.cell? ⟨hh, k * 5, none⟩ = some (.int .u32 y.id) ∧ w'.cell? ⟨hh, k * 5 + 1, none⟩ = some (.bool y.ext) ∧ w'.cell? ⟨hh, k * 5 + 2, none⟩ = some (.bool y.rem) ∧ w'.cell? ⟨hh, k * 5 + 3, none⟩ = some (.int .i64 y.dlc) ∧ w'.cell? ⟨hh, k * 5 + 4, none⟩ = some (.string y.data))
                (first | assumption | exact KS.out _ _ (Below.refl _ _).drew HI.out)
                ((go_at_call 11; (with_reducible refine (CXY.out _).mono ?_); rintro e w7 ⟨rfl, hb7⟩; have hI7 := KS.out _ _ hb7 (by assumption)))
              go_wp2
              have hQ7 := hI7.1
              clear hI7 HI
              go_roundw
              case rel => exact ⟨k + 1, hltk, by go_num, hQ7⟩
              case measure => simp [intOf]; omega
            · go_wp2
              go_roundw
              case rel => exact ⟨i + 1, hltI, by go_num, hQ⟩
              case measure => simp [intOf]; omega
        · have HB := Lib.hid hQ.bel
          clear hQ
          go_wp2_with (go_at_call 13; (with_reducible refine (CA.out _).mono ?_); rintro e w9 ⟨rfl, hb9⟩)
          go_ret
          exact ⟨rfl, HB.out.trans (hb9.mono HB.out.size)⟩

/-- the law PrioOrder -/
theorem prioorder_any (A : Option Addr) (n cap : Nat) (gs : List FX) (w : World) (h : InF w A n cap gs) :
    Calls Try.prog 5 #[.slice A n cap] w fun e w' => e = .returned (.bool true) ∧ Below w.heap.size w w' := by
  cases ha : (gs.map FX.cut).all FX.may
  · exact prioorder_no A n cap gs w h ha
  · exact prioorder_yes A n cap gs w h ha
end Go.Proofs.Ytkkibcjndgfmfaa
