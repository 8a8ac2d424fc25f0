/- Package prio's Order. -/
import Derived.Test.YthgbfidghhlldabPOrd3
import Derived.Test.YthgbfidghhlldabPLeft
namespace Go.Proofs.Ythgbfidghhlldab
open Go.RowKit Go.Lib
attribute [local go_sem ↓] Go.wp_at_zero Go.wp_at_succ

theorem Try.infoCon : (Try.prog.info? 54).map (fun i => (i.zero, i.size, i.bytes)) = some (some (.agg #[.int .u32 0, .bool false, .bool false, .int .i64 0, .string ⟨#[]⟩, .string ⟨#[]⟩]), 6, 48) := by kernel_rfl
theorem RowCk.drew {w : World} {base g n cap : Nat} {fs : List FX} {k : Nat} (h : RowCk w base g n cap fs k) : RowCk w.drew base g n cap fs k := by
  obtain ⟨tail, hl, ho⟩ := h
  exact ⟨tail, hl, own_drew ho⟩

set_option maxRecDepth 100000 in
set_option maxHeartbeats 1000000 in
theorem order_no (g cap : Nat) (fs : List FX) (w : World) (hn : fs.length ≤ 1000000) (hc : RowF w g 0 fs) (hg : g < w.heap.size) (ha : fs.all FX.may = false) :
    Calls Try.prog 12 #[.slice (some ⟨g, 0, none⟩) fs.length cap] w fun e w' => e = .returned (.tuple #[.slice none 0 0, .int .i64 1]) ∧ Below w.heap.size w w' := by
  have CF := Lib.hid (fieldsOf_no g 0 cap fs w hn hc hg ha)
  clear hc ha
  go_enter Try.func12, Try.ntmps12
  go_wp2_with (go_at_call 19; (with_reducible refine CF.out.mono ?_); rintro e w1 ⟨rfl, hb1⟩)
  go_ret2
  exact ⟨rfl, hb1⟩

set_option maxRecDepth 100000 in
set_option maxHeartbeats 4000000 in
theorem order_yes (g cap : Nat) (fs : List FX) (w : World) (hn : fs.length ≤ 10) (hc : RowF w g 0 fs) (hg : g < w.heap.size) (ha : fs.all FX.may = true) :
    Calls Try.prog 12 #[.slice (some ⟨g, 0, none⟩) fs.length cap] w fun e w' => ∃ h cap', e = .returned (.tuple #[.slice (some ⟨h, 0, none⟩) fs.length cap', .int .i64 0]) ∧ w'.ownsRow w.heap.size 25 5 (.slice (some ⟨h, 0, none⟩) fs.length cap') fs.length (cellsF (B.isort keyF fs)) ∧ Below w.heap.size w w' := by
  have CF := Lib.hid (fieldsOf_yes g 0 cap fs w (by omega) hc hg ha)
  obtain ⟨i6, hi6, hz60, hz61, hz62⟩ := info_parts Try.infoCon
  obtain ⟨i5, hi5, hz50, hz51, hz52⟩ := info_parts Try.infoFr
  obtain ⟨n, hnn⟩ : ∃ n, n = fs.length := ⟨_, rfl⟩
  rw [← hnn] at CF hn ⊢
  have HN := Lib.hid hnn.symm
  have HC := Lib.hid hc
  have HG := Lib.hid hg
  clear hc hg ha hnn
  go_enter Try.func12, Try.ntmps12
  go_wp2_with (first
    | (go_at_call 19; (with_reducible refine CF.out.mono ?_); rintro e w1 ⟨capf, rfl, hof, hb1⟩)
    | (at_make; refine wpList_make_full _ rfl (.tmp 19) (.tmp 19) 52 rfl w1.heap.size 54 i6 _ 6 Try.underlying52 hi6 hz60 hz61 _ _ _ _ n rfl rfl rfl rfl ?b1 ?b2 ?b3 ?_))
  case b1 => rw [hz62]; omega
  case b2 => unfold maxLen; omega
  case b3 => exact Nat.le_refl _
  intro w2 hoc hgr
  have hb2 : Below w1.heap.size w1 w2 := (Below.refl _ _).grown hgr (Nat.le_refl _) (by intro _ h; cases h)
  have hgf : w.heap.size < w1.heap.size := (hof.lt _ rfl).2
  have hcs : RowCk w2 w1.heap.size w1.heap.size n n fs 0 := ⟨_, by have := hoc.1; rw [this]; rfl, hoc⟩
  obtain ⟨gc, hgc⟩ : ∃ gc, gc = w1.heap.size := ⟨_, rfl⟩
  have HGC := Lib.hid hgc
  simp only [← hgc] at hcs hb2 hgf ⊢
  clear hgr hoc hgc
  go_wp2
  go_loopw [23] (fun i wr => ∃ k : Nat, k ≤ n ∧ i = .int .i64 k ∧ RowCk wr gc gc n n fs k ∧ Below gc w1 wr) (fun i _ => n - (intOf i).toNat)
  case atStart => exact ⟨0, Nat.zero_le _, rfl, hcs, hb2⟩
  case round =>
    clear hcs hb2
    obtain ⟨k, hk, rfl, hcs, hW⟩ := hrel
    by_cases hlt : k < n
    · have hkf : k < fs.length := by rw [HN.out]; exact hlt
      obtain ⟨e0, e1, e2, e3, e4⟩ := RowF.at0 ((HC.out.below hb1 HG.out).below hW (by have := HG.out; omega)) k hkf
      have e5 := (hof.cellAt k (by omega))
      rw [show (fs.map (fun f => Value.string f.field))[k]? = some (.string fs[k].field) by simp [hkf]] at e5
      rw [← hW.cell (p := ⟨w.heap.size, k, none⟩) hgf] at e5
      obtain ⟨⟨u0, x0⟩, ⟨u1, x1⟩, ⟨u2, x2⟩, ⟨u3, x3⟩, ⟨u4, x4⟩, ⟨u5, x5⟩, hfz, hnx⟩ := hcs.next HN.out hlt
      have y0 := hfz (k * 6)
      have y1 := hfz (k * 6 + 1)
      have y2 := hfz (k * 6 + 2)
      have y3 := hfz (k * 6 + 3)
      have y4 := hfz (k * 6 + 4)
      have y5 := hfz (k * 6 + 5)
      have hbn := below_setC hW (Nat.le_refl gc) (k * 6) fs[k]
      obtain ⟨f, hf⟩ : ∃ f, f = fs[k] := ⟨_, rfl⟩
      rw [← hf] at e0 e1 e2 e3 e4 e5 hnx hbn
      unfold World.setC at hnx hbn
      have HNX := Lib.hid hnx
      have HBN := Lib.hid hbn
      have hk0 : (0 : Int) ≤ k := by omega
      have hk1 : (k : Int) < n := by omega
      clear hnx hbn hfz hcs hf hof
      go_wp2_with fail
      go_region
      go_wp2
      go_roundw
      case rel => exact ⟨k + 1, hlt, by go_num, HNX.out.drew, HBN.out.drew⟩
      case measure => simp [intOf]; omega
    · obtain rfl : k = n := by omega
      have hoc := hcs.full HN.out
      have hgc2 := (hoc.lt _ rfl).2
      have CS := Lib.hid (sortstable_any gc gc k k fs wr HN.out (by omega) hoc (Nat.le_of_lt hgc2))
      have HW := Lib.hid hW
      clear hcs hoc hof hW
      go_wp2_with (first
        | (go_at_call 24; (with_reducible refine CS.out.mono ?_); rintro e w3 ⟨rfl, hos, hb3⟩)
        | (at_make; refine wpList_make_full _ rfl (.tmp 42) (.tmp 42) 22 rfl w3.heap.size 25 i5 _ 5 Try.underlying22 hi5 hz50 hz51 _ _ _ _ k rfl rfl rfl rfl ?d1 ?d2 ?d3 ?_))
      case d1 => rw [hz52]; omega
      case d2 => unfold maxLen; omega
      case d3 => exact Nat.le_refl _
      intro w4 hof2 hgr2
      have hb4 : Below w3.heap.size w3 w4 := (Below.refl _ _).grown hgr2 (Nat.le_refl _) (by intro _ h; cases h)
      have hgc3 : gc < w3.heap.size := (hos.lt _ rfl).2
      have hfs : RowFk w4 w3.heap.size w3.heap.size k k (B.isort keyF fs) 0 := ⟨_, by have := hof2.1; rw [this]; rfl, hof2⟩
      obtain ⟨h, hh⟩ : ∃ h, h = w3.heap.size := ⟨_, rfl⟩
      have HH := Lib.hid hh
      simp only [← hh] at hfs hb4 hgc3 ⊢
      have HOS := Lib.hid hos
      have HIL := Lib.hid (show (B.isort keyF fs).length = k by rw [B.isort_length, HN.out])
      clear hgr2 hof2 hh hos
      go_wp2
      go_loopw [46] (fun i wq => ∃ j : Nat, j ≤ k ∧ i = .int .i64 j ∧ RowFk wq h h k k (B.isort keyF fs) j ∧ Below h w3 wq) (fun i _ => k - (intOf i).toNat)
      case atStart => exact ⟨0, Nat.zero_le _, rfl, hfs, hb4⟩
      case round =>
        clear hfs hb4
        obtain ⟨j, hj, rfl, hfs, hQ⟩ := hrel
        by_cases hjt : j < k
        · have hjl : j < (B.isort keyF fs).length := by rw [HIL.out]; exact hjt
          obtain ⟨e0, e1, e2, e3, e4, _⟩ := own_c HOS.out j hjl _ (List.getElem?_eq_getElem hjl)
          rw [← hQ.cell (p := ⟨gc, j * 6, none⟩) hgc3] at e0
          rw [← hQ.cell (p := ⟨gc, j * 6 + 1, none⟩) hgc3] at e1
          rw [← hQ.cell (p := ⟨gc, j * 6 + 2, none⟩) hgc3] at e2
          rw [← hQ.cell (p := ⟨gc, j * 6 + 3, none⟩) hgc3] at e3
          rw [← hQ.cell (p := ⟨gc, j * 6 + 4, none⟩) hgc3] at e4
          obtain ⟨⟨u0, x0⟩, ⟨u1, x1⟩, ⟨u2, x2⟩, ⟨u3, x3⟩, ⟨u4, x4⟩, hfz, hnx⟩ := hfs.next HIL.out hjt
          have y0 := hfz (j * 5)
          have y1 := hfz (j * 5 + 1)
          have y2 := hfz (j * 5 + 2)
          have y3 := hfz (j * 5 + 3)
          have y4 := hfz (j * 5 + 4)
          have hbn := below_setF hQ (Nat.le_refl h) (j * 5) (B.isort keyF fs)[j]
          obtain ⟨f, hf⟩ : ∃ f, f = (B.isort keyF fs)[j] := ⟨_, rfl⟩
          rw [← hf] at e0 e1 e2 e3 e4 hnx hbn
          unfold World.setF at hnx hbn
          have HNX := Lib.hid hnx
          have HBN := Lib.hid hbn
          clear hnx hbn hfz hfs hf
          go_wp2
          go_roundw
          case rel => exact ⟨j + 1, hjt, by go_num, HNX.out, HBN.out⟩
          case measure => simp [intOf]; omega
        · obtain rfl : j = k := by omega
          have hfin := hfs.full HIL.out
          have hB := Lib.hid (hb1.trans (((HW.out.mono (by have := HGC.out; have := hb1.size; omega)).trans (hb3.mono (by have := HGC.out; have := hb1.size; omega))).trans (hQ.mono (by have := HGC.out; have := hb1.size; omega))))
          have hfin2 := Lib.hid (own_base hfin (show w.heap.size ≤ h by have := HGC.out; have := hb1.size; omega))
          clear hfs hfin
          go_wp2
          go_ret2
          exact ⟨h, j, rfl, hfin2.out, hB.out⟩
end Go.Proofs.Ythgbfidghhlldab
