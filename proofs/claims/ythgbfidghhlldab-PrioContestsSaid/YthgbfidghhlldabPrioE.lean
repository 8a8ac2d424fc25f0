/- The reference's Same (layer 5). -/
import Derived.Test.YthgbfidghhlldabJ2
import Derived.BigQuiet
import Derived.Laws.StructEq
namespace Go.Proofs.Ythgbfidghhlldab
open Go.RowKit Go.Lib

theorem FX.ext' {a b : FX} (h0 : a.id = b.id) (h1 : a.ext = b.ext) (h2 : a.rem = b.rem) (h3 : a.dlc = b.dlc) (h4 : a.data = b.data) : a = b := by cases a; cases b; simp_all
instance : DecidableEq FX := fun a b =>
  if h : a.id = b.id ∧ a.ext = b.ext ∧ a.rem = b.rem ∧ a.dlc = b.dlc ∧ a.data = b.data then isTrue (FX.ext' h.1 h.2.1 h.2.2.1 h.2.2.2.1 h.2.2.2.2) else isFalse (fun e => h (by subst e; exact ⟨rfl, rfl, rfl, rfl, rfl⟩))
set_option maxRecDepth 100000 in
theorem run_neq_fr (x y : FX) (w : World) : (binOp .neq 25 (.agg (frV x.id x.ext x.rem x.dlc x.data)) (.agg (frV y.id y.ext y.rem y.dlc y.data))).run Try.prog w = .ok (.bool (!(decide (x = y)))) w := by
  go_simp
  by_cases h : x = y
  · subst h; simp
  · rw [decide_eq_false h]
    repeat' split
    · rename_i h0 h1 h2 h3 h4
      exact absurd (FX.ext' (Int.ofNat_inj.1 h0) h1 h2 h3 (ByteArray.ext (Array.toList_inj.1 (by rwa [ByteArray.toList_eq, ByteArray.toList_eq] at h4)))) h
    all_goals rfl
attribute [local go_sem ↓] run_neq_fr
set_option maxRecDepth 100000 in
set_option maxHeartbeats 4000000 in
theorem refsame_any (g o cap g' o' cap' : Nat) (fs gs : List FX) (w : World) (hn : fs.length ≤ 1000000) (hn' : gs.length ≤ 1000000) (hc : RowF w g o fs) (hg : g < w.heap.size) (hc' : RowF w g' o' gs) (hg' : g' < w.heap.size) :
    Calls Try.prog 14 #[.slice (some ⟨g, o, none⟩) fs.length cap, .slice (some ⟨g', o', none⟩) gs.length cap'] w fun e w' => e = .returned (.bool (decide (fs = gs))) ∧ Below w.heap.size w w' := by
  by_cases hl : fs.length = gs.length
  · go_enter Try.func14, Try.ntmps14
    go_wp2
    go_loopw [13] (fun i wr => ∃ k : Nat, k ≤ fs.length ∧ i = .int .i64 k ∧ Hid (fs.take k = gs.take k) ∧ Below w.heap.size w wr) (fun i _ => fs.length - (intOf i).toNat)
    case atStart => exact ⟨0, Nat.zero_le _, rfl, Lib.hid rfl, Below.refl _ _⟩
    case round =>
      obtain ⟨k, hk, rfl, HT, hW⟩ := hrel
      by_cases hlt : k < fs.length
      · obtain ⟨c0, c1, c2, c3, c4⟩ := hc.below hW hg k hlt
        have hlt' : k < gs.length := by omega
        obtain ⟨d0, d1, d2, d3, d4⟩ := hc'.below hW hg' k hlt'
        obtain ⟨x, hx⟩ : ∃ x, x = fs[k] := ⟨_, rfl⟩
        obtain ⟨y, hy⟩ : ∃ y, y = gs[k] := ⟨_, rfl⟩
        rw [← hx] at c0 c1 c2 c3 c4
        rw [← hy] at d0 d1 d2 d3 d4
        by_cases he : x = y
        · have hd : decide (x = y) = true := decide_eq_true he
          have HN := Lib.hid (show fs.take (k + 1) = gs.take (k + 1) by
            rw [List.take_succ_eq_append_getElem hlt, List.take_succ_eq_append_getElem hlt', HT.out, ← hx, ← hy, he])
          clear hx hy he
          go_wp2_with fail
          go_quiet (fail)
          rename_i nq
          replace hW := below_drewN hW nq
          generalize wr.drewN nq = wq at *
          go_wp2
          go_roundw
          case rel => exact ⟨k + 1, hlt, by go_num, HN, hW⟩
          case measure => simp [intOf]; omega
        · have hd : decide (x = y) = false := decide_eq_false he
          have HB := Lib.hid (show false = decide (fs = gs) by
            rw [decide_eq_false]; intro h; subst h; exact he (hx.trans hy.symm))
          clear hx hy he
          go_wp2_with fail
          go_quiet (fail)
          rename_i nq
          replace hW := below_drewN hW nq
          generalize wr.drewN nq = wq at *
          go_wp2
          go_ret
          exact ⟨ret_bool HB.out, hW⟩
      · have HB := Lib.hid (show true = decide (fs = gs) by
          have := HT.out
          rw [List.take_of_length_le (by omega), List.take_of_length_le (by omega)] at this
          rw [decide_eq_true this])
        go_wp2
        go_ret
        exact ⟨ret_bool HB.out, hW⟩
  · have HB := Lib.hid (show false = decide (fs = gs) by
      rw [decide_eq_false]; intro h; subst h; exact hl rfl)
    have hl' : ¬ (fs.length : Int) = gs.length := by omega
    go_enter Try.func14, Try.ntmps14
    go_wp2
    go_ret
    exact ⟨ret_bool HB.out, Below.refl _ _⟩
end Go.Proofs.Ythgbfidghhlldab
