/- Package prio's contest: step. -/
import Derived.Test.YthgbfidghhlldabPCon5
import Derived.Deep.RegionHeld3
namespace Go.Proofs.Ythgbfidghhlldab
open Go.RowKit Go.Lib
attribute [local go_sem ↓] Go.wp_at_zero Go.wp_at_succ

theorem CS.after {w0 w W2 w3 : World} {C gl go nl n capl capo m : Nat} {vf : Value} {ls xs ls' : List Nat} {os os' : List Int} (hS : CS w0 C vf (.slice (some ⟨gl, 0, none⟩) nl capl) (.slice (some ⟨go, 0, none⟩) n capo) ls os w) (hB : Below w.heap.size w W2)
    (hD : DX W2 (C + 1) gl go nl n capl capo xs os' w3) (h1 : C + 1 ≤ gl) (h2 : C + 1 ≤ go) (htk : xs.take m = ls') (hmn : m ≤ nl) (hm : m = ls'.length) :
    Blk w3 C #[vf, .slice (some ⟨gl, 0, none⟩) nl capl, .slice (some ⟨go, 0, none⟩) n capo] 50 ∧ CS w0 C vf (.slice (some ⟨gl, 0, none⟩) m capl) (.slice (some ⟨go, 0, none⟩) n capo) ls' os' (w3.setCell ⟨C, 1, none⟩ (.slice (some ⟨gl, 0, none⟩) m capl)) := by
  have hB3 : Blk w3 C #[vf, .slice (some ⟨gl, 0, none⟩) nl capl, .slice (some ⟨go, 0, none⟩) n capo] 50 := by
    show w3.heap[C]? = _
    rw [hD.at2.block C (by omega) (by omega)]; exact hS.blk.keep hB
  have hlt := hS.blk.lt
  refine ⟨hB3, blk3_set1 hB3 _, ?_, ?_, ?_, ?_⟩
  · have := own_shrink hD.left hmn
    rw [show (natV xs).take m = natV ls' by rw [← htk]; unfold natV; rw [List.map_take]] at this
    rw [← hm]
    exact this.kept (grown_set w3 C 1 _) (.inr (by simp [Value.ownBlock]; omega))
  · have := hD.lost
    rw [hD.os_len]
    exact this.kept (grown_set w3 C 1 _) (.inr (by simp [Value.ownBlock]; omega))
  · intro g hg e
    simp only [Value.ownBlock, Option.some.injEq] at hg e
    exact hD.ne (hg.trans e.symm)
  · exact ((hS.bel.trans (hB.mono (by omega))).trans (hD.at2.below (by omega) (by omega))).setCell (p := ⟨C, 1, none⟩) (Nat.le_refl _) _

set_option maxRecDepth 100000 in
set_option maxHeartbeats 4000000 in
theorem step_any5 (w0 : World) (C gf n capf k : Nat) (ss : Nat → ByteArray) (y : UInt8) (vl vo : Value) (ls : List Nat) (os : List Int) (w : World)
    (hS : CS w0 C (.slice (some ⟨gf, 0, none⟩) n capf) vl vo ls os w) (hF : Flds n gf ss w) (hgf : gf < C) (hon : os.length = n) (hn : n ≤ 1000000) (hln : ls.length ≤ n) (hl0 : 0 < ls.length) (hls : ∀ i ∈ ls, i < n ∧ k < (ss i).size)
    (hy : ∃ i ∈ ls, B.bt (fl ss) k i = y) (h49 : y = 49 → ∀ i ∈ ls, B.bt (fl ss) k i = 49) :
    Calls Try.prog 23 #[.pointer (some ⟨C, 0, none⟩), .int .i64 k] w fun e w' => e = .returned (.tuple #[]) ∧ ∃ vl', CS w0 C (.slice (some ⟨gf, 0, none⟩) n capf) vl' vo (ls.filter (fun i => B.bt (fl ss) k i == y)) (B.dels (fun i => B.bt (fl ss) k i == y) k ls os) w' := by
  obtain ⟨gl, capl, rfl, hgl1, hgl2⟩ := own_form hS.left (own_not_nil hS.left hl0)
  obtain ⟨go, capo, rfl, hgo1, hgo2⟩ := own_form hS.lost (own_not_nil hS.lost (by omega))
  have hCl := hS.blk.lt
  have hne : gl ≠ go := fun e => hS.apart gl rfl (by rw [e]; rfl)
  have hcap := own_cap hS.left
  rw [hon] at hS ⊢
  obtain ⟨nl, hnl⟩ : ∃ nl, nl = ls.length := ⟨_, rfl⟩
  have CB := Lib.hid (fun (w1 : World) (hb : Below w.heap.size w w1) => bus_any C gf gl n capf capl k ss ls y w1 (hF.below hb (by omega)) (by have := hb.size; omega) ((hS.blk.keep hb).cell 0 _ rfl) ((hS.blk.keep hb).cell 1 _ rfl) (hS.blk.keep hb).lt (fun j h => by
      have := (own_keep5 hS.left hb).cellAt j (by omega)
      rw [this]; unfold natV; simp [h]) (by have := hb.size; omega) hls (by omega) hy h49)
  have hD : ∀ w1, Below w.heap.size w w1 → DX w1 (C + 1) gl go nl n capl capo ls os w1 := fun w1 hb => ⟨At2.refl _ _ _, by rw [hnl]; exact own_keep5 hS.left hb, by have := own_keep5 hS.lost hb; rw [hon] at this; exact this, hne⟩
  have hE : ∀ w1 bc ba bb, Below w.heap.size w w1 → w.heap.size ≤ bc → w.heap.size ≤ ba → w.heap.size ≤ bb → w1.cell? ⟨bc, 0, none⟩ = some (.pointer (some ⟨C, 0, none⟩)) → w1.cell? ⟨ba, 0, none⟩ = some (.int .i64 (k : Int)) → w1.cell? ⟨bb, 0, none⟩ = some (.string (oneB y)) → EV w1 C gf gl go n capf capo k ss y bc ba bb := fun w1 bc ba bb hb h1 h2 h3 e1 e2 e3 =>
    ⟨e1, e2, e3, (hS.blk.keep hb).cell 0 _ rfl, (hS.blk.keep hb).cell 2 _ rfl, hF.below hb (by omega), by omega⟩
  have CD := Lib.hid (fun w1 bc ba bb hb h1 h2 h3 e1 e2 e3 => del_any w1 (C + 1) C gf gl go nl n capf capl capo k ss y bc ba bb ls os w1 (hE w1 bc ba bb hb h1 h2 h3 e1 e2 e3) (hD w1 hb) (by omega) (by omega) hls)
  have HS := Lib.hid hS
  have HNL := Lib.hid hnl
  rw [← hnl] at hS hcap
  clear hE hD hls hy h49 hl0 hln hcap hnl
  have hmf := makeFunc_run
  go_enter Try.func23, Try.ntmps23
  go_wp2_with (go_at_call 32; (with_reducible refine (CB.out _ (((Below.refl _ _).alloc (Nat.le_refl _) _).alloc (by simp) _)).mono ?_); rintro e w1 ⟨rfl, hb1⟩)
  have hB2 : Below w.heap.size w (w1.alloc (.cells #[.string (oneB y)] 9)) := (((((Below.refl w.heap.size w).alloc (Nat.le_refl _) _).alloc (by simp) _).trans (hb1.mono (by simp; omega))).alloc (by have := hb1.size; simp at this; omega) _)
  have b0 : (w1.alloc (.cells #[.string (oneB y)] 9)).cell? ⟨w.heap.size, 0, none⟩ = some (.pointer (some ⟨C, 0, none⟩)) := cell_new (cell_keep hb1 (cell_new (cell_of_new w _ _ 0 _ rfl) _)) _
  have b1 : (w1.alloc (.cells #[.string (oneB y)] 9)).cell? ⟨w.heap.size + 1, 0, none⟩ = some (.int .i64 (k : Int)) := by
    have := cell_of_new (w.alloc (.cells #[.pointer (some ⟨C, 0, none⟩)] 47)) 3 (.int .i64 (k : Int)) 0 _ rfl
    rw [World.size_alloc] at this
    exact cell_new (cell_keep hb1 this) _
  have b2 : (w1.alloc (.cells #[.string (oneB y)] 9)).cell? ⟨w1.heap.size, 0, none⟩ = some (.string (oneB y)) := cell_of_new w1 _ _ 0 _ rfl
  have hz1 : w.heap.size ≤ w1.heap.size := by have := hb1.size; simp at this; omega
  generalize w1.alloc (.cells #[.string (oneB y)] 9) = W2 at *
  generalize w1.heap.size = bb at *
  have c1 := (hS.blk.keep hB2).cell 1 _ rfl
  clear hb1 CB
  have CD2 := Lib.hid (CD.out W2.drew w.heap.size (w.heap.size + 1) bb hB2.drew (Nat.le_refl _) (by omega) hz1 b0 b1 b2)
  have HB2 := Lib.hid hB2
  clear hB2 CD
  go_region_with (go_at_call 33; (with_reducible refine CD2.out.mono ?_); rintro e w3 ⟨m, xs, hm, rfl, hD3, htk, hmn⟩; (have hA := CS.after hS HB2.out.drew hD3 hgl1 hgo1 htk hmn hm); (have f3 := hA.1.free 1); (have c3 := hA.1.cell 1 _ rfl); (have b3 := (hD3.at2.cell (p := ⟨w.heap.size, 0, none⟩) (by show w.heap.size ≠ gl; omega) (by show w.heap.size ≠ go; omega)).trans b0); (have HA := Lib.hid hA.2); clear hA hD3 htk hm)
  all_goals
    go_wp2
    go_end0
    exact ⟨rfl, _, HA.out⟩
end Go.Proofs.Ythgbfidghhlldab
