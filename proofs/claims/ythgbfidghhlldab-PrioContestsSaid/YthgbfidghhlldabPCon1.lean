/- Package prio's contest: its state in memory; bit, begin. -/
import Derived.Test.YthgbfidghhlldabPFields
import Derived.Test.YthgbfidghhlldabPlain
import Derived.Deep.AppendLies
namespace Go.Proofs.Ythgbfidghhlldab
open Go.RowKit Go.Lib
attribute [local go_sem ↓] Go.wp_at_zero Go.wp_at_succ

theorem Try.infoInt : (Try.prog.info? 3).map (fun i => (i.zero, i.size, i.bytes)) = some (some (.int .i64 0), 1, 8) := by kernel_rfl
theorem grown_set (W : World) (b i : Nat) (v : Value) : W.grownBy (W.setCell ⟨b, i, none⟩ v) (some b) :=
  ⟨rfl, rfl, rfl, by show W.heap.size ≤ (W.heap.modify b _).size; simp, fun k _ hk => Below.heap_setCell _ _ _ k (fun e => hk (by rw [e]))⟩
theorem blk3_set1 {w : World} {g : Nat} {a b c : Value} {t : TypeId} (h : Blk w g #[a, b, c] t) (x : Value) : Blk (w.setCell ⟨g, 1, none⟩ x) g #[a, x, c] t := by
  have hlt := h.lt
  have h' : w.heap[g] = .cells #[a, b, c] t (0, 0) := by simpa [Array.getElem?_eq_getElem hlt] using (show w.heap[g]? = _ from h)
  show (w.heap.modify g _)[g]? = _
  rw [Array.getElem?_eq_getElem (by simpa using hlt), Array.getElem_modify_self, h']
  rfl
theorem blk3_set2 {w : World} {g : Nat} {a b c : Value} {t : TypeId} (h : Blk w g #[a, b, c] t) (x : Value) : Blk (w.setCell ⟨g, 2, none⟩ x) g #[a, b, x] t := by
  have hlt := h.lt
  have h' : w.heap[g] = .cells #[a, b, c] t (0, 0) := by simpa [Array.getElem?_eq_getElem hlt] using (show w.heap[g]? = _ from h)
  show (w.heap.modify g _)[g]? = _
  rw [Array.getElem?_eq_getElem (by simpa using hlt), Array.getElem_modify_self, h']
  rfl
def natV (ls : List Nat) : List Value := ls.map fun (i : Nat) => Value.int .i64 (i : Int)
def intV (os : List Int) : List Value := os.map (Value.int .i64)
theorem natV_snoc (ls : List Nat) (i : Nat) : natV (ls ++ [i]) = natV ls ++ [.int .i64 (i : Int)] := by simp [natV]
theorem intV_snoc (os : List Int) (i : Int) : intV (os ++ [i]) = intV os ++ [.int .i64 i] := by simp [intV]
theorem natV_length (ls : List Nat) : (natV ls).length = ls.length := by simp [natV]
theorem intV_length (os : List Int) : (intV os).length = os.length := by simp [intV]
/-- a contest in memory: block C, and two rows of the call's own -/
structure CS (w0 : World) (C : Nat) (vf vl vo : Value) (ls : List Nat) (os : List Int) (w : World) : Prop where
  blk : Blk w C #[vf, vl, vo] 50
  left : w.ownsRow (C + 1) 3 1 vl ls.length (natV ls)
  lost : w.ownsRow (C + 1) 3 1 vo os.length (intV os)
  apart : ∀ g, vl.ownBlock = some g → vo.ownBlock ≠ some g
  bel : Below C w0 w
theorem CS.app_left {w0 w w1 : World} {C : Nat} {vf vl vo : Value} {ls : List Nat} {os : List Int} (h : CS w0 C vf vl vo ls os w) (n i g cap : Nat) (hn : ls.length = n) (o : Obj) (hgr : (w.alloc o).grownBy w1 vl.ownBlock)
    (ho : w1.ownsRow (C + 1) 3 1 (.slice (some ⟨g, 0, none⟩) (n + 1) cap) (n + 1) (natV ls ++ [.int .i64 (i : Int)])) (hat : vl.ownBlock = some g ∨ g = w.heap.size + 1) :
    Blk w1 C #[vf, vl, vo] 50 ∧ CS w0 C vf (.slice (some ⟨g, 0, none⟩) (n + 1) cap) vo (ls ++ [i]) os (w1.setCell ⟨C, 1, none⟩ (.slice (some ⟨g, 0, none⟩) (n + 1) cap)) := by
  have hC := h.blk.lt
  have hl := fun k e => h.left.lt k e
  have hB1 : Blk w1 C #[vf, vl, vo] 50 := by
    show w1.heap[C]? = _
    rw [hgr.block C (by simp; omega) (fun e => by have := hl C e.symm; omega), Below.heap_alloc _ _ _ hC]; exact h.blk
  refine ⟨hB1, blk3_set1 hB1 _, ?_, ?_, ?_, ?_⟩
  · have := ho.kept (grown_set w1 C 1 (.slice (some ⟨g, 0, none⟩) (n + 1) cap)) (.inr (fun e => by have := (ho.lt C e).1; omega))
    rw [natV_snoc, List.length_append, hn]; exact this
  · have h2 := (h.lost.alloc o).kept hgr (by
      cases e : vo.ownBlock with
      | none => exact .inl rfl
      | some b => exact .inr (fun e2 => h.apart b e2.symm e))
    exact h2.kept (grown_set w1 C 1 _) (.inr (fun e => by have := (h2.lt C e).1; omega))
  · intro g' hg' e
    obtain rfl : g = g' := by simpa [Value.ownBlock] using hg'
    rcases hat with hat | rfl
    · exact h.apart g hat e
    · have := (h.lost.lt _ e).2; omega
  · have hb1 : Below C w w1 := ((Below.refl C w).alloc (by omega) o).grown hgr (by simp; omega) (fun k e => by have := (hl k e).1; omega)
    exact h.bel.trans (hb1.setCell (p := ⟨C, 1, none⟩) (Nat.le_refl _) _)
theorem CS.app_lost {w0 w w1 : World} {C : Nat} {vf vl vo : Value} {ls : List Nat} {os : List Int} (h : CS w0 C vf vl vo ls os w) (n : Nat) (i : Int) (g cap : Nat) (hn : os.length = n) (o : Obj) (hgr : (w.alloc o).grownBy w1 vo.ownBlock)
    (ho : w1.ownsRow (C + 1) 3 1 (.slice (some ⟨g, 0, none⟩) (n + 1) cap) (n + 1) (intV os ++ [.int .i64 i])) (hat : vo.ownBlock = some g ∨ g = w.heap.size + 1) :
    Blk w1 C #[vf, vl, vo] 50 ∧ CS w0 C vf vl (.slice (some ⟨g, 0, none⟩) (n + 1) cap) ls (os ++ [i]) (w1.setCell ⟨C, 2, none⟩ (.slice (some ⟨g, 0, none⟩) (n + 1) cap)) := by
  have hC := h.blk.lt
  have hl := fun k e => h.lost.lt k e
  have hB1 : Blk w1 C #[vf, vl, vo] 50 := by
    show w1.heap[C]? = _
    rw [hgr.block C (by simp; omega) (fun e => by have := hl C e.symm; omega), Below.heap_alloc _ _ _ hC]; exact h.blk
  refine ⟨hB1, blk3_set2 hB1 _, ?_, ?_, ?_, ?_⟩
  · have h2 := (h.left.alloc o).kept hgr (by
      cases e : vl.ownBlock with
      | none => exact .inl rfl
      | some b => exact .inr (fun e2 => h.apart b e e2.symm))
    exact h2.kept (grown_set w1 C 2 _) (.inr (fun e => by have := (h2.lt C e).1; omega))
  · have := ho.kept (grown_set w1 C 2 (.slice (some ⟨g, 0, none⟩) (n + 1) cap)) (.inr (fun e => by have := (ho.lt C e).1; omega))
    rw [intV_snoc, List.length_append, hn]; exact this
  · intro g' hg' e
    obtain rfl : g = g' := by simpa [Value.ownBlock] using e
    rcases hat with hat | rfl
    · exact h.apart g hg' hat
    · have := (h.left.lt _ hg').2; omega
  · have hb1 : Below C w w1 := ((Below.refl C w).alloc (by omega) o).grown hgr (by simp; omega) (fun k e => by have := (hl k e).1; omega)
    exact h.bel.trans (hb1.setCell (p := ⟨C, 2, none⟩) (Nat.le_refl _) _)

set_option maxRecDepth 100000 in
set_option maxHeartbeats 1000000 in
theorem bit_any (C gf n capf i k : Nat) (s : ByteArray) (w : World) (hC : w.cell? ⟨C, 0, none⟩ = some (.slice (some ⟨gf, 0, none⟩) n capf)) (hi : i < n) (hs : w.cell? ⟨gf, i, none⟩ = some (.string s)) (hk : k < s.size) (h32 : s.size ≤ 32) :
    Calls Try.prog 35 #[.pointer (some ⟨C, 0, none⟩), .int .i64 i, .int .i64 k] w fun e w' => e = .returned (.string (s.extract k (k + 1))) ∧ w = w' := by
  go_enter Try.func35, Try.ntmps35
  go_wp2
  go_ret
  exact ⟨rfl, rfl⟩

set_option maxRecDepth 100000 in
set_option maxHeartbeats 4000000 in
theorem begin_any (gf n capf : Nat) (w : World) (hn : n ≤ 1000000) :
    Calls Try.prog 22 #[.slice (some ⟨gf, 0, none⟩) n capf] w fun e w' => ∃ vl vo, e = .returned (.pointer (some ⟨w.heap.size, 0, none⟩)) ∧ CS w w.heap.size (.slice (some ⟨gf, 0, none⟩) n capf) vl vo (List.range n) (List.replicate n (-1)) w' := by
  obtain ⟨i0, hi, hz0, hz1, hz2⟩ := info_parts Try.infoInt
  obtain ⟨C, hC⟩ : ∃ C, C = w.heap.size := ⟨_, rfl⟩
  have h0 : CS w C (.slice (some ⟨gf, 0, none⟩) n capf) (.slice none 0 0) (.slice none 0 0) (List.range 0) (List.replicate 0 (-1)) (w.alloc (.cells #[.slice (some ⟨gf, 0, none⟩) n capf, .slice none 0 0, .slice none 0 0] 50)) :=
    ⟨blk_new _ _ _ _ hC, ⟨by simp [natV], .inl ⟨rfl, rfl⟩⟩, ⟨by simp [intV], .inl ⟨rfl, rfl⟩⟩, fun g e => by simp [Value.ownBlock] at e, by rw [hC]; exact (Below.refl _ _).alloc (Nat.le_refl _) _⟩
  go_enter Try.func22, Try.ntmps22
  go_wp2
  rw [← hC]
  have HC := Lib.hid hC
  clear hC
  go_loopw [10] (fun i wr => ∃ (k : Nat) (vl vo : Value), k ≤ n ∧ i = .int .i64 k ∧ CS w C (.slice (some ⟨gf, 0, none⟩) n capf) vl vo (List.range k) (List.replicate k (-1)) wr) (fun i _ => n - (intOf i).toNat)
  case atStart => exact ⟨0, _, _, Nat.zero_le _, rfl, h0⟩
  case round =>
    clear h0
    obtain ⟨k, vl, vo, hk, rfl, h⟩ := hrel
    by_cases hlt : k < n
    · have c1 := h.blk.cell 1 _ rfl
      have c2 := h.blk.cell 2 _ rfl
      have f1 := h.blk.free 1
      have f2 := h.blk.free 2
      have hl := h.left
      have HH := Lib.hid h
      clear h
      go_wp2_with (at_builtin; refine wpList_append_lies _ rfl (.tmp 17) (.tmp 19) 34 rfl (C + 1) 3 i0 (.int .i64 0) 1 8 Try.underlying34 hi hz0 hz1 hz2 rfl (by decide) _ _ _ rfl (hl.alloc _) ⟨wr.heap.size, 0, none⟩ 1 1 [.int .i64 (k : Int)] rfl rfl ?c1 ?c2 (by decide) ?c3 ?c4 ?c5 _ rfl ?_)
      case c1 => intro j u hu; exact cell_of_new _ _ _ j u hu
      case c2 => intro u hu; simp at hu; subst hu; rfl
      case c3 => rw [List.length_range]; unfold maxLen; omega
      case c4 => rw [List.length_range]; omega
      case c5 => have := HH.out.blk.lt; simp; omega
      intro g1 cap1 w1 ho1 hgr1 hat1 hg1
      replace hat1 : vl.ownBlock = some g1 ∨ g1 = wr.heap.size + 1 := by rcases hat1 with e | e; exact .inl e; exact .inr (by simpa using e)
      obtain ⟨hB1, h1⟩ := HH.out.app_left k k g1 cap1 (by simp) _ hgr1 ho1 hat1
      have e1 := hB1.cell 1 vl rfl
      have e2 := hB1.free 1
      have e3 := hB1.cell 2 vo rfl
      have e4 := hB1.free 2
      clear hl hgr1 ho1 hat1 c1 c2 f1 f2 hB1 HH
      have H1 := Lib.hid h1
      have hl := h1.lost
      clear h1
      go_wp2_with (at_builtin; refine wpList_append_lies _ rfl (.tmp 27) (.tmp 28) 34 rfl (C + 1) 3 i0 (.int .i64 0) 1 8 Try.underlying34 hi hz0 hz1 hz2 rfl (by decide) _ _ _ rfl (hl.alloc _) ⟨w1.heap.size, 0, none⟩ 1 1 [.int .i64 (-1)] rfl rfl ?d1 ?d2 (by decide) ?d3 ?d4 ?d5 _ rfl ?_)
      case d1 => intro j u hu; have := cell_of_new (w1.setCell ⟨C, 1, none⟩ (.slice (some ⟨g1, 0, none⟩) (k + 1) cap1)) 3 _ j u hu; rwa [show (w1.setCell ⟨C, 1, none⟩ (.slice (some ⟨g1, 0, none⟩) (k + 1) cap1)).heap.size = w1.heap.size by simp] at this
      case d2 => intro u hu; simp at hu; subst hu; rfl
      case d3 => rw [List.length_replicate]; unfold maxLen; omega
      case d4 => rw [List.length_replicate]; omega
      case d5 => have := H1.out.blk.lt; simp at this; simp; omega
      intro g2 cap2 w2 ho2 hgr2 hat2 hg2
      replace hat2 : vo.ownBlock = some g2 ∨ g2 = (w1.setCell ⟨C, 1, none⟩ (.slice (some ⟨g1, 0, none⟩) (k + 1) cap1)).heap.size + 1 := by rcases hat2 with e | e; exact .inl e; exact .inr (by simpa using e)
      obtain ⟨hB2, h2⟩ := H1.out.app_lost k (-1) g2 cap2 (by simp) _ hgr2 ho2 hat2
      have e5 := hB2.cell 2 vo rfl
      have e6 := hB2.free 2
      clear hl hgr2 ho2 hat2 e1 e2 e3 e4 hB2 H1
      rw [← List.range_succ, ← List.replicate_succ'] at h2
      have H2 := Lib.hid h2
      clear h2
      go_wp2
      go_roundw
      case rel => exact ⟨k + 1, _, _, hlt, by go_num, H2.out⟩
      case measure => simp [intOf]; omega
    · obtain rfl : k = n := by omega
      go_wp2
      go_ret
      exact ⟨_, _, by rw [HC.out]; rfl, by rw [HC.out] at h; exact h⟩
end Go.Proofs.Ythgbfidghhlldab
