/- The walk of the law BitsRows, where no rows came in. -/
import Derived.Test.YtfnofajglbjgjaaRowsHead
namespace Go.Proofs.Ytfnofajglbjgjaa
open Go.RowKit Go.Lib

set_option maxRecDepth 100000 in
set_option maxHeartbeats 4000000 in
theorem rowsLaw_nil_wrong0 (A1 : Option Addr) (n1 c1 : Nat) (w : World)
    (cs : List ByteArray) (hcs : cs = []) (s : ByteArray) (hs : cutS ⟨(Lib.join (cs.map (·.data.toList)) []).toArray⟩ 300 = s)
    (m1 : Nat) (hm1 : min (n1 : Int) 20 = (m1 : Int)) (_hn1 : n1 ≤ c1) (zs : List Int) (hini : InI w A1 m1 zs) (hr : B.right s = false) (hm10 : m1 = 0) :
    Calls Try.prog 4 #[.slice none 0 0, .slice A1 n1 c1] w fun e w' => e = .returned (.bool true) ∧ Below w.heap.size w w' := by
  have hm1n : m1 ≤ n1 := by omega
  have HINI := Lib.hid hini
  clear hini
  obtain ⟨i0, hi, hz0, hz1, hz2⟩ := info_parts Try.info9
  obtain ⟨B0, hB⟩ : ∃ b, b = w.heap.size := ⟨_, rfl⟩
  have hlit := World.ownsRow_lit (base := w.heap.size) (e := 9) (size := 1) w #[] 0 (Nat.le_refl _) (by simp) (by simp)
  rw [← hB] at hlit ⊢
  have HB := Lib.hid hB
  have HLIT := Lib.hid hlit
  clear hB hlit
  go_enter Try.func4, Try.ntmps4
  go_wp2_with (at_builtin; refine wpList_append_own_none rfl (.tmp 19) (.tmp 24) 34 rfl B0 9 i0 1 Try.underlying34 hi _ 0 [] rfl (by rw [← HB.out]; exact HLIT.out) rfl ?_)
  have hG : Hid (Below B0 w (w.alloc (.cells #[] 9))) := Lib.hid ((Below.refl B0 w).alloc (by rw [HB.out]; exact Nat.le_refl _) _)
  have hgr : w.heap.size < (w.alloc (.cells #[] 9)).heap.size := by simp
  clear HLIT
  generalize w.alloc (.cells #[] 9) = wr at *
  have hcl : cs.length = 0 := by rw [hcs]; rfl
  have ha : B.alike cs = false := by rw [hcs]; rfl
  have hcz : ∀ s ∈ cs, s.size ≤ 300 := by rw [hcs]; intro s h; cases h
  have hRow : RowS wr w.heap.size cs := by rw [hcs]; intro i h; exact absurd h (by simp)
  refine wp_loop_rounds 1 ?_
  rw [rounds_succ]
  have hcz' : ∀ s ∈ cs, s.size ≤ maxLen := fun s hs => by have := hcz s hs; unfold maxLen; omega
  have hcm : cs.length ≤ maxLen := by unfold maxLen; omega
  have C17 := and_no w.heap.size 0 cs wr hcm hcz' hRow ha
  have C19 := fun (w' : World) (h1 : RowS w' w.heap.size cs) (h2 : w.heap.size < w'.heap.size) => join_any w.heap.size 0 cs w' h1 h2 (by omega) hcz (by omega)
  rw [hcl] at C17 C19
  obtain ⟨J, hJ⟩ : ∃ J : ByteArray, ⟨(Lib.join (cs.map (·.data.toList)) []).toArray⟩ = J := ⟨_, rfl⟩
  rw [hJ] at C19 hs
  have C16 := fun w => short_any J w
  rw [hs] at C16
  have C17 := Lib.hid C17
  have C19 := Lib.hid C19
  have C16 := Lib.hid C16
  have hsz : s.size ≤ 300 := by rw [← hs]; have : (cutS J 300).size = min 300 J.size := cutS_size J 300; omega
  have hsm : s.size ≤ maxLen := by unfold maxLen; omega
  have hB : Below wr.heap.size wr wr := Below.refl _ _
  have CF := Lib.hid (fun (w' : World) => flip_wrong s A1 0 c1 w' hsm hr)
  have CR := Lib.hid (fun (w' : World) => runs_no s w' hsm hr)
  have HROW := Lib.hid hRow
  clear hRow hcz' hcm hs hJ hcz hcl hcs ha
  go_wp2_with (first | (go_at_call 17; (with_reducible refine C17.out.mono ?_); rintro e w2 ⟨rfl, rfl⟩) | (go_at_call 19; (with_reducible refine (C19.out _ (HROW.out.below hB hgr) (Nat.lt_of_lt_of_le hgr hB.size)).mono ?_); rintro e w2 ⟨rfl, hb2⟩; replace hB := hB.trans (hb2.mono hB.size)) | (go_at_call 16; (with_reducible refine (C16.out _).mono ?_); rintro e w2 ⟨rfl, rfl⟩) | (go_at_call 20; (with_reducible refine (CF.out _).mono ?_); rintro e w2 ⟨rfl, rfl⟩) | (go_at_call 21; (with_reducible refine (CR.out _).mono ?_); rintro e w2 ⟨rfl, rfl⟩) | (go_at_call 12; (with_reducible refine (refright_any _ _ hsm).mono ?_); rintro e w2 ⟨rfl, rfl⟩))
  refine wp_loop_rounds 1 ?_
  rw [rounds_succ]
  go_wp2_with (first | (go_at_call 12; (with_reducible refine (refright_any _ _ hsm).mono ?_); rintro e w2 ⟨rfl, rfl⟩) | (go_at_call 13; (with_reducible refine (alive_any _).mono ?_); rintro e w2 ⟨rfl, hb2⟩; replace hB := hB.trans (hb2.mono hB.size)))
  go_ret
  exact ⟨rfl, hG.out.trans (hB.mono (by have := hG.out.size; have := HB.out; omega))⟩

set_option maxRecDepth 100000 in
set_option maxHeartbeats 4000000 in
theorem rowsLaw_nil_wrong1 (A1 : Option Addr) (n1 c1 : Nat) (w : World)
    (cs : List ByteArray) (hcs : cs = []) (s : ByteArray) (hs : cutS ⟨(Lib.join (cs.map (·.data.toList)) []).toArray⟩ 300 = s)
    (m1 : Nat) (hm1 : min (n1 : Int) 20 = (m1 : Int)) (_hn1 : n1 ≤ c1) (zs : List Int) (hini : InI w A1 m1 zs) (hr : B.right s = false) (hm10 : 0 < m1) :
    Calls Try.prog 4 #[.slice none 0 0, .slice A1 n1 c1] w fun e w' => e = .returned (.bool true) ∧ Below w.heap.size w w' := by
  have hm1n : m1 ≤ n1 := by omega
  have HINI := Lib.hid hini
  clear hini
  obtain ⟨i0, hi, hz0, hz1, hz2⟩ := info_parts Try.info9
  obtain ⟨B0, hB⟩ : ∃ b, b = w.heap.size := ⟨_, rfl⟩
  have hlit := World.ownsRow_lit (base := w.heap.size) (e := 9) (size := 1) w #[] 0 (Nat.le_refl _) (by simp) (by simp)
  rw [← hB] at hlit ⊢
  have HB := Lib.hid hB
  have HLIT := Lib.hid hlit
  clear hB hlit
  go_enter Try.func4, Try.ntmps4
  go_wp2_with (at_builtin; refine wpList_append_own_none rfl (.tmp 19) (.tmp 24) 34 rfl B0 9 i0 1 Try.underlying34 hi _ 0 [] rfl (by rw [← HB.out]; exact HLIT.out) rfl ?_)
  have hG : Hid (Below B0 w (w.alloc (.cells #[] 9))) := Lib.hid ((Below.refl B0 w).alloc (by rw [HB.out]; exact Nat.le_refl _) _)
  have hgr : w.heap.size < (w.alloc (.cells #[] 9)).heap.size := by simp
  clear HLIT
  generalize w.alloc (.cells #[] 9) = wr at *
  have hcl : cs.length = 0 := by rw [hcs]; rfl
  have ha : B.alike cs = false := by rw [hcs]; rfl
  have hcz : ∀ s ∈ cs, s.size ≤ 300 := by rw [hcs]; intro s h; cases h
  have hRow : RowS wr w.heap.size cs := by rw [hcs]; intro i h; exact absurd h (by simp)
  refine wp_loop_rounds 1 ?_
  rw [rounds_succ]
  have hcz' : ∀ s ∈ cs, s.size ≤ maxLen := fun s hs => by have := hcz s hs; unfold maxLen; omega
  have hcm : cs.length ≤ maxLen := by unfold maxLen; omega
  have C17 := and_no w.heap.size 0 cs wr hcm hcz' hRow ha
  have C19 := fun (w' : World) (h1 : RowS w' w.heap.size cs) (h2 : w.heap.size < w'.heap.size) => join_any w.heap.size 0 cs w' h1 h2 (by omega) hcz (by omega)
  rw [hcl] at C17 C19
  obtain ⟨J, hJ⟩ : ∃ J : ByteArray, ⟨(Lib.join (cs.map (·.data.toList)) []).toArray⟩ = J := ⟨_, rfl⟩
  rw [hJ] at C19 hs
  have C16 := fun w => short_any J w
  rw [hs] at C16
  have C17 := Lib.hid C17
  have C19 := Lib.hid C19
  have C16 := Lib.hid C16
  have hsz : s.size ≤ 300 := by rw [← hs]; have : (cutS J 300).size = min 300 J.size := cutS_size J 300; omega
  have hsm : s.size ≤ maxLen := by unfold maxLen; omega
  have hB : Below wr.heap.size wr wr := Below.refl _ _
  have CF := Lib.hid (fun (w' : World) => flip_wrong s A1 m1 c1 w' hsm hr)
  have CR := Lib.hid (fun (w' : World) => runs_no s w' hsm hr)
  obtain ⟨bA, off, rfl, hbA, hRI⟩ := HINI.out.2 hm10
  have hx := hRI 0 (by rw [HINI.out.1]; exact hm10)
  rw [Nat.add_zero] at hx
  have HX := Lib.hid hx
  clear hRI hx
  have HROW := Lib.hid hRow
  clear hRow hcz' hcm hs hJ hcz hcl hcs ha
  go_wp2_with (first | (go_at_call 17; (with_reducible refine C17.out.mono ?_); rintro e w2 ⟨rfl, rfl⟩) | (go_at_call 19; (with_reducible refine (C19.out _ (HROW.out.below hB hgr) (Nat.lt_of_lt_of_le hgr hB.size)).mono ?_); rintro e w2 ⟨rfl, hb2⟩; replace hB := hB.trans (hb2.mono hB.size)) | (go_at_call 16; (with_reducible refine (C16.out _).mono ?_); rintro e w2 ⟨rfl, rfl⟩) | (go_at_call 20; (with_reducible refine (CF.out _).mono ?_); rintro e w2 ⟨rfl, rfl⟩) | (go_at_call 21; (with_reducible refine (CR.out _).mono ?_); rintro e w2 ⟨rfl, rfl⟩) | (go_at_call 12; (with_reducible refine (refright_any _ _ hsm).mono ?_); rintro e w2 ⟨rfl, rfl⟩))
  have hx : w2.cell? ⟨bA, off, none⟩ = some (.int .i64 (zs.getD 0 0)) := by rw [hB.cell (p := ⟨bA, off, none⟩) (by show bA < _; have := hG.out.size; omega), hG.out.cell (p := ⟨bA, off, none⟩) (by show bA < _; rw [HB.out]; exact hbA)]; exact HX.out
  have hm1' : (0 : Int) < m1 := by omega
  refine wp_loop_rounds 1 ?_
  rw [rounds_succ]
  go_wp2_with (first | (go_at_call 12; (with_reducible refine (refright_any _ _ hsm).mono ?_); rintro e w2 ⟨rfl, rfl⟩) | (go_at_call 13; (with_reducible refine (alive_any _).mono ?_); rintro e w2 ⟨rfl, hb2⟩; replace hB := hB.trans (hb2.mono hB.size)))
  go_ret
  exact ⟨rfl, hG.out.trans (hB.mono (by have := hG.out.size; have := HB.out; omega))⟩

set_option maxRecDepth 100000 in
set_option maxHeartbeats 4000000 in
theorem rowsLaw_nil_none (A1 : Option Addr) (n1 c1 : Nat) (w : World)
    (cs : List ByteArray) (hcs : cs = []) (s : ByteArray) (hs : cutS ⟨(Lib.join (cs.map (·.data.toList)) []).toArray⟩ 300 = s)
    (m1 : Nat) (hm1 : min (n1 : Int) 20 = (m1 : Int)) (_hn1 : n1 ≤ c1) (zs : List Int) (hini : InI w A1 m1 zs) (hr : B.right s = true) (hm10 : m1 = 0) :
    Calls Try.prog 4 #[.slice none 0 0, .slice A1 n1 c1] w fun e w' => e = .returned (.bool true) ∧ Below w.heap.size w w' := by
  have hm1n : m1 ≤ n1 := by omega
  have HINI := Lib.hid hini
  clear hini
  obtain ⟨i0, hi, hz0, hz1, hz2⟩ := info_parts Try.info9
  obtain ⟨B0, hB⟩ : ∃ b, b = w.heap.size := ⟨_, rfl⟩
  have hlit := World.ownsRow_lit (base := w.heap.size) (e := 9) (size := 1) w #[] 0 (Nat.le_refl _) (by simp) (by simp)
  rw [← hB] at hlit ⊢
  have HB := Lib.hid hB
  have HLIT := Lib.hid hlit
  clear hB hlit
  go_enter Try.func4, Try.ntmps4
  go_wp2_with (at_builtin; refine wpList_append_own_none rfl (.tmp 19) (.tmp 24) 34 rfl B0 9 i0 1 Try.underlying34 hi _ 0 [] rfl (by rw [← HB.out]; exact HLIT.out) rfl ?_)
  have hG : Hid (Below B0 w (w.alloc (.cells #[] 9))) := Lib.hid ((Below.refl B0 w).alloc (by rw [HB.out]; exact Nat.le_refl _) _)
  have hgr : w.heap.size < (w.alloc (.cells #[] 9)).heap.size := by simp
  clear HLIT
  generalize w.alloc (.cells #[] 9) = wr at *
  have hcl : cs.length = 0 := by rw [hcs]; rfl
  have ha : B.alike cs = false := by rw [hcs]; rfl
  have hcz : ∀ s ∈ cs, s.size ≤ 300 := by rw [hcs]; intro s h; cases h
  have hRow : RowS wr w.heap.size cs := by rw [hcs]; intro i h; exact absurd h (by simp)
  refine wp_loop_rounds 1 ?_
  rw [rounds_succ]
  have hcz' : ∀ s ∈ cs, s.size ≤ maxLen := fun s hs => by have := hcz s hs; unfold maxLen; omega
  have hcm : cs.length ≤ maxLen := by unfold maxLen; omega
  have C17 := and_no w.heap.size 0 cs wr hcm hcz' hRow ha
  have C19 := fun (w' : World) (h1 : RowS w' w.heap.size cs) (h2 : w.heap.size < w'.heap.size) => join_any w.heap.size 0 cs w' h1 h2 (by omega) hcz (by omega)
  rw [hcl] at C17 C19
  obtain ⟨J, hJ⟩ : ∃ J : ByteArray, ⟨(Lib.join (cs.map (·.data.toList)) []).toArray⟩ = J := ⟨_, rfl⟩
  rw [hJ] at C19 hs
  have C16 := fun w => short_any J w
  rw [hs] at C16
  have C17 := Lib.hid C17
  have C19 := Lib.hid C19
  have C16 := Lib.hid C16
  have hsz : s.size ≤ 300 := by rw [← hs]; have : (cutS J 300).size = min 300 J.size := cutS_size J 300; omega
  have hsm : s.size ≤ maxLen := by unfold maxLen; omega
  have hB : Below wr.heap.size wr wr := Below.refl _ _
  have CF := Lib.hid (fun (w' : World) => flip_none s A1 c1 w' hr)
  obtain ⟨rr, hrr⟩ : ∃ rr, rr = B.runsOf s.data.toList := ⟨_, rfl⟩
  have CR := fun (w' : World) => runs_yes s w' hr
  have CRR := fun (w' : World) => refruns_any s w' (by omega)
  rw [← hrr] at CR CRR
  have hn2 : rr.length ≤ 4000 := by rw [hrr]; have := B.runs_le s.data.toList; rw [B.size_len] at this; omega
  obtain ⟨n2, hn2'⟩ : ∃ n2, n2 = rr.length := ⟨_, rfl⟩
  rw [← hn2'] at hn2
  have HN2 := Lib.hid hn2'
  have CR := Lib.hid CR
  have CRR := Lib.hid CRR
  clear hrr hn2'
  have HROW := Lib.hid hRow
  clear hRow hcz' hcm hs hJ hcz hcl hcs ha
  go_wp2_with (first | (go_at_call 17; (with_reducible refine C17.out.mono ?_); rintro e w2 ⟨rfl, rfl⟩) | (go_at_call 19; (with_reducible refine (C19.out _ (HROW.out.below hB hgr) (Nat.lt_of_lt_of_le hgr hB.size)).mono ?_); rintro e w2 ⟨rfl, hb2⟩; replace hB := hB.trans (hb2.mono hB.size)) | (go_at_call 16; (with_reducible refine (C16.out _).mono ?_); rintro e w2 ⟨rfl, rfl⟩) | (go_at_call 20; (with_reducible refine (CF.out _).mono ?_); rintro e w2 ⟨rfl, hb2⟩; replace hB := hB.trans (hb2.mono hB.size)))
  refine (CR.out _).mono ?_
  rintro e wa ⟨v, rfl, ho, hb2⟩
  obtain ⟨A2, c2, rfl, hS2⟩ := own_runs ho
  rw [← show n2 = _ from HN2.out]
  have HS2 := Lib.hid hS2
  replace hB := hB.trans (hb2.mono hB.size)
  replace hG := Lib.hid (hG.out.trans (hB.mono (by have := hG.out.size; have := HB.out; omega)))
  clear ho hS2 hB hb2
  have hB : Below wa.heap.size wa wa := Below.refl _ _
  go_wp2_with (first | (go_at_call 12; (with_reducible refine (refright_any _ _ hsm).mono ?_); rintro e w2 ⟨rfl, rfl⟩) | (go_at_call 13; (with_reducible refine (alive_any _).mono ?_); rintro e w2 ⟨rfl, hb2⟩; replace hB := hB.trans (hb2.mono hB.size)) | (go_at_call 24; (with_reducible refine (CRR.out _).mono ?_); rintro e w2 ⟨v, rfl, ho, hb2⟩; replace hB := hB.trans (hb2.mono hB.size); obtain ⟨A3, c3, rfl, hS3⟩ := own_runs ho; rw [← show n2 = _ from HN2.out]; clear ho; have HS3 := Lib.hid hS3; clear hS3) | (go_at_call 23; (with_reducible refine (same_any _ _ _ _ n2 rr _ HN2.out hn2 (HS2.out.below hB) HS3.out).mono ?_); rintro e w2 ⟨rfl, hb2⟩; replace hB := hB.trans (hb2.mono hB.size)))
  refine wp_loop_rounds 1 ?_
  rw [rounds_succ]
  go_wp2_with (first | (go_at_call 12; (with_reducible refine (refright_any _ _ hsm).mono ?_); rintro e w2 ⟨rfl, rfl⟩) | (go_at_call 13; (with_reducible refine (alive_any _).mono ?_); rintro e w2 ⟨rfl, hb2⟩; replace hB := hB.trans (hb2.mono hB.size)) | (go_at_call 24; (with_reducible refine (CRR.out _).mono ?_); rintro e w2 ⟨v, rfl, ho, hb2⟩; replace hB := hB.trans (hb2.mono hB.size); obtain ⟨A3, c3, rfl, hS3⟩ := own_runs ho; rw [← show n2 = _ from HN2.out]; clear ho; have HS3 := Lib.hid hS3; clear hS3) | (go_at_call 23; (with_reducible refine (same_any _ _ _ _ n2 rr _ HN2.out hn2 (HS2.out.below hB) HS3.out).mono ?_); rintro e w2 ⟨rfl, hb2⟩; replace hB := hB.trans (hb2.mono hB.size)))
  go_ret
  exact ⟨rfl, hG.out.trans (hB.mono (by have := hG.out.size; have := HB.out; omega))⟩

set_option maxRecDepth 100000 in
set_option maxHeartbeats 4000000 in
theorem rowsLaw_nil_yes (A1 : Option Addr) (n1 c1 : Nat) (w : World)
    (cs : List ByteArray) (hcs : cs = []) (s : ByteArray) (hs : cutS ⟨(Lib.join (cs.map (·.data.toList)) []).toArray⟩ 300 = s)
    (m1 : Nat) (hm1 : min (n1 : Int) 20 = (m1 : Int)) (_hn1 : n1 ≤ c1) (zs : List Int) (hini : InI w A1 m1 zs) (hr : B.right s = true) (hm10 : 0 < m1) (hp : B.places s.size zs = true) :
    Calls Try.prog 4 #[.slice none 0 0, .slice A1 n1 c1] w fun e w' => e = .returned (.bool true) ∧ Below w.heap.size w w' := by
  have hm1n : m1 ≤ n1 := by omega
  have HINI := Lib.hid hini
  clear hini
  obtain ⟨i0, hi, hz0, hz1, hz2⟩ := info_parts Try.info9
  obtain ⟨B0, hB⟩ : ∃ b, b = w.heap.size := ⟨_, rfl⟩
  have hlit := World.ownsRow_lit (base := w.heap.size) (e := 9) (size := 1) w #[] 0 (Nat.le_refl _) (by simp) (by simp)
  rw [← hB] at hlit ⊢
  have HB := Lib.hid hB
  have HLIT := Lib.hid hlit
  clear hB hlit
  go_enter Try.func4, Try.ntmps4
  go_wp2_with (at_builtin; refine wpList_append_own_none rfl (.tmp 19) (.tmp 24) 34 rfl B0 9 i0 1 Try.underlying34 hi _ 0 [] rfl (by rw [← HB.out]; exact HLIT.out) rfl ?_)
  have hG : Hid (Below B0 w (w.alloc (.cells #[] 9))) := Lib.hid ((Below.refl B0 w).alloc (by rw [HB.out]; exact Nat.le_refl _) _)
  have hgr : w.heap.size < (w.alloc (.cells #[] 9)).heap.size := by simp
  clear HLIT
  generalize w.alloc (.cells #[] 9) = wr at *
  have hcl : cs.length = 0 := by rw [hcs]; rfl
  have ha : B.alike cs = false := by rw [hcs]; rfl
  have hcz : ∀ s ∈ cs, s.size ≤ 300 := by rw [hcs]; intro s h; cases h
  have hRow : RowS wr w.heap.size cs := by rw [hcs]; intro i h; exact absurd h (by simp)
  refine wp_loop_rounds 1 ?_
  rw [rounds_succ]
  have hcz' : ∀ s ∈ cs, s.size ≤ maxLen := fun s hs => by have := hcz s hs; unfold maxLen; omega
  have hcm : cs.length ≤ maxLen := by unfold maxLen; omega
  have C17 := and_no w.heap.size 0 cs wr hcm hcz' hRow ha
  have C19 := fun (w' : World) (h1 : RowS w' w.heap.size cs) (h2 : w.heap.size < w'.heap.size) => join_any w.heap.size 0 cs w' h1 h2 (by omega) hcz (by omega)
  rw [hcl] at C17 C19
  obtain ⟨J, hJ⟩ : ∃ J : ByteArray, ⟨(Lib.join (cs.map (·.data.toList)) []).toArray⟩ = J := ⟨_, rfl⟩
  rw [hJ] at C19 hs
  have C16 := fun w => short_any J w
  rw [hs] at C16
  have C17 := Lib.hid C17
  have C19 := Lib.hid C19
  have C16 := Lib.hid C16
  have hsz : s.size ≤ 300 := by rw [← hs]; have : (cutS J 300).size = min 300 J.size := cutS_size J 300; omega
  have hsm : s.size ≤ maxLen := by unfold maxLen; omega
  have hB : Below wr.heap.size wr wr := Below.refl _ _
  obtain ⟨bA, off, rfl, hbA, hRI⟩ := HINI.out.2 hm10
  have HZL := Lib.hid HINI.out.1
  have CF := fun (w' : World) (h1 : RowI w' bA off zs) (h2 : bA < w'.heap.size) => flip_any s bA off c1 zs w' hr (by rw [HZL.out]; unfold maxLen; omega) h1 h2
  rw [flipEnd_yes hp] at CF
  obtain ⟨T, hT⟩ : ∃ T : ByteArray, ⟨(B.flips s.data.toList zs).toArray⟩ = T := ⟨_, rfl⟩
  rw [hT] at CF
  rw [show zs.length = m1 from HZL.out] at CF
  have CF := Lib.hid CF
  have HRI : Hid (∀ w' : World, Below wr.heap.size wr w' → RowI w' bA off zs ∧ bA < w'.heap.size) := Lib.hid (fun w' hb => by
    have hb0 : bA < wr.heap.size := by have := hG.out.size; omega
    refine ⟨fun i hi => ?_, Nat.lt_of_lt_of_le hb0 hb.size⟩
    rw [hb.cell (p := ⟨bA, off + i, none⟩) hb0, hG.out.cell (p := ⟨bA, off + i, none⟩) (by show bA < _; rw [HB.out]; exact hbA)]
    exact hRI i hi)
  clear hRI
  obtain ⟨rr, hrr⟩ : ∃ rr, rr = B.runsOf s.data.toList := ⟨_, rfl⟩
  have CR := fun (w' : World) => runs_yes s w' hr
  have CRR := fun (w' : World) => refruns_any s w' (by omega)
  rw [← hrr] at CR CRR
  have hn2 : rr.length ≤ 4000 := by rw [hrr]; have := B.runs_le s.data.toList; rw [B.size_len] at this; omega
  obtain ⟨n2, hn2'⟩ : ∃ n2, n2 = rr.length := ⟨_, rfl⟩
  rw [← hn2'] at hn2
  have HN2 := Lib.hid hn2'
  have CR := Lib.hid CR
  have CRR := Lib.hid CRR
  clear hrr hn2'
  have HROW := Lib.hid hRow
  clear hRow hcz' hcm hs hJ hcz hcl hcs ha
  go_wp2_with (first | (go_at_call 17; (with_reducible refine C17.out.mono ?_); rintro e w2 ⟨rfl, rfl⟩) | (go_at_call 19; (with_reducible refine (C19.out _ (HROW.out.below hB hgr) (Nat.lt_of_lt_of_le hgr hB.size)).mono ?_); rintro e w2 ⟨rfl, hb2⟩; replace hB := hB.trans (hb2.mono hB.size)) | (go_at_call 16; (with_reducible refine (C16.out _).mono ?_); rintro e w2 ⟨rfl, rfl⟩) | (go_at_call 20; (with_reducible refine (CF.out _ (HRI.out _ hB).1 (HRI.out _ hB).2).mono ?_); rintro e w2 ⟨rfl, hb2⟩; replace hB := hB.trans (hb2.mono hB.size)))
  refine (CR.out _).mono ?_
  rintro e wa ⟨v, rfl, ho, hb2⟩
  obtain ⟨A2, c2, rfl, hS2⟩ := own_runs ho
  rw [← show n2 = _ from HN2.out]
  have HS2 := Lib.hid hS2
  replace hB := hB.trans (hb2.mono hB.size)
  have HRI2 := Lib.hid (fun (w' : World) (h : Below wa.heap.size wa w') => HRI.out w' (hB.trans (h.mono hB.size)))
  replace hG := Lib.hid (hG.out.trans (hB.mono (by have := hG.out.size; have := HB.out; omega)))
  clear ho hS2 hB hb2
  have hB : Below wa.heap.size wa wa := Below.refl _ _
  go_wp2_with (first | (go_at_call 12; (with_reducible refine (refright_any _ _ hsm).mono ?_); rintro e w2 ⟨rfl, rfl⟩) | (go_at_call 13; (with_reducible refine (alive_any _).mono ?_); rintro e w2 ⟨rfl, hb2⟩; replace hB := hB.trans (hb2.mono hB.size)) | (go_at_call 24; (with_reducible refine (CRR.out _).mono ?_); rintro e w2 ⟨v, rfl, ho, hb2⟩; replace hB := hB.trans (hb2.mono hB.size); obtain ⟨A3, c3, rfl, hS3⟩ := own_runs ho; rw [← show n2 = _ from HN2.out]; clear ho; have HS3 := Lib.hid hS3; clear hS3) | (go_at_call 23; (with_reducible refine (same_any _ _ _ _ n2 rr _ HN2.out hn2 (HS2.out.below hB) HS3.out).mono ?_); rintro e w2 ⟨rfl, hb2⟩; replace hB := hB.trans (hb2.mono hB.size)))
  go_loopw [15, 16, 109] (fun wn bd i wr2 => ∃ k2 : Nat, k2 ≤ m1 ∧ i = .int .i64 k2 ∧ wn = .string (turned s zs k2) ∧ bd = .bool false ∧ B.preP s.size zs k2 ∧ Below wa.heap.size wa wr2) (fun _ _ i _ => m1 - (RowKit.intOf i).toNat)
  case atStart => exact ⟨0, Nat.zero_le _, rfl, by rw [turned_zero], rfl, B.preP_zero _ _, hB⟩
  case round =>
    obtain ⟨k2, hk2, rfl, htu, rfl, hpp, hB⟩ := hrel
    subst htu
    by_cases hl2 : k2 < m1
    · have hkz : k2 < zs.length := by rw [HZL.out]; exact hl2
      have hx := (HRI2.out _ hB).1 k2 hkz
      obtain ⟨z, hz⟩ : ∃ z, zs.getD k2 0 = z := ⟨_, rfl⟩
      rw [hz] at hx
      by_cases hin : 0 ≤ z ∧ z < s.size
      · obtain ⟨h0, h1⟩ := hin
        obtain ⟨j, rfl⟩ := Int.eq_ofNat_of_zero_le h0
        have hjs : j < s.size := by omega
        have hpp' := Lib.hid (B.preP_succ hkz hpp (by rw [hz]; exact h0) (by rw [hz]; exact h1))
        have CT := fun (w' : World) => refturn_any (turned s zs k2) j w' (by rw [turned_size]; exact hjs) (by rw [turned_size]; omega) (turned_right zs k2 hr)
        rw [turned_succ hkz hz] at CT
        have CT := Lib.hid CT
        clear hpp hz
        go_wp2_with (go_at_call 22; (with_reducible refine (CT.out _).mono ?_); rintro e w2 ⟨rfl, hb2⟩; replace hB := hB.trans (hb2.mono hB.size))
        go_roundw
        case rel => exact ⟨k2 + 1, by omega, by go_num, rfl, rfl, hpp'.out, hB⟩
        case measure => simp [RowKit.intOf]; omega
      · exfalso
        have := B.places_bad (n := s.size) hkz (by rw [hz]; exact hin)
        rw [hp] at this
        cases this
    · have HT := Lib.hid (show turned s zs k2 = T by rw [← hT]; unfold turned; rw [List.take_of_length_le (by rw [HZL.out]; omega)])
      rw [HT.out]
      clear hpp
      go_wp2_with (first | (go_at_call 12; (with_reducible refine (refright_any _ _ hsm).mono ?_); rintro e w2 ⟨rfl, rfl⟩) | (go_at_call 13; (with_reducible refine (alive_any _).mono ?_); rintro e w2 ⟨rfl, hb2⟩; replace hB := hB.trans (hb2.mono hB.size)) | (go_at_call 24; (with_reducible refine (CRR.out _).mono ?_); rintro e w2 ⟨v, rfl, ho, hb2⟩; replace hB := hB.trans (hb2.mono hB.size); obtain ⟨A3, c3, rfl, hS3⟩ := own_runs ho; rw [← show n2 = _ from HN2.out]; clear ho; have HS3 := Lib.hid hS3; clear hS3) | (go_at_call 23; (with_reducible refine (same_any _ _ _ _ n2 rr _ HN2.out hn2 (HS2.out.below hB) HS3.out).mono ?_); rintro e w2 ⟨rfl, hb2⟩; replace hB := hB.trans (hb2.mono hB.size)))
      go_ret
      exact ⟨rfl, hG.out.trans (hB.mono (by have := hG.out.size; have := HB.out; omega))⟩

set_option maxRecDepth 100000 in
set_option maxHeartbeats 4000000 in
theorem rowsLaw_nil_bad (A1 : Option Addr) (n1 c1 : Nat) (w : World)
    (cs : List ByteArray) (hcs : cs = []) (s : ByteArray) (hs : cutS ⟨(Lib.join (cs.map (·.data.toList)) []).toArray⟩ 300 = s)
    (m1 : Nat) (hm1 : min (n1 : Int) 20 = (m1 : Int)) (_hn1 : n1 ≤ c1) (zs : List Int) (hini : InI w A1 m1 zs) (hr : B.right s = true) (hm10 : 0 < m1) (hp : B.places s.size zs = false) :
    Calls Try.prog 4 #[.slice none 0 0, .slice A1 n1 c1] w fun e w' => e = .returned (.bool true) ∧ Below w.heap.size w w' := by
  have hm1n : m1 ≤ n1 := by omega
  have HINI := Lib.hid hini
  clear hini
  obtain ⟨i0, hi, hz0, hz1, hz2⟩ := info_parts Try.info9
  obtain ⟨B0, hB⟩ : ∃ b, b = w.heap.size := ⟨_, rfl⟩
  have hlit := World.ownsRow_lit (base := w.heap.size) (e := 9) (size := 1) w #[] 0 (Nat.le_refl _) (by simp) (by simp)
  rw [← hB] at hlit ⊢
  have HB := Lib.hid hB
  have HLIT := Lib.hid hlit
  clear hB hlit
  go_enter Try.func4, Try.ntmps4
  go_wp2_with (at_builtin; refine wpList_append_own_none rfl (.tmp 19) (.tmp 24) 34 rfl B0 9 i0 1 Try.underlying34 hi _ 0 [] rfl (by rw [← HB.out]; exact HLIT.out) rfl ?_)
  have hG : Hid (Below B0 w (w.alloc (.cells #[] 9))) := Lib.hid ((Below.refl B0 w).alloc (by rw [HB.out]; exact Nat.le_refl _) _)
  have hgr : w.heap.size < (w.alloc (.cells #[] 9)).heap.size := by simp
  clear HLIT
  generalize w.alloc (.cells #[] 9) = wr at *
  have hcl : cs.length = 0 := by rw [hcs]; rfl
  have ha : B.alike cs = false := by rw [hcs]; rfl
  have hcz : ∀ s ∈ cs, s.size ≤ 300 := by rw [hcs]; intro s h; cases h
  have hRow : RowS wr w.heap.size cs := by rw [hcs]; intro i h; exact absurd h (by simp)
  refine wp_loop_rounds 1 ?_
  rw [rounds_succ]
  have hcz' : ∀ s ∈ cs, s.size ≤ maxLen := fun s hs => by have := hcz s hs; unfold maxLen; omega
  have hcm : cs.length ≤ maxLen := by unfold maxLen; omega
  have C17 := and_no w.heap.size 0 cs wr hcm hcz' hRow ha
  have C19 := fun (w' : World) (h1 : RowS w' w.heap.size cs) (h2 : w.heap.size < w'.heap.size) => join_any w.heap.size 0 cs w' h1 h2 (by omega) hcz (by omega)
  rw [hcl] at C17 C19
  obtain ⟨J, hJ⟩ : ∃ J : ByteArray, ⟨(Lib.join (cs.map (·.data.toList)) []).toArray⟩ = J := ⟨_, rfl⟩
  rw [hJ] at C19 hs
  have C16 := fun w => short_any J w
  rw [hs] at C16
  have C17 := Lib.hid C17
  have C19 := Lib.hid C19
  have C16 := Lib.hid C16
  have hsz : s.size ≤ 300 := by rw [← hs]; have : (cutS J 300).size = min 300 J.size := cutS_size J 300; omega
  have hsm : s.size ≤ maxLen := by unfold maxLen; omega
  have hB : Below wr.heap.size wr wr := Below.refl _ _
  obtain ⟨bA, off, rfl, hbA, hRI⟩ := HINI.out.2 hm10
  have HZL := Lib.hid HINI.out.1
  have CF := fun (w' : World) (h1 : RowI w' bA off zs) (h2 : bA < w'.heap.size) => flip_any s bA off c1 zs w' hr (by rw [HZL.out]; unfold maxLen; omega) h1 h2
  rw [flipEnd_no hp] at CF
  rw [show zs.length = m1 from HZL.out] at CF
  have CF := Lib.hid CF
  have HRI : Hid (∀ w' : World, Below wr.heap.size wr w' → RowI w' bA off zs ∧ bA < w'.heap.size) := Lib.hid (fun w' hb => by
    have hb0 : bA < wr.heap.size := by have := hG.out.size; omega
    refine ⟨fun i hi => ?_, Nat.lt_of_lt_of_le hb0 hb.size⟩
    rw [hb.cell (p := ⟨bA, off + i, none⟩) hb0, hG.out.cell (p := ⟨bA, off + i, none⟩) (by show bA < _; rw [HB.out]; exact hbA)]
    exact hRI i hi)
  clear hRI
  obtain ⟨rr, hrr⟩ : ∃ rr, rr = B.runsOf s.data.toList := ⟨_, rfl⟩
  have CR := fun (w' : World) => runs_yes s w' hr
  have CRR := fun (w' : World) => refruns_any s w' (by omega)
  rw [← hrr] at CR CRR
  have hn2 : rr.length ≤ 4000 := by rw [hrr]; have := B.runs_le s.data.toList; rw [B.size_len] at this; omega
  obtain ⟨n2, hn2'⟩ : ∃ n2, n2 = rr.length := ⟨_, rfl⟩
  rw [← hn2'] at hn2
  have HN2 := Lib.hid hn2'
  have CR := Lib.hid CR
  have CRR := Lib.hid CRR
  clear hrr hn2'
  have HROW := Lib.hid hRow
  clear hRow hcz' hcm hs hJ hcz hcl hcs ha
  go_wp2_with (first | (go_at_call 17; (with_reducible refine C17.out.mono ?_); rintro e w2 ⟨rfl, rfl⟩) | (go_at_call 19; (with_reducible refine (C19.out _ (HROW.out.below hB hgr) (Nat.lt_of_lt_of_le hgr hB.size)).mono ?_); rintro e w2 ⟨rfl, hb2⟩; replace hB := hB.trans (hb2.mono hB.size)) | (go_at_call 16; (with_reducible refine (C16.out _).mono ?_); rintro e w2 ⟨rfl, rfl⟩) | (go_at_call 20; (with_reducible refine (CF.out _ (HRI.out _ hB).1 (HRI.out _ hB).2).mono ?_); rintro e w2 ⟨rfl, hb2⟩; replace hB := hB.trans (hb2.mono hB.size)))
  refine (CR.out _).mono ?_
  rintro e wa ⟨v, rfl, ho, hb2⟩
  obtain ⟨A2, c2, rfl, hS2⟩ := own_runs ho
  rw [← show n2 = _ from HN2.out]
  have HS2 := Lib.hid hS2
  replace hB := hB.trans (hb2.mono hB.size)
  have HRI2 := Lib.hid (fun (w' : World) (h : Below wa.heap.size wa w') => HRI.out w' (hB.trans (h.mono hB.size)))
  replace hG := Lib.hid (hG.out.trans (hB.mono (by have := hG.out.size; have := HB.out; omega)))
  clear ho hS2 hB hb2
  have hB : Below wa.heap.size wa wa := Below.refl _ _
  go_wp2_with (first | (go_at_call 12; (with_reducible refine (refright_any _ _ hsm).mono ?_); rintro e w2 ⟨rfl, rfl⟩) | (go_at_call 13; (with_reducible refine (alive_any _).mono ?_); rintro e w2 ⟨rfl, hb2⟩; replace hB := hB.trans (hb2.mono hB.size)) | (go_at_call 24; (with_reducible refine (CRR.out _).mono ?_); rintro e w2 ⟨v, rfl, ho, hb2⟩; replace hB := hB.trans (hb2.mono hB.size); obtain ⟨A3, c3, rfl, hS3⟩ := own_runs ho; rw [← show n2 = _ from HN2.out]; clear ho; have HS3 := Lib.hid hS3; clear hS3) | (go_at_call 23; (with_reducible refine (same_any _ _ _ _ n2 rr _ HN2.out hn2 (HS2.out.below hB) HS3.out).mono ?_); rintro e w2 ⟨rfl, hb2⟩; replace hB := hB.trans (hb2.mono hB.size)))
  go_loopw [15, 16, 109] (fun wn bd i wr2 => ∃ k2 : Nat, k2 ≤ m1 ∧ i = .int .i64 k2 ∧ wn = .string (turned s zs k2) ∧ bd = .bool false ∧ B.preP s.size zs k2 ∧ Below wa.heap.size wa wr2) (fun _ _ i _ => m1 - (RowKit.intOf i).toNat)
  case atStart => exact ⟨0, Nat.zero_le _, rfl, by rw [turned_zero], rfl, B.preP_zero _ _, hB⟩
  case round =>
    obtain ⟨k2, hk2, rfl, htu, rfl, hpp, hB⟩ := hrel
    subst htu
    by_cases hl2 : k2 < m1
    · have hkz : k2 < zs.length := by rw [HZL.out]; exact hl2
      have hx := (HRI2.out _ hB).1 k2 hkz
      obtain ⟨z, hz⟩ : ∃ z, zs.getD k2 0 = z := ⟨_, rfl⟩
      rw [hz] at hx
      by_cases hin : 0 ≤ z ∧ z < s.size
      · obtain ⟨h0, h1⟩ := hin
        obtain ⟨j, rfl⟩ := Int.eq_ofNat_of_zero_le h0
        have hjs : j < s.size := by omega
        have hpp' := Lib.hid (B.preP_succ hkz hpp (by rw [hz]; exact h0) (by rw [hz]; exact h1))
        have CT := fun (w' : World) => refturn_any (turned s zs k2) j w' (by rw [turned_size]; exact hjs) (by rw [turned_size]; omega) (turned_right zs k2 hr)
        rw [turned_succ hkz hz] at CT
        have CT := Lib.hid CT
        clear hpp hz
        go_wp2_with (go_at_call 22; (with_reducible refine (CT.out _).mono ?_); rintro e w2 ⟨rfl, hb2⟩; replace hB := hB.trans (hb2.mono hB.size))
        go_roundw
        case rel => exact ⟨k2 + 1, by omega, by go_num, rfl, rfl, hpp'.out, hB⟩
        case measure => simp [RowKit.intOf]; omega
      · clear hpp hz
        by_cases h0 : z < 0
        · clear hin
          go_wp2_with (first | (go_at_call 12; (with_reducible refine (refright_any _ _ hsm).mono ?_); rintro e w2 ⟨rfl, rfl⟩) | (go_at_call 13; (with_reducible refine (alive_any _).mono ?_); rintro e w2 ⟨rfl, hb2⟩; replace hB := hB.trans (hb2.mono hB.size)) | (go_at_call 24; (with_reducible refine (CRR.out _).mono ?_); rintro e w2 ⟨v, rfl, ho, hb2⟩; replace hB := hB.trans (hb2.mono hB.size); obtain ⟨A3, c3, rfl, hS3⟩ := own_runs ho; rw [← show n2 = _ from HN2.out]; clear ho; have HS3 := Lib.hid hS3; clear hS3) | (go_at_call 23; (with_reducible refine (same_any _ _ _ _ n2 rr _ HN2.out hn2 (HS2.out.below hB) HS3.out).mono ?_); rintro e w2 ⟨rfl, hb2⟩; replace hB := hB.trans (hb2.mono hB.size)))
          go_ret
          exact ⟨rfl, hG.out.trans (hB.mono (by have := hG.out.size; have := HB.out; omega))⟩
        · have h1 : (s.size : Int) ≤ z := by omega
          clear hin
          go_wp2_with (first | (go_at_call 12; (with_reducible refine (refright_any _ _ hsm).mono ?_); rintro e w2 ⟨rfl, rfl⟩) | (go_at_call 13; (with_reducible refine (alive_any _).mono ?_); rintro e w2 ⟨rfl, hb2⟩; replace hB := hB.trans (hb2.mono hB.size)) | (go_at_call 24; (with_reducible refine (CRR.out _).mono ?_); rintro e w2 ⟨v, rfl, ho, hb2⟩; replace hB := hB.trans (hb2.mono hB.size); obtain ⟨A3, c3, rfl, hS3⟩ := own_runs ho; rw [← show n2 = _ from HN2.out]; clear ho; have HS3 := Lib.hid hS3; clear hS3) | (go_at_call 23; (with_reducible refine (same_any _ _ _ _ n2 rr _ HN2.out hn2 (HS2.out.below hB) HS3.out).mono ?_); rintro e w2 ⟨rfl, hb2⟩; replace hB := hB.trans (hb2.mono hB.size)))
          go_ret
          exact ⟨rfl, hG.out.trans (hB.mono (by have := hG.out.size; have := HB.out; omega))⟩
    · exfalso
      have := B.preP_full (n := s.size) (zs := zs) (by rw [HZL.out, show m1 = k2 from by omega]; exact hpp)
      rw [hp] at this
      cases this

end Go.Proofs.Ytfnofajglbjgjaa
