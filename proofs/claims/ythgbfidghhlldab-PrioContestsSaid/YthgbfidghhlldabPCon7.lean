/- Package prio's Contest. -/
import Derived.Test.YthgbfidghhlldabPCon6
import Derived.Test.YthgbfidghhlldabPrioD
import Derived.BigQuiet
namespace Go.Proofs.Ythgbfidghhlldab
open Go.RowKit Go.Lib
attribute [local go_sem ↓] Go.wp_at_zero Go.wp_at_succ

theorem FX.less_trans {f g h : FX} (h1 : f.less g = true) (h2 : g.less h = true) : f.less h = true := B.lessL_trans (B.fieldL_all _) h1 h2
theorem FX.best_facts : ∀ (l : List FX) (b : FX), (∀ x : FX, x.less b = false → x.less (b.best l) = false) ∧ (∀ g ∈ l, g.less (b.best l) = false) ∧ (b.best l = b ∨ b.best l ∈ l) := by
  intro l
  induction l with
  | nil => intro b; exact ⟨fun x h => h, fun g h => by simp at h, .inl rfl⟩
  | cons g l ih =>
    intro b
    have e : b.best (g :: l) = (if g.less b then g else b).best l := rfl
    rw [e]
    obtain ⟨h1, h2, h3⟩ := ih (if g.less b then g else b)
    cases hg : g.less b
    · rw [hg] at h1 h2 h3
      simp only [Bool.false_eq_true, if_false] at h1 h2 h3 ⊢
      refine ⟨h1, fun x hx => ?_, ?_⟩
      · rcases List.mem_cons.1 hx with rfl | hx
        · exact h1 _ hg
        · exact h2 x hx
      · rcases h3 with h3 | h3
        · exact .inl h3
        · exact .inr (List.mem_cons_of_mem _ h3)
    · rw [hg] at h1 h2 h3
      simp only [if_true] at h1 h2 h3 ⊢
      refine ⟨fun x hx => h1 x ?_, fun x hx => ?_, ?_⟩
      · cases hxg : x.less g
        · rfl
        · rw [FX.less_trans hxg hg] at hx; cases hx
      · rcases List.mem_cons.1 hx with rfl | hx
        · exact h1 _ (B.lessL_self _)
        · exact h2 x hx
      · rcases h3 with h3 | h3
        · exact .inr (by rw [h3]; simp)
        · exact .inr (List.mem_cons_of_mem _ h3)
/-- the fields of a row of frames -/
def fldS (fs : List FX) (i : Nat) : ByteArray := ((fs[i]?).map FX.field).getD ⟨#[]⟩
theorem fldS_at {fs : List FX} {i : Nat} (h : i < fs.length) : fldS fs i = fs[i].field := by unfold fldS; rw [List.getElem?_eq_getElem h]; rfl
theorem fl_fldS {fs : List FX} {i : Nat} (h : i < fs.length) : fl (fldS fs) i = B.fieldL fs[i].fr := by show (fldS fs i).data.toList = _; rw [fldS_at h, FX.field_list]
/-- the best one of a row that is not empty -/
def bestF (fs : List FX) (h : 0 < fs.length) : FX := fs[0].best fs
theorem bestF_mem (fs : List FX) (h : 0 < fs.length) : bestF fs h ∈ fs := by
  rcases (FX.best_facts fs fs[0]).2.2 with e | e
  · unfold bestF; rw [e]; exact List.getElem_mem h
  · exact e
theorem bestF_min (fs : List FX) (h : 0 < fs.length) : ∀ g ∈ fs, g.less (bestF fs h) = false := (FX.best_facts fs fs[0]).2.1
theorem cont_of (fs : List FX) (h : 0 < fs.length) : B.Cont fs.length (fl (fldS fs)) (B.fieldL (bestF fs h).fr) := by
  refine ⟨fun i hi => by rw [fl_fldS hi]; exact B.fieldL_all _, fun i j hi hj hd => ?_, ?_, fun i hi => ?_⟩
  · rw [fl_fldS hi, fl_fldS hj] at hd ⊢; exact B.field_none hd
  · obtain ⟨m, hm, e⟩ := List.getElem_of_mem (bestF_mem fs h)
    exact ⟨m, hm, by rw [fl_fldS hm, e]⟩
  · rw [fl_fldS hi]; exact bestF_min fs h _ (List.getElem_mem hi)
/-- who is left, and where the others have lost -/
def leftF (fs : List FX) (h : 0 < fs.length) : List Nat := (List.range fs.length).filter (fun i => decide (fl (fldS fs) i = B.fieldL (bestF fs h).fr))
def lostF (fs : List FX) (h : 0 < fs.length) : List Int := (List.range fs.length).map (fun i => B.firstI (fl (fldS fs) i) (B.fieldL (bestF fs h).fr))
theorem own_base {w : World} {base base' : Nat} {e : TypeId} {size : Nat} {v : Value} {n : Nat} {xs : List Value} (h : w.ownsRow base e size v n xs) (hb : base' ≤ base) : w.ownsRow base' e size v n xs := by
  refine ⟨h.1, ?_⟩
  rcases h.2 with hn | ⟨g, cap, cur, hv, hbg, r⟩
  · exact .inl hn
  · exact .inr ⟨g, cap, cur, hv, by omega, r⟩

set_option maxRecDepth 100000 in
set_option maxHeartbeats 1000000 in
theorem contest_no (g o cap : Nat) (fs : List FX) (w : World) (hn : fs.length ≤ 1000000) (hc : RowF w g o fs) (hg : g < w.heap.size) (h : fs.all FX.may = false ∨ fs.length = 0) :
    Calls Try.prog 11 #[.slice (some ⟨g, o, none⟩) fs.length cap] w fun e w' => e = .returned (.tuple #[.slice none 0 0, .slice none 0 0, .int .i64 1]) ∧ Below w.heap.size w w' := by
  cases ha : fs.all FX.may
  · have CF := Lib.hid (fieldsOf_no g o cap fs w hn hc hg ha)
    clear h hc ha
    go_enter Try.func11, Try.ntmps11
    go_wp2_with (go_at_call 19; (with_reducible refine CF.out.mono ?_); rintro e w1 ⟨rfl, hb1⟩)
    go_ret3
    exact ⟨rfl, hb1⟩
  · have h0 : fs.length = 0 := by rcases h with h | h; rw [ha] at h; cases h; exact h
    have CF := Lib.hid (fieldsOf_yes g o cap fs w hn hc hg ha)
    rw [h0] at CF ⊢
    clear h hc ha hn h0
    go_enter Try.func11, Try.ntmps11
    go_wp2_with (go_at_call 19; (with_reducible refine CF.out.mono ?_); rintro e w1 ⟨cap', rfl, _, hb1⟩)
    go_ret3
    exact ⟨rfl, hb1⟩

set_option maxRecDepth 100000 in
set_option maxHeartbeats 4000000 in
theorem contest_yes (g o cap : Nat) (fs : List FX) (w : World) (hn : fs.length ≤ 1000000) (hc : RowF w g o fs) (hg : g < w.heap.size) (ha : fs.all FX.may = true) (h0 : 0 < fs.length) :
    Calls Try.prog 11 #[.slice (some ⟨g, o, none⟩) fs.length cap] w fun e w' => ∃ vl vo, e = .returned (.tuple #[vl, vo, .int .i64 0]) ∧ w'.ownsRow w.heap.size 3 1 vl (leftF fs h0).length (natV (leftF fs h0)) ∧ w'.ownsRow w.heap.size 3 1 vo fs.length (intV (lostF fs h0)) ∧ Below w.heap.size w w' := by
  have HC := Lib.hid (cont_of fs h0)
  have CF := Lib.hid (fieldsOf_yes g o cap fs w hn hc hg ha)
  obtain ⟨b, hb⟩ : ∃ b, b = B.fieldL (bestF fs h0).fr := ⟨_, rfl⟩
  rw [← hb] at HC
  have HL := Lib.hid (show (B.leftK fs.length (fl (fldS fs)) b b.length) = leftF fs h0 by rw [HC.out.left_end, hb]; rfl)
  have HO := Lib.hid (show (B.lostK fs.length (fl (fldS fs)) b b.length) = lostF fs h0 by rw [HC.out.lost_end, hb]; rfl)
  have HFl := Lib.hid (fun (w' : World) gf capf (ho : w'.ownsRow w.heap.size 9 1 (.slice (some ⟨gf, 0, none⟩) fs.length capf) fs.length (fs.map (fun f => .string f.field))) => (show Flds fs.length gf (fldS fs) w' from
    ⟨fun i hi => by rw [ho.cellAt i (by omega), fldS_at hi]; simp [hi], fun i hi => by rw [fldS_at hi]; exact FX.field_size _, fun i hi => by rw [fldS_at hi, FX.field_list]; exact B.fieldL_all _⟩))
  have hbl : b.length ≤ 32 := by rw [hb, B.fieldL_length]; split <;> omega
  obtain ⟨ss, hss⟩ : ∃ ss, ss = fldS fs := ⟨_, rfl⟩
  rw [← hss] at HC HL HO HFl
  obtain ⟨n, hfn⟩ : ∃ n, n = fs.length := ⟨_, rfl⟩
  rw [← hfn] at HC CF HL HO HFl hn ⊢
  have hn0 : 0 < n := by omega
  have HN := Lib.hid hfn
  clear hc hg ha hb hss hfn
  go_enter Try.func11, Try.ntmps11
  go_wp2_with (first
    | (go_at_call 19; (with_reducible refine CF.out.mono ?_); rintro e w1 ⟨capf, rfl, ho1, hb1⟩)
    | (go_at_call 22; (with_reducible refine (begin_any w.heap.size n capf w1 hn).mono ?_); rintro e w2 ⟨vl0, vo, rfl, hS2⟩))
  have hF1 := HFl.out w1 w.heap.size capf ho1
  have hgf : w.heap.size < w1.heap.size := (ho1.lt _ rfl).2
  obtain ⟨C, hC⟩ : ∃ C, C = w1.heap.size := ⟨_, rfl⟩
  rw [← hC] at hS2 hgf
  have HCC := Lib.hid hC
  simp only [← hC]
  have h02 : CS w1 C (.slice (some ⟨w.heap.size, 0, none⟩) n capf) vl0 vo (B.leftK n (fl ss) b 0) (B.lostK n (fl ss) b 0) w2 := by rw [B.leftK_zero, B.lostK_zero]; exact hS2
  clear hS2 ho1 hC
  go_loopw [8] (fun i wr => ∃ (k : Nat) (vl : Value), k ≤ b.length ∧ i = .int .i64 k ∧ CS w1 C (.slice (some ⟨w.heap.size, 0, none⟩) n capf) vl vo (B.leftK n (fl ss) b k) (B.lostK n (fl ss) b k) wr) (fun i _ => b.length - (intOf i).toNat)
  case atStart => exact ⟨0, vl0, Nat.zero_le _, rfl, h02⟩
  case round =>
    clear h02 CF
    obtain ⟨k, vl, hk, rfl, hS⟩ := hrel
    have hF := hF1.below hS.bel hgf
    have hl0 := HC.out.left_ne k
    have hm0 : (B.leftK n (fl ss) b k)[0] ∈ B.leftK n (fl ss) b k := List.getElem_mem hl0
    have hln : (B.leftK n (fl ss) b k).length ≤ n := by have := List.length_filter_le (B.ag (fl ss) b k) (List.range n); rw [List.length_range] at this; exact this
    have hon : (B.lostK n (fl ss) b k).length = n := by unfold B.lostK; simp
    obtain ⟨gl, capl, rfl, hgl1, hgl2⟩ := own_form hS.left (own_not_nil hS.left hl0)
    have c1 := hS.blk.cell 1 _ rfl
    have c2 := hS.left.cellAt 0 (by omega)
    rw [show (natV (B.leftK n (fl ss) b k))[0]? = some (.int .i64 ((B.leftK n (fl ss) b k)[0] : Nat)) by unfold natV; simp [hl0]] at c2
    obtain ⟨hp1, hp2⟩ := B.mem_leftK.1 hm0
    have c3 := hF.cell _ hp1
    have hz := hF.size _ hp1
    have hlo := fun h => HC.out.longer hp1 hp2 (k := k) h
    have hsh := fun h => HC.out.shorter hp1 hp2 (k := k) h
    rw [fl_length] at hlo hsh
    have HIS := Lib.hid (fun hk => HC.out.leftK_succ (k := k) hk)
    have HDL := Lib.hid (fun hk => HC.out.dels_lost (k := k) hk)
    have HLs := Lib.hid (show ∀ hk : k < b.length, ∀ i ∈ B.leftK n (fl ss) b k, i < n ∧ k < (ss i).size from fun hk i hi => by
      obtain ⟨h1, h2⟩ := B.mem_leftK.1 hi
      have := HC.out.longer h1 h2 hk
      rw [fl_length] at this
      exact ⟨h1, this⟩)
    have HY := Lib.hid (show ∃ i ∈ B.leftK n (fl ss) b k, B.bt (fl ss) k i = b.getD k 0 by
      obtain ⟨m, hm, e⟩ := HC.out.best_left k
      exact ⟨m, hm, by unfold B.bt; rw [e]⟩)
    have H49 := Lib.hid (fun (hk : k < b.length) (e : b.getD k 0 = 49) i hi => HC.out.bit_ge (i := i) hk hi e)
    obtain ⟨p0, hp0⟩ : ∃ p0, p0 = (B.leftK n (fl ss) b k)[0] := ⟨_, rfl⟩
    rw [← hp0] at c2 c3 hz hlo hsh hp1
    obtain ⟨s0, hs0⟩ : ∃ s0, s0 = ss p0 := ⟨_, rfl⟩
    rw [← hs0] at c3 hz hlo hsh
    obtain ⟨nl, hnl⟩ : ∃ nl, nl = (B.leftK n (fl ss) b k).length := ⟨_, rfl⟩
    have hS' := hS
    rw [← hnl] at c1 hl0 hln
    have hn32 : nl ≤ 1000000 := by omega
    clear hm0 hp2 hp0 hs0
    by_cases hlt : k < b.length
    · have hks : (k : Int) < s0.size := by have := hlo hlt; omega
      have CS5 := Lib.hid (step_any5 w1 C w.heap.size n capf k ss (b.getD k 0) _ vo _ _ wr hS hF hgf hon hn (by omega) (by omega) (HLs.out hlt) HY.out (H49.out hlt))
      rw [← HIS.out hlt, HDL.out hlt] at CS5
      clear hlo hsh HIS HDL HLs HY H49 hS hS' hF hon hnl
      go_wp2_with (go_at_call 23; (with_reducible refine CS5.out.mono ?_); rintro e w3 ⟨rfl, vl3, hS3⟩)
      go_roundw
      case rel => exact ⟨k + 1, vl3, hlt, by go_num, hS3⟩
      case measure => simp [intOf]; omega
    · obtain rfl : k = b.length := by omega
      have hks : ¬ ((b.length : Nat) : Int) < s0.size := fun h => hlt (hsh (by omega))
      have c4 := hS.blk.cell 2 _ rfl
      have HL1 := Lib.hid hS.left
      have HL2 := Lib.hid hS.lost
      have HB := Lib.hid (hb1.trans (hS.bel.mono (by have := hb1.size; have := HCC.out; omega)))
      clear hlo hsh HIS HDL HLs HY H49 hS hS' hF hlt
      go_wp2
      go_quiet (fail)
      rename_i nq
      go_wp2
      go_ret3
      have hwC : w.heap.size ≤ C + 1 := by have := hb1.size; have := HCC.out; omega
      refine ⟨.slice (some ⟨gl, 0, none⟩) (B.leftK n (fl ss) b b.length).length capl, vo, rfl, ?_, ?_, below_drewN HB.out nq⟩
      · rw [← HL.out]
        exact ownsRow_drewN (own_base HL1.out hwC) nq
      · have := ownsRow_drewN (own_base HL2.out hwC) nq
        rw [hon, HO.out] at this
        exact this
end Go.Proofs.Ythgbfidghhlldab
