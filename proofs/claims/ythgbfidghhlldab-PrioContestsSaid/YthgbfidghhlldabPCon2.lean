/- Package prio's contest: bus. -/
import Derived.Test.YthgbfidghhlldabPCon1
import Derived.Test.YthgbfidghhlldabAnd
namespace Go.Proofs.Ythgbfidghhlldab
open Go.RowKit Go.Lib
attribute [local go_sem ↓] Go.wp_at_zero Go.wp_at_succ

/-- a row of one bit -/
def oneB (c : UInt8) : ByteArray := ⟨#[c]⟩
theorem oneB_of (s : ByteArray) (k : Nat) (h : k < s.size) : s.extract k (k + 1) = oneB s[k] := by
  apply bytes_same
  rw [Lib.extract_data]
  have e : List.take (k + 1 - k) (List.drop k s.data.toList) = [s[k]] := by
    rw [List.drop_eq_getElem_cons (by simpa using h), show k + 1 - k = 1 from by omega]; rfl
  rw [e]; rfl
theorem oneB_inj {a b : UInt8} (h : oneB a = oneB b) : a = b := by
  have := congrArg (fun s : ByteArray => s.data.toList) h
  simpa [oneB] using this
namespace B
theorem ones_right {c : UInt8} (h : okc c = true) : right (oneB c) = true := by
  unfold right oneB
  simp [h, ByteArray.size]
theorem alike_ones {cs : List UInt8} (h0 : 0 < cs.length) (ha : cs.all okc = true) : alike (cs.map oneB) = true := by
  cases cs with
  | nil => simp at h0
  | cons c cs =>
    unfold alike
    simp only [List.map_cons, List.isEmpty_cons, Bool.not_false, Bool.true_and]
    rw [List.all_eq_true]
    intro x hx
    obtain ⟨d, hd, rfl⟩ := List.mem_map.1 (show x ∈ (c :: cs).map oneB from hx)
    unfold okrow
    rw [ones_right (List.all_eq_true.1 ha d hd)]
    rfl
theorem foldl_ones : ∀ (cs : List UInt8) (c : UInt8), (cs.map oneB).foldl (fun l s => pull l s.data.toList) [c] = [cs.foldl low c] := by
  intro cs
  induction cs with
  | nil => intro c; rfl
  | cons d cs ih =>
    intro c
    rw [List.map_cons, List.foldl_cons, List.foldl_cons]
    exact ih (low c d)
theorem andL_ones (c : UInt8) (cs : List UInt8) : andL ((c :: cs).map oneB) = [cs.foldl low c] := by
  unfold andL andTo
  simp only [List.map_cons, List.length_cons, List.length_map, List.drop_succ_cons, List.drop_zero]
  rw [show cs.length + 1 - 1 = (cs.map oneB).length by simp, List.take_length]
  exact foldl_ones cs c
theorem low_48 : ∀ (cs : List UInt8), cs.foldl low 48 = 48 := by
  intro cs
  induction cs with
  | nil => rfl
  | cons d cs ih => rw [List.foldl_cons, show low 48 d = 48 by unfold low; split <;> rfl]; exact ih
theorem low_all : ∀ (cs : List UInt8) (c y : UInt8), okc c = true → cs.all okc = true → y ∈ c :: cs → (y = 49 → ∀ d ∈ c :: cs, d = 49) → (y = 48 ∨ y = 49) → cs.foldl low c = y := by
  intro cs
  induction cs with
  | nil => intro c y _ _ hm _ _; simp at hm; rw [hm]; rfl
  | cons d cs ih =>
    intro c y hc ha hm h1 hy
    rw [List.foldl_cons]
    rw [List.all_cons, Bool.and_eq_true] at ha
    rcases hy with rfl | rfl
    · by_cases hd : d = 48
      · subst hd
        rw [show low c 48 = 48 from rfl]; exact low_48 cs
      · rw [show low c d = c by unfold low; rw [if_neg hd]]
        refine ih c 48 hc ha.2 ?_ (fun h => absurd h (by decide)) (.inl rfl)
        rcases List.mem_cons.1 hm with e | hm
        · exact List.mem_cons.2 (.inl e)
        · rcases List.mem_cons.1 hm with e | hm
          · exact absurd e.symm hd
          · exact List.mem_cons_of_mem _ hm
    · have hd : d = 49 := h1 rfl d (by simp)
      have hcc : c = 49 := h1 rfl c (by simp)
      subst hd
      subst hcc
      exact ih 49 49 hc ha.2 (by simp) (fun _ x hx => h1 rfl x (by
        rcases List.mem_cons.1 hx with e | e
        · rw [e]; simp
        · exact List.mem_cons_of_mem _ (List.mem_cons_of_mem _ e))) (.inr rfl)
end B
/-- the fields, in memory -/
structure Flds (n gf : Nat) (ss : Nat → ByteArray) (w : World) : Prop where
  cell : ∀ i, i < n → w.cell? ⟨gf, i, none⟩ = some (.string (ss i))
  size : ∀ i, i < n → (ss i).size ≤ 32
  all : ∀ i, i < n → (ss i).data.toList.all B.okc = true
theorem Flds.below {n gf B0 : Nat} {ss : Nat → ByteArray} {w w' : World} (h : Flds n gf ss w) (hb : Below B0 w w') (hg : gf < B0) : Flds n gf ss w' :=
  ⟨fun i hi => by rw [hb.cell (p := ⟨gf, i, none⟩) hg]; exact h.cell i hi, h.size, h.all⟩
abbrev fl (ss : Nat → ByteArray) (i : Nat) : List UInt8 := (ss i).data.toList
theorem fl_length (ss : Nat → ByteArray) (i : Nat) : (fl ss i).length = (ss i).size := B.size_len _
theorem bt_at {ss : Nat → ByteArray} {k i : Nat} (h : k < (ss i).size) : (ss i)[k] = B.bt (fl ss) k i := by
  unfold B.bt
  rw [B.getD_at (by rw [fl_length]; exact h)]
  rfl

set_option maxRecDepth 100000 in
set_option maxHeartbeats 4000000 in
theorem bus_any (C gf gl n capf capl k : Nat) (ss : Nat → ByteArray) (ls : List Nat) (y : UInt8) (w : World) (hF : Flds n gf ss w) (hgf : gf < w.heap.size) (hC0 : w.cell? ⟨C, 0, none⟩ = some (.slice (some ⟨gf, 0, none⟩) n capf)) (hC1 : w.cell? ⟨C, 1, none⟩ = some (.slice (some ⟨gl, 0, none⟩) ls.length capl)) (hCl : C < w.heap.size)
    (hL : ∀ j (h : j < ls.length), w.cell? ⟨gl, j, none⟩ = some (.int .i64 (ls[j] : Nat))) (hgl : gl < w.heap.size) (hls : ∀ i ∈ ls, i < n ∧ k < (ss i).size) (hll : ls.length ≤ 1000000)
    (hy : ∃ i ∈ ls, B.bt (fl ss) k i = y) (h49 : y = 49 → ∀ i ∈ ls, B.bt (fl ss) k i = 49) :
    Calls Try.prog 32 #[.pointer (some ⟨C, 0, none⟩), .int .i64 k] w fun e w' => e = .returned (.string (oneB y)) ∧ Below w.heap.size w w' := by
  obtain ⟨i0, hi, hz0, hz1, hz2⟩ := info_parts Try.infoStr
  have hbt : ∀ i ∈ ls, B.okc (B.bt (fl ss) k i) = true := fun i hi => by
    obtain ⟨h1, h2⟩ := hls i hi
    unfold B.bt
    rw [B.getD_at (by rw [fl_length]; exact h2)]
    exact List.all_eq_true.1 (hF.all i h1) _ (List.getElem_mem _)
  have hall : (ls.map (B.bt (fl ss) k)).all B.okc = true := by
    rw [List.all_eq_true]; intro x hx; obtain ⟨i, hi, rfl⟩ := List.mem_map.1 hx; exact hbt i hi
  have hlp : 0 < ls.length := by obtain ⟨i, hi, _⟩ := hy; exact List.length_pos_of_mem hi
  have HA := Lib.hid (show B.andL ((ls.map (B.bt (fl ss) k)).map oneB) = [y] by
    obtain ⟨i, hi, hiy⟩ := hy
    have hm : y ∈ ls.map (B.bt (fl ss) k) := List.mem_map.2 ⟨i, hi, hiy⟩
    have hall2 : y = 49 → ∀ d ∈ ls.map (B.bt (fl ss) k), d = 49 := fun e d hd => by obtain ⟨j, hj, rfl⟩ := List.mem_map.1 hd; exact h49 e j hj
    have hyo := B.okc_cases (by rw [← hiy]; exact hbt i hi : B.okc y = true)
    cases hc : ls.map (B.bt (fl ss) k) with
    | nil => rw [hc] at hm; simp at hm
    | cons c cs =>
      rw [hc] at hm hall2 hall
      rw [B.andL_ones]
      rw [List.all_cons, Bool.and_eq_true] at hall
      rw [B.low_all cs c y hall.1 hall.2 hm hall2 hyo])
  have HK := Lib.hid (B.alike_ones (cs := ls.map (B.bt (fl ss) k)) (by simpa using hlp) hall)
  have HF := Lib.hid hF
  have HLs := Lib.hid hls
  have HL := Lib.hid hL
  clear hF hls hL hbt hall hy h49
  obtain ⟨m, hm⟩ : ∃ m, m = ls.length := ⟨_, rfl⟩
  rw [← hm] at hC1 hll hlp
  have HM := Lib.hid hm
  clear hm
  go_enter Try.func32, Try.ntmps32
  go_wp2
  go_loopw [5, 15] (fun v i wr => ∃ j : Nat, j ≤ m ∧ i = .int .i64 j ∧ wr.ownsRow w.heap.size 9 1 v j ((ls.take j).map (fun i => .string (oneB (B.bt (fl ss) k i)))) ∧ Below w.heap.size w wr) (fun _ i _ => m - (intOf i).toNat)
  case atStart => exact ⟨0, Nat.zero_le _, rfl, ⟨rfl, .inl ⟨rfl, rfl⟩⟩, Below.refl _ _⟩
  case round =>
    obtain ⟨j, hj, rfl, hown, hW⟩ := hrel
    by_cases hlt : j < m
    · have hjl : j < ls.length := by rw [← HM.out]; exact hlt
      have c1 := HL.out j hjl
      rw [← hW.cell (p := ⟨gl, j, none⟩) hgl] at c1
      obtain ⟨hpn, hpk⟩ := HLs.out ls[j] (List.getElem_mem hjl)
      have hT : (ls.take (j + 1)).map (fun i => Value.string (oneB (B.bt (fl ss) k i))) = (ls.take j).map (fun i => .string (oneB (B.bt (fl ss) k i))) ++ [.string (oneB (B.bt (fl ss) k ls[j]))] := by
        rw [List.take_succ_eq_append_getElem hjl, List.map_append]; rfl
      obtain ⟨p, hp⟩ : ∃ p, p = ls[j] := ⟨_, rfl⟩
      rw [← hp] at c1 hpn hpk hT
      have HT := Lib.hid hT
      have CB : Hid (Calls Try.prog 35 #[.pointer (some ⟨C, 0, none⟩), .int .i64 p, .int .i64 k] wr fun e w' => e = .returned (.string (oneB (B.bt (fl ss) k p))) ∧ wr = w') := Lib.hid (by
        have := bit_any C gf n capf p k (ss p) wr (by rw [hW.cell (p := ⟨C, 0, none⟩) hCl]; exact hC0) hpn ((HF.out.below hW hgf).cell p hpn) hpk (HF.out.size p hpn)
        rw [oneB_of _ _ hpk, bt_at hpk] at this
        exact this)
      clear hT hp hpk hpn
      go_wp2_with (first
        | (go_at_call 35; (with_reducible refine CB.out.mono ?_); rintro e w' ⟨rfl, rfl⟩)
        | (at_builtin; refine wpList_append_own _ rfl (.tmp 19) (.tmp 24) 43 rfl w.heap.size 9 i0 (.string ⟨#[]⟩) 1 16 Try.underlying43 hi hz0 hz1 hz2 rfl (by decide) _ _ _ rfl (hown.alloc _) ⟨wr.heap.size, 0, none⟩ 1 1 [.string (oneB (B.bt (fl ss) k p))] rfl rfl ?c1 ?c2 ?c3 ?c4 ?c5 ?_))
      case c1 => intro j u hu; exact cell_of_new _ _ _ j u hu
      case c2 => intro u hu; simp at hu; subst hu; rfl
      case c3 => unfold maxLen; omega
      case c4 => omega
      case c5 => have := hW.size; simp; omega
      intro v' w1 ho1 hgr1 hne1
      have hB1 : Below w.heap.size w w1 := hW.trans (append_below hW.size hgr1 (fun k e => (hown.lt k e).1))
      rw [← List.map_take, ← HT.out] at ho1
      clear hown hgr1 hne1 HT CB
      go_wp2
      go_roundw
      case rel => exact ⟨j + 1, hlt, by go_num, ho1, hB1⟩
      case measure => simp [intOf]; omega
    · obtain rfl : j = m := by omega
      rw [show ls.take j = ls from by rw [HM.out, List.take_length]] at hown
      obtain ⟨g, cap, rfl, hg1, hg2⟩ := own_form hown (own_not_nil hown hlp)
      have hcp := own_cap hown
      have CA : Hid (∀ w2, w2 = wr → Calls Try.prog 44 #[.slice (some ⟨g, 0, none⟩) j cap] w2 fun e w' => e = .returned (.tuple #[.string (oneB y), .int .i64 0]) ∧ Below w.heap.size w w') := Lib.hid (fun w2 e2 => by
        subst e2
        have hlen : ((ls.map (B.bt (fl ss) k)).map oneB).length = j := by simp [HM.out]
        have hrow : RowS w2 g ((ls.map (B.bt (fl ss) k)).map oneB) := fun i hi => by
          have := hown.cellAt i (by rw [hlen] at hi; omega)
          rw [this]
          rw [hlen] at hi
          have hil : i < ls.length := by rw [← HM.out]; exact hi
          simp [B.at_, List.getD_eq_getElem?_getD, hil]
        have := and_yes g cap ((ls.map (B.bt (fl ss) k)).map oneB) w2 (by rw [hlen]; unfold maxLen; omega) (by
          intro s hs
          obtain ⟨c, _, rfl⟩ := List.mem_map.1 hs
          show 1 ≤ maxLen
          unfold maxLen; omega) hrow HK.out (by rw [hlen]; exact hcp) hg2
        rw [HA.out, hlen] at this
        refine this.mono ?_
        rintro e w' ⟨rfl, hb⟩
        exact ⟨rfl, hW.trans (hb.mono hW.size)⟩)
      clear hown hcp
      go_wp2_with (go_at_call 44; (with_reducible refine (CA.out _ rfl).mono ?_); rintro e w2 ⟨rfl, hb2⟩)
      go_ret
      exact ⟨rfl, hb2⟩
end Go.Proofs.Ythgbfidghhlldab
