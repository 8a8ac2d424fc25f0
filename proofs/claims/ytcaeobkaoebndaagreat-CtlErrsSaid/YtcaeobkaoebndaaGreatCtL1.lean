/- Layer 7's laws: what is kept; feed, ready, alive, few. -/
import Derived.Test.YtcaeobkaoebndaaGreatCtSp
namespace Go.Proofs.YtcaeobkaoebndaaGreat
open Go.RowKit Go.Lib
attribute [local go_sem ↓] ld_ct st_ct ld_ev st_ev ld_ma st_ma bd_ma
attribute [local go_sem] ldCt_at stCt_at ldEv_at stEv_at ldMa_at stMa_at bdMa_at ldp_ct ldp_ma ldp_ev ldp_mev stp_ct stp_ma stp_ev stp_mev stp_mm zero_ct zero_ev zero_ma ev_err ev_sent
attribute [local go_sem] rowAt_drew rowAt_drewN rowAt_new rowAt_past rowAt_setRow rowAt_setRow_other rowAt_setCell_other rowAt_setCell_map cell_setRow free_setRow cell_setRow_other free_setRow_other setRow_alloc_at setRow_alloc_past
attribute [local go_sem] ctA_0 ctA_1 ctA_2 ctA_3 ctA_4 ctA_5 ctA_6 ctA_7 ctA_8 ctA_9 ctA_10 ctA_11 ctA_12 ctA_13 ctA_14 ctA_15 ctA_16 ctA_17 ctA_18 ctA_19 ctA_20 ctA_21 ctA_22 evA_0 evA_1 evA_2 evA_3 evA_4 evA_5 evA_6 mA_0 mA_1 mA_2 mA_3 mA_4 mA_5 mA_6 mA_7 mA_8 mA_9 mA_10 mA_11 mA_12 mA_13 mA_14 mA_15 mA_16 mA_17 mA_18 mA_19 mA_20 mA_21 mA_22 mA_23 mA_24 mA_25 mA_26 mA_27 mA_28 mA_29
attribute [local go_sem] ctA_set0 ctA_set0_0 ctA_set1_0 ctA_suc0 ctA_set1 ctA_set0_1 ctA_set1_1 ctA_suc1 ctA_set2 ctA_set3 ctA_set0_3 ctA_set1_3 ctA_suc3 ctA_set4 ctA_set0_4 ctA_set1_4 ctA_suc4 ctA_set5 ctA_set0_5 ctA_set1_5 ctA_suc5 ctA_set6 ctA_set7 ctA_set8 ctA_set9 ctA_set0_9 ctA_set1_9 ctA_suc9 ctA_set10 ctA_set11 ctA_set12 ctA_set0_12 ctA_set1_12 ctA_suc12 ctA_set13 ctA_set14 ctA_set15 ctA_set16 ctA_set0_16 ctA_set1_16 ctA_suc16 ctA_set17 ctA_set0_17 ctA_set1_17 ctA_suc17 ctA_set18 ctA_set0_18 ctA_set1_18 ctA_suc18 ctA_set19 ctA_set20 ctA_set21 ctA_set0_21 ctA_set1_21 ctA_suc21 ctA_set22 mA_set0 mA_set0_0 mA_set1_0 mA_suc0 mA_set1 mA_set0_1 mA_set1_1 mA_suc1 mA_set2 mA_set3 mA_set0_3 mA_set1_3 mA_suc3 mA_set4 mA_set0_4 mA_set1_4 mA_suc4 mA_set5 mA_set0_5 mA_set1_5 mA_set1000000000_5 mA_suc5 mA_set6 mA_set7 mA_set8 mA_set9 mA_set0_9 mA_set1_9 mA_suc9 mA_set10 mA_set11 mA_set12 mA_set0_12 mA_set1_12 mA_suc12 mA_set13 mA_set14 mA_set15 mA_set16 mA_set0_16 mA_set1_16 mA_suc16 mA_set17 mA_set0_17 mA_set1_17 mA_set48_17 mA_suc17 mA_set18 mA_set0_18 mA_set1_18 mA_suc18 mA_set19 mA_set20 mA_set21 mA_set0_21 mA_set1_21 mA_suc21 mA_set22 evA_set0 evA_set0_0 evA_set1_0 evA_set2_0 evA_set3_0 evA_set4_0 evA_suc0 evA_set1 evA_set0_1 evA_set1_1 evA_suc1 evA_set2 evA_set3 evA_set4 evA_set0_4 evA_set1_4 evA_suc4 evA_set5 evA_set6 evA_set0_6 evA_set1_6 evA_set14_6 evA_suc6 mA_set23 mA_set0_23 mA_set1_23 mA_set2_23 mA_set3_23 mA_set4_23 mA_suc23 mA_set24 mA_set0_24 mA_set1_24 mA_suc24 mA_set25 mA_set26 mA_set27 mA_set0_27 mA_set1_27 mA_suc27 mA_set28 mA_set29 mA_set0_29 mA_set1_29 mA_suc29

/-- blocks that hold these rows; below a world's size all is as it was -/
def Kept (w : World) (L : List (Nat × Array Value)) (W : World) : Prop := (∀ p ∈ L, rowAt W p.1 = some p.2) ∧ Below w.heap.size w W
theorem Kept.keep {w : World} {L : List (Nat × Array Value)} {W W2 : World} (h : Kept w L W) (k : Below W.heap.size W W2) : Kept w L W2 :=
  ⟨fun p hp => (rowAt_below k _ (rowAt_lt (h.1 p hp))).trans (h.1 p hp), h.2.trans (k.mono h.2.size)⟩
theorem Kept.alloc {w : World} {L : List (Nat × Array Value)} {W : World} (h : Kept w L W) (o : Obj) : Kept w L (W.alloc o) := h.keep ((Below.refl _ _).alloc (Nat.le_refl _) _)
theorem Kept.drew {w : World} {L : List (Nat × Array Value)} {W : World} (h : Kept w L W) : Kept w L W.drew := h.keep (Below.refl _ _).drew
theorem Kept.row {w : World} {L : List (Nat × Array Value)} {W : World} (h : Kept w L W) (g : Nat) (cs : Array Value) (hg : w.heap.size ≤ g) (hn : ∀ p ∈ L, p.1 ≠ g) : Kept w L (W.setRow g cs) :=
  ⟨fun p hp => (rowAt_setRow_other _ _ _ _ (hn p hp)).trans (h.1 p hp), below_row h.2 hg cs⟩
theorem Kept.cons {w : World} {L : List (Nat × Array Value)} {W : World} (h : Kept w L W) {g : Nat} {cs : Array Value} (hr : rowAt W g = some cs) : Kept w ((g, cs) :: L) W :=
  ⟨fun p hp => by
    rcases List.mem_cons.1 hp with e | hp
    · rw [e]; exact hr
    · exact h.1 p hp, h.2⟩
theorem Kept.tail {w : World} {L : List (Nat × Array Value)} {p : Nat × Array Value} {W : World} (h : Kept w (p :: L) W) : Kept w L W := ⟨fun q hq => h.1 q (List.mem_cons_of_mem _ hq), h.2⟩
theorem Kept.head {w : World} {L : List (Nat × Array Value)} {g : Nat} {cs : Array Value} {W : World} (h : Kept w ((g, cs) :: L) W) : rowAt W g = some cs := h.1 (g, cs) List.mem_cons_self
theorem Kept.nil (w : World) : Kept w [] w := ⟨fun _ hp => absurd hp (by simp), Below.refl _ _⟩
/-- the row of a block of the list is written -/
theorem Kept.set {w : World} {L : List (Nat × Array Value)} {g : Nat} {old : Array Value} {W : World} (h : Kept w ((g, old) :: L) W) (cs : Array Value) (hg : w.heap.size ≤ g) (hn : ∀ p ∈ L, p.1 ≠ g) : Kept w ((g, cs) :: L) (W.setRow g cs) :=
  (h.tail.row g cs hg hn).cons (by rw [rowAt_setRow, h.head]; rfl)
theorem Kept.new {w : World} {L : List (Nat × Array Value)} {W : World} (h : Kept w L W) (cs : Array Value) (t : TypeId) (g : Nat) (hg : g = W.heap.size) : Kept w ((g, cs) :: L) (W.alloc (.cells cs t)) :=
  (h.alloc _).cons (rowAt_new _ _ _ _ hg)
theorem Kept.lt {w : World} {L : List (Nat × Array Value)} {W : World} (h : Kept w L W) : ∀ p ∈ L, p.1 < W.heap.size := fun p hp => rowAt_lt (h.1 p hp)
def FdL (w : World) (c : B.Cs) : List (Nat × Array Value) := [(w.heap.size, ctA c), (w.heap.size + 1, ctA B.cs0)]
theorem feed_start (w : World) (c : B.Cs) : Kept w (FdL w c) ((w.alloc (.cells (ctA c) 33)).alloc (.cells (ctA B.cs0) 33)) := by
  have h1 := (Kept.nil w).new (ctA c) 33 w.heap.size rfl
  have h2 := h1.new (ctA B.cs0) 33 (w.heap.size + 1) (by simp)
  refine ⟨fun p hp => h2.1 p ?_, h2.2⟩
  unfold FdL at hp
  simp only [List.mem_cons] at hp ⊢
  rcases hp with h | h | h
  · exact .inr (.inl h)
  · exact .inl h
  · cases h
set_option maxRecDepth 100000 in
set_option maxHeartbeats 4000000 in
theorem feed_any (c0 : B.Cs) (s : ByteArray) (w : World) (hc : B.RightM c0) (ha : s.data.toList.all B.okc = true) (hs : s.size ≤ 4000) :
    Calls Tryz.prog 15 #[.agg (ctA c0), .string s] w fun e w' => e = .returned (.tuple #[.agg (ctA (B.runC c0 s.data.toList)), .bool true]) ∧ Below w.heap.size w w' := by
  go_enter Tryz.func15, Tryz.ntmps15
  go_wp2
  go_loopw [12] (fun i wr => ∃ k : Nat, k ≤ s.size ∧ i = .int .i64 k ∧ Kept w (FdL w (B.runC c0 (s.data.toList.take k))) wr) (fun i _ => s.size - (intOf i).toNat)
  case atStart => exact ⟨0, by omega, rfl, feed_start w _⟩
  case round =>
    obtain ⟨k, hk, rfl, hK⟩ := hrel
    have hr : B.RightM (B.runC c0 (s.data.toList.take k)) := B.runC_right hc _ (B.all_take ha _)
    obtain ⟨c, hcc⟩ : ∃ c, c = B.runC c0 (s.data.toList.take k) := ⟨_, rfl⟩
    rw [← hcc] at hK hr
    by_cases hlt : k < s.size
    · have hbit : B.okc s[k] = true := List.all_eq_true.1 ha _ (List.getElem_mem (by simpa using hlt))
      have hnext : Hid ((c.sample s[k]).1 = B.runC c0 (s.data.toList.take (k + 1))) := Lib.hid (by
        have e : s.data.toList.take (k + 1) = s.data.toList.take k ++ [s[k]] := by
          rw [List.take_succ_eq_append_getElem (by simpa using hlt)]; rfl
        rw [e, B.runC_snoc, hcc])
      have CS0 := fun w => sample7 c s[k] w hr hbit
      clear hcc hr hbit
      obtain ⟨d, hd⟩ : ∃ d, d = (c.sample s[k]).1 := ⟨_, rfl⟩
      obtain ⟨v, hv⟩ : ∃ v, v = (c.sample s[k]).2 := ⟨_, rfl⟩
      rw [← hd] at CS0 hnext
      rw [← hv] at CS0
      clear hd hv
      have CS := Lib.hid CS0
      clear CS0
      have q0 : (0 : Int) ≤ (k : Int) := by omega
      have q1 : (k : Int) < (s.size : Int) := by omega
      have hc0 := hK.head
      have hz0 := rowAt_lt hc0
      go_upto_region 4 with fail
      go_cut [7, 8, 9] from 15 to 24 (fun a7 a8 a9 wc => ∃ gx gv : Nat, a7 = .pointer (some ⟨gx, 0, none⟩) ∧ a8 = .pointer (some ⟨gv, 0, none⟩) ∧ a9 = .int .i64 0 ∧ wr.heap.size ≤ gx ∧ wr.heap.size ≤ gv ∧ Kept w ((gx, ctA d) :: (gv, evA v) :: FdL w c) wc)
      case first =>
        have hlt0 := hK.lt
        have hbz := hK.2.size
        have MK := Lib.hid (show ∀ W, Kept w (FdL w c) W → (rowAt W w.heap.size = some (ctA c) ∧ Kept w (FdL w c) W) from fun W h => ⟨h.head, h⟩)
        have hnn := Lib.hid (show ∀ g, wr.heap.size ≤ g → ∀ p ∈ (FdL w c), p.1 ≠ g from fun g hg p hp e => by have := hlt0 p hp; omega)
        go_region_held3 (fun W' => rowAt W' w.heap.size = some (ctA c) ∧ Kept w (FdL w c) W')
          (first | (with_reducible assumption) | (refine MK.out _ ?_; (repeat (first | (with_reducible assumption) | (with_reducible exact (by with_reducible assumption : rowAt _ w.heap.size = some (ctA c) ∧ Kept w (FdL w c) _).2) | (with_reducible refine Kept.drew ?_) | (with_reducible refine Kept.alloc ?_ _) | ((with_reducible refine Kept.row ?_ _ _ ?_ (hnn.out _ ?_)); rotate_left; (focus omega); (focus omega))))))
          (first
            | (go_at_call 14; (with_reducible refine (CS.out _).mono ?_); rintro e w2 ⟨rfl, hb2⟩; have hr2 := rowAt_below hb2; have hz2 := hb2.size; (try simp at hz2); have hS2 := (by with_reducible assumption : rowAt _ w.heap.size = some (ctA c) ∧ Kept w (FdL w c) _).2.keep hb2; have z0 : wr.heap.size ≤ w2.heap.size := (by omega); (try have z1 : wr.heap.size < w2.heap.size := (by omega)); (try have z2 : wr.heap.size + 1 < w2.heap.size := (by omega))))
        all_goals
          go_wp2_with fail
          go_meet
          case rel =>
            refine ⟨_, _, rfl, rfl, rfl, by omega, by omega, Kept.cons (Kept.cons ?_ ?_) ?_⟩
            · (repeat (first | (with_reducible assumption) | (with_reducible exact (by with_reducible assumption : rowAt _ w.heap.size = some (ctA c) ∧ Kept w (FdL w c) _).2) | (with_reducible refine Kept.drew ?_) | (with_reducible refine Kept.alloc ?_ _) | ((with_reducible refine Kept.row ?_ _ _ ?_ (hnn.out _ ?_)); rotate_left; (focus omega); (focus omega))))
            · simp [go_sem, *]
            · simp [go_sem, *]
      case rest =>
        clear hc0 hz0 q0 q1 CS hK
        obtain ⟨gx, gv, rfl, rfl, rfl, hgx, hgv, hK2⟩ := hcut
        have rx := hK2.head
        have hK3 : Kept w ((w.heap.size, ctA c) :: [(w.heap.size + 1, ctA B.cs0)]) wc := hK2.tail.tail
        have rc := hK3.head
        go_wp2
        go_roundw
        case rel => exact ⟨k + 1, by omega, by go_num, by rw [← hnext.out]; exact hK3.set (ctA d) (Nat.le_refl _) (by simp)⟩
        case measure => simp [intOf]; omega
    · have hks : k = s.size := by omega
      subst hks
      rw [List.take_of_length_le (by simp)] at hcc
      subst hcc
      have rc := hK.head
      have rz := hK.tail.head
      have hB := hK.2
      clear hr hK
      go_wp2
      refine bodyPost_ret (res_ct_t Tryz.results15 _ _ (w.heap.size + 1) (B.runC c0 s.data.toList) rfl (by simp [go_sem, rz])) rfl ⟨rfl, ?_⟩
      (repeat (first | (with_reducible assumption) | (with_reducible exact Below.refl _ _) | (with_reducible refine Below.drew ?_) | ((with_reducible refine Below.setCell ?_ ?_ _); rotate_left; (focus (first | omega | (simp; done) | (simp; omega)))) | ((with_reducible refine below_row ?_ ?_ _); rotate_left; (focus (first | omega | (simp; done) | (simp; omega)))) | ((with_reducible refine Below.alloc ?_ ?_ _); rotate_left; (focus (first | omega | (simp; done) | (simp; omega))))))
end Go.Proofs.YtcaeobkaoebndaaGreat
