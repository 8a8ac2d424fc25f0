/- The reference's Stuffed (layer 4): the head and its sum that a row begins with. -/
import Derived.Test.YtdpfmpbnahhjmaaRef4d
import Derived.Test.YtdpfmpbnahhjmaaRefStep
import Derived.Test.YtdpfmpbnahhjmaaFrame4
import Derived.Test.YtdpfmpbnahhjmaaTake
import Derived.Deep.RegionHeld3
import Derived.Deep.DrawnRows
import Derived.Deep.CutRange
import Derived.StillTailTactics
namespace Go.Proofs.Ytdpfmpbnahhjmaa
open Go.RowKit Go.Lib
attribute [local go_sem ↓] Go.wp_at_zero Go.wp_at_succ

/-- what the reference has unstuffed -/
structure B.Ref4 (L : List UInt8) (k : Nat) (x : St) (b : List UInt8) : Prop where
  go : goL (0, 0) [] 0 L = goL x b k (L.drop k)
  us : ust (L.take k) = some (x, b)
  zero : b = [] → x = (0, 0)
theorem B.ref4_start (L : List UInt8) : Ref4 L 0 (0, 0) [] := ⟨by simp, ust_nil, fun _ => rfl⟩
theorem B.Ref4.stop {L : List UInt8} {k : Nat} {x : St} {b : List UInt8} (h : Ref4 L k x b) (hs : stopB x b = true) : goL (0, 0) [] 0 L = (b, k, 0) := by rw [h.go, go_stop hs]
theorem B.Ref4.short {L : List UInt8} {k : Nat} {x : St} {b : List UInt8} (h : Ref4 L k x b) (hk : L.length ≤ k) (hs : stopB x b = false) : goL (0, 0) [] 0 L = ([], 0, 3) := by
  rw [h.go, List.drop_of_length_le hk]; unfold goL; rw [if_neg (by rw [hs]; simp)]
theorem B.Ref4.cons {L : List UInt8} {k : Nat} {x : St} {b : List UInt8} (h : Ref4 L k x b) (hk : k < L.length) (hs : stopB x b = false) : goL (0, 0) [] 0 L = if kind x L[k].toNat = 3 then ([], 0, 10) else if badB (nextB x b L[k]) then ([], 0, 12) else goL (kn x L[k].toNat) (nextB x b L[k]) (k + 1) (L.drop (k + 1)) := by
  rw [h.go, List.drop_eq_getElem_cons hk, goL, if_neg (by rw [hs]; simp)]
theorem B.Ref4.ne {L : List UInt8} {k : Nat} {x : St} {b : List UInt8} (h : Ref4 L k x b) (c : UInt8) : nextB x b c ≠ [] := by
  by_cases hb : b = []
  · have hx := h.zero hb
    subst hx
    unfold nextB
    rw [if_pos (kind_two (by simp))]
    simp
  · unfold nextB; split
    · simp
    · exact hb
theorem B.Ref4.next {L : List UInt8} {k : Nat} {x : St} {b : List UInt8} (h : Ref4 L k x b) (hk : k < L.length) (hs : stopB x b = false) (h3 : kind x L[k].toNat ≠ 3) (hb : badB (nextB x b L[k]) = false) : Ref4 L (k + 1) (kn x L[k].toNat) (nextB x b L[k]) := by
  refine ⟨?_, ?_, fun e => absurd e (h.ne _)⟩
  · rw [h.cons hk hs, if_neg h3, if_neg (by rw [hb]; simp)]
  · have e : L.take (k + 1) = L.take k ++ [L[k]] := by simp
    rw [e, ust_snoc, h.us]
    unfold uStep nextB
    simp only
    rw [if_neg h3]
theorem B.badB_two {q : List UInt8} (hn : 0 < q.length) : badB q = (decide ((sizeL q).2 = 12) || decide (q[0] = 49)) := by
  have hh : q.head? = some q[0] := by rw [List.head?_eq_getElem?, List.getElem?_eq_getElem hn]
  unfold badB
  rw [hh, Bool.eq_iff_iff]
  simp only [decide_eq_true_eq, Option.some.injEq, Bool.or_eq_true]

theorem B.nextB_other4 {b n : Nat} {d : List UInt8} {c : UInt8} (h : kind (b, n) c.toNat = 2) : nextB (b, n) d c = d := by unfold nextB; rw [if_neg (by omega)]
theorem B.nextB_data4 {b n : Nat} {d : List UInt8} {c : UInt8} (h : kind (b, n) c.toNat = 1) : nextB (b, n) d c = d ++ [c] := by unfold nextB; rw [if_pos h]
abbrev tV (bits : ByteArray) (n e : Int) : Array Value := #[.string bits, .int .i64 n, .int .i64 e]
theorem Two.other {w : World} {g h i : Nat} {u v : Value} {t : TypeId} (hT : Two w g u v t) (hg : g ≠ h) (x : Value) : Two (w.setCell ⟨h, i, none⟩ x) g u v t := by
  show (w.setCell ⟨h, i, none⟩ x).heap[g]? = _
  rw [Below.heap_setCell _ _ _ _ hg]; exact hT
theorem blk3_set0 {w : World} {g : Nat} {a b c : Value} {t : TypeId} (h : Blk w g #[a, b, c] t) (x : Value) : Blk (w.setCell ⟨g, 0, none⟩ x) g #[x, b, c] t := by
  have hlt := h.lt
  have h' : w.heap[g] = .cells #[a, b, c] t (0, 0) := by simpa [Array.getElem?_eq_getElem hlt] using (show w.heap[g]? = _ from h)
  show (w.heap.modify g _)[g]? = _
  rw [Array.getElem?_eq_getElem (by simpa using hlt), Array.getElem_modify_self, h']
  rfl
theorem blk3_set1 {w : World} {g : Nat} {a b c : Value} {t : TypeId} (h : Blk w g #[a, b, c] t) (x : Value) : Blk (w.setCell ⟨g, 1, none⟩ x) g #[a, x, c] t := by
  have hlt := h.lt
  have h' : w.heap[g] = .cells #[a, b, c] t (0, 0) := by simpa [Array.getElem?_eq_getElem hlt] using (show w.heap[g]? = _ from h)
  show (w.heap.modify g _)[g]? = _
  rw [Array.getElem?_eq_getElem (by simpa using hlt), Array.getElem_modify_self, h']
  rfl
theorem blk3_set2 {w : World} {g : Nat} {a b c : Value} {t : TypeId} (h : Blk w g #[a, b, c] t) (x : Value) : Blk (w.setCell ⟨g, 2, none⟩ x) g #[a, b, x] t := by
  have hlt := h.lt
  have h' : w.heap[g] = .cells #[a, b, c] t (0, 0) := by simpa [Array.getElem?_eq_getElem hlt] using (show w.heap[g]? = _ from h)
  show (w.heap.modify g _)[g]? = _
  rw [Array.getElem?_eq_getElem (by simpa using hlt), Array.getElem_modify_self, h']
  rfl
/-- the blocks of the call: the answer's, x's, t's -/
def RS (w : World) (g : Nat) (b n : Int) (bits : ByteArray) (k : Int) : Prop :=
  Two w (g + 1) (.int .u8 b) (.int .i64 n) 65 ∧ Blk w (g + 2) (tV bits k 0) 71 ∧ Blk w g (tV ⟨#[]⟩ 0 0) 71
theorem RS.keep {w wb : World} {g : Nat} {b n k : Int} {bits : ByteArray} (h : RS w g b n bits k) (kk : Below w.heap.size w wb) : RS wb g b n bits k := ⟨h.1.keep kk, h.2.1.keep kk, h.2.2.keep kk⟩
theorem RS.other {w : World} {g : Nat} {b n k : Int} {bits : ByteArray} (h : RS w g b n bits k) {j i : Nat} (hj : g + 2 < j) (x : Value) : RS (w.setCell ⟨j, i, none⟩ x) g b n bits k := ⟨h.1.other (by omega) x, h.2.1.other (by omega) x, h.2.2.other (by omega) x⟩
theorem RS.alloc {w : World} {g : Nat} {b n k : Int} {bits : ByteArray} (h : RS w g b n bits k) (o : Obj) : RS (w.alloc o) g b n bits k := ⟨h.1.alloc o, h.2.1.alloc o, h.2.2.alloc o⟩
theorem RS.drew {w : World} {g : Nat} {b n k : Int} {bits : ByteArray} (h : RS w g b n bits k) : RS w.drew g b n bits k := h
theorem RS.step {w : World} {g : Nat} {b n k : Int} {bits : ByteArray} (h : RS w g b n bits k) (y m k' : Int) : RS (((w.setCell ⟨g + 1, 0, none⟩ (.int .u8 y)).setCell ⟨g + 1, 1, none⟩ (.int .i64 m)).setCell ⟨g + 2, 1, none⟩ (.int .i64 k')) g y m bits k' :=
  ⟨((h.1.set0 _).set1 _).other (by omega) _, blk3_set1 ((h.2.1.other (by omega) _).other (by omega) _) _, ((h.2.2.other (by omega) _).other (by omega) _).other (by omega) _⟩
theorem RS.bits {w : World} {g : Nat} {b n k : Int} {bits : ByteArray} (h : RS w g b n bits k) (x : ByteArray) : RS (w.setCell ⟨g + 2, 0, none⟩ (.string x)) g b n x k :=
  ⟨h.1.other (by omega) _, blk3_set0 h.2.1 _, h.2.2.other (by omega) _⟩
theorem RS.lt {w : World} {g : Nat} {b n k : Int} {bits : ByteArray} (h : RS w g b n bits k) : g + 2 < w.heap.size := h.2.1.lt
theorem ret_T {a b : ByteArray} {c d e f : Int} (h : a = b) (h1 : c = d) (h2 : e = f) : Ending.returned (.agg (tV a c e)) = .returned (.agg (tV b d f)) := by rw [h, h1, h2]

set_option maxRecDepth 100000 in
set_option maxHeartbeats 16000000 in
theorem refstuffed_any (s : ByteArray) (w : World) (hr : B.right s = true) :
    Calls Try.prog 41 #[.string s] w fun e w' => e = .returned (.agg (tV ⟨(B.goL (0, 0) [] 0 s.data.toList).1.toArray⟩ (B.goL (0, 0) [] 0 s.data.toList).2.1 (B.goL (0, 0) [] 0 s.data.toList).2.2)) ∧ Below w.heap.size w w' := by
  have h4 := B.right_size hr
  have hra := B.right_all hr
  have hlen : s.data.toList.length = s.size := B.size_len s
  obtain ⟨R, hR⟩ : ∃ R, R = B.goL (0, 0) [] 0 s.data.toList := ⟨_, rfl⟩
  rw [← hR]
  have HR := Lib.hid hR
  clear hR
  obtain ⟨B0, hB0⟩ : ∃ b, b = w.heap.size := ⟨_, rfl⟩
  have HB := Lib.hid hB0
  rw [← hB0]
  clear hB0
  go_enter Try.func41, Try.ntmps41
  go_wp2
  rw [← HB.out]
  have hRS : RS (((w.alloc (.cells (tV ⟨#[]⟩ 0 0) 71)).alloc (.cells #[.int .u8 0, .int .i64 0] 65)).alloc (.cells (tV ⟨#[]⟩ 0 0) 71)) B0 0 0 ⟨#[]⟩ 0 :=
    ⟨(two_new' _ _ _ _ _ (by simp [HB.out])).alloc _, blk_new _ _ _ _ (by simp [HB.out]), ((blk_new w (tV ⟨#[]⟩ 0 0) 71 B0 HB.out).alloc _).alloc _⟩
  have hW : Below B0 w (((w.alloc (.cells (tV ⟨#[]⟩ 0 0) 71)).alloc (.cells #[.int .u8 0, .int .i64 0] 65)).alloc (.cells (tV ⟨#[]⟩ 0 0) 71)) := (((Below.refl _ _).alloc (by rw [HB.out]; exact Nat.le_refl _) _).alloc (by rw [HB.out]; simp) _).alloc (by rw [HB.out]; simp; omega) _
  go_loopw [5] (fun i wr => ∃ (k b n : Nat) (d : List UInt8), k ≤ s.size ∧ i = .int .i64 k ∧ B.Ref4 s.data.toList k (b, n) d ∧ RS wr B0 b n ⟨d.toArray⟩ k ∧ Below B0 w wr) (fun i _ => s.size - (intOf i).toNat)
  case atStart => exact ⟨0, 0, 0, [], Nat.zero_le _, rfl, B.ref4_start _, hRS, hW⟩
  case round =>
    clear hRS hW
    obtain ⟨k, b, n, d, hk, rfl, hA, hRS, hW⟩ := hrel
    have hall := B.all_take hra k
    have hmay := B.ust_may hall _ _ hA.us
    have hdl := B.ust_all hall _ _ hA.us
    rw [List.length_take, hlen] at hdl
    have hn5 : n ≤ 5 := by unfold B.may at hmay; simp only at hmay; omega
    obtain ⟨u, hu⟩ : ∃ u : ByteArray, u = ⟨d.toArray⟩ := ⟨_, rfl⟩
    have hul : u.data.toList = d := by rw [hu, list_of]
    have hus : u.size = d.length := by rw [hu, size_of]
    rw [← hu] at hRS
    have hur : B.right u = true := right_of_all (by omega) (by rw [hul]; exact hdl.1)
    have CS0 := fun w => refsize_any u w hur
    rw [hul] at CS0
    obtain ⟨sz, er, hse⟩ : ∃ sz er, B.sizeL d = (sz, er) := ⟨_, _, rfl⟩
    have hszb := B.size_le d
    rw [hse] at CS0 hszb
    simp only at CS0 hszb
    have hst : B.stopB (b, n) d = decide (er = 0 ∧ u.size = sz + 15 ∧ n < 5) := by unfold B.stopB; rw [hse, hus]
    have hu4 : u.size ≤ 4000 := by omega
    have hszi : (sz : Int) ≤ 103 := by omega
    have CS := Lib.hid CS0
    have t0 := hRS.2.1.cell 0 _ rfl
    have t1 := hRS.2.1.cell 1 _ rfl
    have t2 := hRS.2.1.cell 2 _ rfl
    have x1 := hRS.1.cell1
    have r0 := hRS.2.2.cell 0 _ rfl
    have r1 := hRS.2.2.cell 1 _ rfl
    have r2 := hRS.2.2.cell 2 _ rfl
    have z0 := hRS.2.2.free 0
    have z1 := hRS.2.2.free 1
    have z2 := hRS.2.2.free 2
    clear CS0 hszb
    by_cases hlt : k < s.size
    · by_cases hs : er = 0 ∧ u.size = sz + 15 ∧ n < 5
      · have hE := Lib.hid (hA.stop (by rw [hst]; simpa using hs))
        have e1 : ((er : Int) == 0) = true := by simp; omega
        have e2 : ((u.size : Int) == (sz : Int) + 15) = true := by simp; omega
        have e3 : (n : Int) < 5 := by omega
        have hU := Lib.hid hu
        have HRS := Lib.hid hRS
        have HW := Lib.hid hW
        clear hA hall hmay hdl hst hs hu hul hus hur hRS hW hra hr hse
        go_wp2_with (go_at_call 21; (with_reducible refine (CS.out _).mono ?_); rintro e w' ⟨rfl, rfl⟩)
        have hZ6 := blk3_set2 (blk3_set1 (blk3_set0 HRS.out.2.2 (.string u)) (.int .i64 k)) (.int .i64 0)
        have hb6 := ((HW.out.setCell (show B0 ≤ B0 from Nat.le_refl _) (.string u) (p := ⟨B0, 0, none⟩)).setCell (show B0 ≤ B0 from Nat.le_refl _) (.int .i64 k) (p := ⟨B0, 1, none⟩)).setCell (show B0 ≤ B0 from Nat.le_refl _) (.int .i64 0) (p := ⟨B0, 2, none⟩)
        revert hZ6 hb6
        generalize ((wr.setCell ⟨B0, 0, none⟩ (.string u)).setCell ⟨B0, 1, none⟩ (.int .i64 k)).setCell ⟨B0, 2, none⟩ (.int .i64 0) = W6
        intro hZ6 hb6
        have k0 := hZ6.cell 0 _ rfl
        have k1 := hZ6.cell 1 _ rfl
        have k2 := hZ6.cell 2 _ rfl
        refine bodyPost_ret (v := .agg #[(.string u), (.int .i64 k), (.int .i64 0)]) (by simp [results, Try.results41, go_sem, k0, k1, k2]) rfl ⟨?_, hb6⟩
        exact ret_T (by rw [HR.out, hE.out, hU.out]) (by rw [HR.out, hE.out]) (by rw [HR.out, hE.out]; rfl)
      · have hns : B.stopB (b, n) d = false := by rw [hst]; simpa using hs
        have hltL : k < s.data.toList.length := by omega
        have hok : B.okc s[k] = true := List.all_eq_true.1 hra _ (List.getElem_mem hltL)
        have q0 : (0 : Int) ≤ (k : Int) := by omega
        have q1 : (k : Int) < (s.size : Int) := by omega
        have q2 : (k : Int) ≤ 4000 := by omega
        have hway : ((er : Int) == 0) = false ∨ ((er : Int) == 0) = true ∧ (((u.size : Int) == (sz : Int) + 15) = false ∨ ((u.size : Int) == (sz : Int) + 15) = true ∧ decide ((n : Int) < 5) = false) := by
          by_cases he : er = 0
          · right
            refine ⟨by simp; omega, ?_⟩
            by_cases hz : u.size = sz + 15
            · right
              exact ⟨by simp; omega, by simp; omega⟩
            · left; simp; omega
          · left; simp; omega
        have CT0 := fun w => refstp_any b s[k].toNat n w hn5
        obtain ⟨y, m, hy⟩ : ∃ y m, (y, m) = B.kn (b, n) s[k].toNat := ⟨_, _, rfl⟩
        rw [← hy] at CT0
        clear hst hs t0 t1 t2 x1 r0 r1 r2 z0 z1 z2
        have t0 := hRS.2.1.cell 0 _ rfl
        have t1 := hRS.2.1.cell 1 _ rfl
        have x1 := hRS.1.cell1
        by_cases h3 : B.kind (b, n) s[k].toNat = 3
        · rw [h3] at CT0
          have CT := Lib.hid CT0
          have hE := Lib.hid (show B.goL (0, 0) [] 0 s.data.toList = ([], 0, 10) by rw [hA.cons hltL hns, if_pos (show B.kind (b, n) s.data.toList[k].toNat = 3 from h3)])
          clear CT0 hA hall hmay hdl hu hul hus hur hra hr hok hns h3 hy hse
          rcases hway with e1 | ⟨e1, e2 | ⟨e2, e3⟩⟩
          all_goals
            have KS := Lib.hid (show ∀ wa wb, Below wa.heap.size wa wb → (Below B0 w wa ∧ wa.cell? ⟨B0 + 1, 0, none⟩ = some (.int .u8 b) ∧ wa.cell? ⟨B0 + 1, 1, none⟩ = some (.int .i64 n) ∧ RS wa B0 b n u k) → (Below B0 w wb ∧ wb.cell? ⟨B0 + 1, 0, none⟩ = some (.int .u8 b) ∧ wb.cell? ⟨B0 + 1, 1, none⟩ = some (.int .i64 n) ∧ RS wb B0 b n u k) from fun wa wb kk ⟨h1, _, _, h4⟩ =>
              have h5 := h4.keep kk
              ⟨below_keep h1 kk (by have := h4.lt; omega), h5.1.cell0, h5.1.cell1, h5⟩)
            have KC := Lib.hid (show ∀ wa h i v, (Below B0 w wa ∧ wa.cell? ⟨B0 + 1, 0, none⟩ = some (.int .u8 b) ∧ wa.cell? ⟨B0 + 1, 1, none⟩ = some (.int .i64 n) ∧ RS wa B0 b n u k) → B0 + 2 < h → (Below B0 w (wa.setCell ⟨h, i, none⟩ v) ∧ (wa.setCell ⟨h, i, none⟩ v).cell? ⟨B0 + 1, 0, none⟩ = some (.int .u8 b) ∧ (wa.setCell ⟨h, i, none⟩ v).cell? ⟨B0 + 1, 1, none⟩ = some (.int .i64 n) ∧ RS (wa.setCell ⟨h, i, none⟩ v) B0 b n u k) from fun wa h i v ⟨h1, _, _, h4⟩ hg =>
              have h5 := h4.other hg v
              ⟨h1.setCell (show B0 ≤ h by omega) _, h5.1.cell0, h5.1.cell1, h5⟩)
            have hz' := hRS.lt
            have hd1 : Below B0 w wr.drew := hW.drew
            have hd2 : RS wr.drew B0 b n u k := hRS
            have x0 := hRS.1.cell0
            go_wp2_with (go_at_call 21; (with_reducible refine (CS.out _).mono ?_); rintro e w' ⟨rfl, rfl⟩)
            go_region_held3 (fun w' => Below B0 w w' ∧ w'.cell? ⟨B0 + 1, 0, none⟩ = some (.int .u8 b) ∧ w'.cell? ⟨B0 + 1, 1, none⟩ = some (.int .i64 n) ∧ RS w' B0 b n u k)
              (first | assumption | exact ⟨hd1, hd2.1.cell0, hd2.1.cell1, hd2⟩ | exact KS.out _ _ ((Below.refl _ _).alloc (Nat.le_refl _) _) (by assumption) | exact KC.out _ _ _ _ (KC.out _ _ _ _ (by assumption) hz') hz')
              (first
                | (go_at_call 57; (with_reducible refine (CT.out _).mono ?_); rintro e w1 ⟨rfl, hb1⟩; have hN := (show Two ((wr.alloc (.cells #[.int .u8 0, .int .i64 0] 65)).drew) wr.heap.size (.int .u8 0) (.int .i64 0) 65 from two_new _ _ _ _).keep hb1; have hn0 := hN.cell0; have hn1 := hN.cell1; have hn2 := hN.free0; have hn3 := hN.free1; have hS := KS.out _ _ hb1 (by assumption))
                | (go_at_call 57; (with_reducible refine (CT.out _).mono ?_); rintro e w1 ⟨rfl, hb1⟩; have hS := KS.out _ _ hb1 (by assumption)))
            · have hbW : Below B0 w (w1.alloc (.cells #[.int .u8 y, .int .i64 m] 65)) := hS.1.alloc (by have := hS.2.2.2.lt; omega) _
              have hRx := hS.2.2.2.alloc (.cells #[.int .u8 y, .int .i64 m] 65)
              have hTy := two_new w1 (.int .u8 y) (.int .i64 m) 65
              have hgy : B0 + 2 < w1.heap.size := hS.2.2.2.lt
              revert hbW hRx hTy hgy
              generalize w1.alloc (.cells #[.int .u8 y, .int .i64 m] 65) = W
              generalize w1.heap.size = gy
              intro hbW hRx hTy hgy
              have HRS := Lib.hid hRx
              have HW := Lib.hid hbW
              have hy0 := hTy.cell0
              have hy1 := hTy.cell1
              clear hRx hbW hTy
              have x0 := HRS.out.1.cell0
              have x1 := HRS.out.1.cell1
              have v0 := HRS.out.1.free0
              have v1 := HRS.out.1.free1
              have t0 := HRS.out.2.1.cell 0 _ rfl
              have t1 := HRS.out.2.1.cell 1 _ rfl
              have t2 := HRS.out.2.1.cell 2 _ rfl
              have s0 := HRS.out.2.1.free 0
              have s1 := HRS.out.2.1.free 1
              have s2 := HRS.out.2.1.free 2
              have r0 := HRS.out.2.2.cell 0 _ rfl
              have r1 := HRS.out.2.2.cell 1 _ rfl
              have r2 := HRS.out.2.2.cell 2 _ rfl
              have z0 := HRS.out.2.2.free 0
              have z1 := HRS.out.2.2.free 1
              have z2 := HRS.out.2.2.free 2
              go_wp2
              have HRS3 := HRS.out.step y m ((k : Int) + 1)
              have HW3 : Below B0 w (((W.setCell ⟨B0 + 1, 0, none⟩ (.int .u8 y)).setCell ⟨B0 + 1, 1, none⟩ (.int .i64 m)).setCell ⟨B0 + 2, 1, none⟩ (.int .i64 ((k : Int) + 1))) := ((HW.out.setCell (show B0 ≤ B0 + 1 by omega) _ (p := ⟨B0 + 1, 0, none⟩)).setCell (show B0 ≤ B0 + 1 by omega) _ (p := ⟨B0 + 1, 1, none⟩)).setCell (show B0 ≤ B0 + 2 by omega) _ (p := ⟨B0 + 2, 1, none⟩)
              have hZ6 := blk3_set2 (blk3_set1 (blk3_set0 HRS3.2.2 (.string ⟨#[]⟩)) (.int .i64 0)) (.int .i64 10)
              have hb6 := ((HW3.setCell (show B0 ≤ B0 from Nat.le_refl _) (.string ⟨#[]⟩) (p := ⟨B0, 0, none⟩)).setCell (show B0 ≤ B0 from Nat.le_refl _) (.int .i64 0) (p := ⟨B0, 1, none⟩)).setCell (show B0 ≤ B0 from Nat.le_refl _) (.int .i64 10) (p := ⟨B0, 2, none⟩)
              revert hZ6 hb6
              generalize (((((W.setCell ⟨B0 + 1, 0, none⟩ (.int .u8 y)).setCell ⟨B0 + 1, 1, none⟩ (.int .i64 m)).setCell ⟨B0 + 2, 1, none⟩ (.int .i64 ((k : Int) + 1))).setCell ⟨B0, 0, none⟩ (.string ⟨#[]⟩)).setCell ⟨B0, 1, none⟩ (.int .i64 0)).setCell ⟨B0, 2, none⟩ (.int .i64 10) = W6
              intro hZ6 hb6
              have k0 := hZ6.cell 0 _ rfl
              have k1 := hZ6.cell 1 _ rfl
              have k2 := hZ6.cell 2 _ rfl
              refine bodyPost_ret (v := .agg #[(.string ⟨#[]⟩), (.int .i64 0), (.int .i64 10)]) (by simp [results, Try.results41, go_sem, k0, k1, k2]) rfl ⟨?_, hb6⟩
              exact ret_T (by rw [HR.out, hE.out]) (by rw [HR.out, hE.out]; rfl) (by rw [HR.out, hE.out]; rfl)
            all_goals
              have hN2 := (hN.set0 (.int .u8 y)).set1 (.int .i64 m)
              have hS2 := KC.out _ wr.heap.size 1 (.int .i64 m) (KC.out _ wr.heap.size 0 (.int .u8 y) hS hz') hz'
              have hbW := hS2.1
              have hRx := hS2.2.2.2
              have hTy := hN2
              have hgy : B0 + 2 < wr.heap.size := hz'
              clear hS2 hN2
              revert hbW hRx hTy hgy
              generalize (w1.setCell ⟨wr.heap.size, 0, none⟩ (.int .u8 y)).setCell ⟨wr.heap.size, 1, none⟩ (.int .i64 m) = W
              generalize wr.heap.size = gy
              intro hbW hRx hTy hgy
              have HRS := Lib.hid hRx
              have HW := Lib.hid hbW
              have hy0 := hTy.cell0
              have hy1 := hTy.cell1
              clear hRx hbW hTy
              have x0 := HRS.out.1.cell0
              have x1 := HRS.out.1.cell1
              have v0 := HRS.out.1.free0
              have v1 := HRS.out.1.free1
              have t0 := HRS.out.2.1.cell 0 _ rfl
              have t1 := HRS.out.2.1.cell 1 _ rfl
              have t2 := HRS.out.2.1.cell 2 _ rfl
              have s0 := HRS.out.2.1.free 0
              have s1 := HRS.out.2.1.free 1
              have s2 := HRS.out.2.1.free 2
              have r0 := HRS.out.2.2.cell 0 _ rfl
              have r1 := HRS.out.2.2.cell 1 _ rfl
              have r2 := HRS.out.2.2.cell 2 _ rfl
              have z0 := HRS.out.2.2.free 0
              have z1 := HRS.out.2.2.free 1
              have z2 := HRS.out.2.2.free 2
              go_wp2
              have HRS3 := HRS.out.step y m ((k : Int) + 1)
              have HW3 : Below B0 w (((W.setCell ⟨B0 + 1, 0, none⟩ (.int .u8 y)).setCell ⟨B0 + 1, 1, none⟩ (.int .i64 m)).setCell ⟨B0 + 2, 1, none⟩ (.int .i64 ((k : Int) + 1))) := ((HW.out.setCell (show B0 ≤ B0 + 1 by omega) _ (p := ⟨B0 + 1, 0, none⟩)).setCell (show B0 ≤ B0 + 1 by omega) _ (p := ⟨B0 + 1, 1, none⟩)).setCell (show B0 ≤ B0 + 2 by omega) _ (p := ⟨B0 + 2, 1, none⟩)
              have hZ6 := blk3_set2 (blk3_set1 (blk3_set0 HRS3.2.2 (.string ⟨#[]⟩)) (.int .i64 0)) (.int .i64 10)
              have hb6 := ((HW3.setCell (show B0 ≤ B0 from Nat.le_refl _) (.string ⟨#[]⟩) (p := ⟨B0, 0, none⟩)).setCell (show B0 ≤ B0 from Nat.le_refl _) (.int .i64 0) (p := ⟨B0, 1, none⟩)).setCell (show B0 ≤ B0 from Nat.le_refl _) (.int .i64 10) (p := ⟨B0, 2, none⟩)
              revert hZ6 hb6
              generalize (((((W.setCell ⟨B0 + 1, 0, none⟩ (.int .u8 y)).setCell ⟨B0 + 1, 1, none⟩ (.int .i64 m)).setCell ⟨B0 + 2, 1, none⟩ (.int .i64 ((k : Int) + 1))).setCell ⟨B0, 0, none⟩ (.string ⟨#[]⟩)).setCell ⟨B0, 1, none⟩ (.int .i64 0)).setCell ⟨B0, 2, none⟩ (.int .i64 10) = W6
              intro hZ6 hb6
              have k0 := hZ6.cell 0 _ rfl
              have k1 := hZ6.cell 1 _ rfl
              have k2 := hZ6.cell 2 _ rfl
              refine bodyPost_ret (v := .agg #[(.string ⟨#[]⟩), (.int .i64 0), (.int .i64 10)]) (by simp [results, Try.results41, go_sem, k0, k1, k2]) rfl ⟨?_, hb6⟩
              exact ret_T (by rw [HR.out, hE.out]) (by rw [HR.out, hE.out]; rfl) (by rw [HR.out, hE.out]; rfl)
        · have hcons := hA.cons hltL hns
          have h3' : ¬ B.kind (b, n) s.data.toList[k].toNat = 3 := h3
          have hne := hA.ne s[k]
          have hqa := B.nextB_all (x := (b, n)) hdl.1 hok
          have hql := B.nextB_length (x := (b, n)) (b := d) s[k]
          obtain ⟨q, hqq⟩ : ∃ q, q = B.nextB (b, n) d s[k] := ⟨_, rfl⟩
          have hqq' : q = B.nextB (b, n) d s.data.toList[k] := hqq
          have hy' : (y, m) = B.kn (b, n) s.data.toList[k].toNat := hy
          rw [← hqq'] at hcons
          rw [← hqq] at hne hqa hql
          have hu0 : 0 < q.length := by rcases q with _ | _; exact absurd rfl hne; simp
          rcases B.kind_le (b, n) s[k].toNat with hkd | hkd | hkd
          · rw [hkd] at CT0
            have CT := Lib.hid CT0
            have hqd : q = d ++ [s[k]] := by rw [hqq]; exact B.nextB_data4 hkd
            obtain ⟨uq, huq⟩ : ∃ uq : ByteArray, uq = ⟨q.toArray⟩ := ⟨_, rfl⟩
            have huql : uq.data.toList = q := by rw [huq, list_of]
            have huqs : uq.size = q.length := by rw [huq, size_of]
            have huqr : B.right uq = true := right_of_all (by omega) (by rw [huql]; exact hqa)
            have hu00 : uq[0]'(by omega) = q[0] := by subst huq; exact getElem_of q 0 _
            have hO := Lib.hid (show u ++ s.extract k (k + 1) = uq by rw [hu, huq, hqd]; exact B.out_snoc d s k hlt)
            have HU := Lib.hid huq
            have hu0' : 0 < uq.size := by omega
            have CSq0 := fun w => refsize_any uq w huqr
            rw [huql] at CSq0
            obtain ⟨sz2, er2, hsq⟩ : ∃ sz er, B.sizeL q = (sz, er) := ⟨_, _, rfl⟩
            rw [hsq] at CSq0
            have CSq := Lib.hid CSq0
            have y1' : IntKind.i64.wrap ((k : Int) + 1) = (k : Int) + 1 := IntWalk.i64_in _ (by omega)
            have qs : ¬ 9223372036854775807 < u.size + (min (k + 1) s.size - k) := by omega
            have q3 : (0 : Int) ≤ (k : Int) + 1 := by omega
            have q4 : (k : Int) + 1 ≤ (s.size : Int) := by omega
            have q5 : ((k : Int) + 1).toNat = k + 1 := by omega
            have q6 : (k : Int) ≤ (k : Int) + 1 := by omega
            have hbad : (((er2 : Int) == 12) = true ∧ Hid (B.goL (0, 0) [] 0 s.data.toList = ([], 0, 12))) ∨ (((er2 : Int) == 12) = false ∧ ((uq[0].toNat : Int) == 49) = true ∧ Hid (B.goL (0, 0) [] 0 s.data.toList = ([], 0, 12))) ∨ (((er2 : Int) == 12) = false ∧ ((uq[0].toNat : Int) == 49) = false ∧ Hid (B.Ref4 s.data.toList (k + 1) (y, m) q)) := by
              have hb2 := B.badB_two hu0
              rw [hsq] at hb2
              simp only at hb2
              have eB : B.badB q = true → B.goL (0, 0) [] 0 s.data.toList = ([], 0, 12) := fun e => by rw [hcons, if_neg h3', if_pos e]
              have eN : B.badB q = false → B.Ref4 s.data.toList (k + 1) (y, m) q := fun e => by
                have := hA.next hltL hns h3 (show B.badB (B.nextB (b, n) d s.data.toList[k]) = false by rw [← hqq']; exact e)
                rw [hqq', hy']; exact this
              by_cases e12 : er2 = 12
              · exact .inl ⟨by simp; omega, Lib.hid (eB (by rw [hb2]; simp [e12]))⟩
              · by_cases e49 : q[0] = 49
                · exact .inr (.inl ⟨by simp; omega, by rw [hu00, e49]; rfl, Lib.hid (eB (by rw [hb2]; simp [e49]))⟩)
                · refine .inr (.inr ⟨by simp; omega, ?_, Lib.hid (eN (by rw [hb2]; simp [e12, e49]))⟩)
                  rw [hu00]; simp only [beq_eq_false_iff_ne, ne_eq]
                  intro e; exact e49 (UInt8.toNat_inj.1 (show q[0].toNat = 49 by omega))
            clear CT0 CSq0 hA hall hmay hdl hu hul hus hur hra hr hok hns h3 hy hcons h3' hne hqa hql hqq hqq' hy' hqd huq huql huqs huqr hu00 hsq hkd hse
            rcases hway with e1 | ⟨e1, e2 | ⟨e2, e3⟩⟩
            all_goals
              have KS := Lib.hid (show ∀ wa wb, Below wa.heap.size wa wb → (Below B0 w wa ∧ wa.cell? ⟨B0 + 1, 0, none⟩ = some (.int .u8 b) ∧ wa.cell? ⟨B0 + 1, 1, none⟩ = some (.int .i64 n) ∧ RS wa B0 b n u k) → (Below B0 w wb ∧ wb.cell? ⟨B0 + 1, 0, none⟩ = some (.int .u8 b) ∧ wb.cell? ⟨B0 + 1, 1, none⟩ = some (.int .i64 n) ∧ RS wb B0 b n u k) from fun wa wb kk ⟨h1, _, _, h4⟩ =>
                have h5 := h4.keep kk
                ⟨below_keep h1 kk (by have := h4.lt; omega), h5.1.cell0, h5.1.cell1, h5⟩)
              have KC := Lib.hid (show ∀ wa h i v, (Below B0 w wa ∧ wa.cell? ⟨B0 + 1, 0, none⟩ = some (.int .u8 b) ∧ wa.cell? ⟨B0 + 1, 1, none⟩ = some (.int .i64 n) ∧ RS wa B0 b n u k) → B0 + 2 < h → (Below B0 w (wa.setCell ⟨h, i, none⟩ v) ∧ (wa.setCell ⟨h, i, none⟩ v).cell? ⟨B0 + 1, 0, none⟩ = some (.int .u8 b) ∧ (wa.setCell ⟨h, i, none⟩ v).cell? ⟨B0 + 1, 1, none⟩ = some (.int .i64 n) ∧ RS (wa.setCell ⟨h, i, none⟩ v) B0 b n u k) from fun wa h i v ⟨h1, _, _, h4⟩ hg =>
                have h5 := h4.other hg v
                ⟨h1.setCell (show B0 ≤ h by omega) _, h5.1.cell0, h5.1.cell1, h5⟩)
              have hz' := hRS.lt
              have hd1 : Below B0 w wr.drew := hW.drew
              have hd2 : RS wr.drew B0 b n u k := hRS
              have x0 := hRS.1.cell0
              go_wp2_with (go_at_call 21; (with_reducible refine (CS.out _).mono ?_); rintro e w' ⟨rfl, rfl⟩)
              go_region_held3 (fun w' => Below B0 w w' ∧ w'.cell? ⟨B0 + 1, 0, none⟩ = some (.int .u8 b) ∧ w'.cell? ⟨B0 + 1, 1, none⟩ = some (.int .i64 n) ∧ RS w' B0 b n u k)
                (first | assumption | exact ⟨hd1, hd2.1.cell0, hd2.1.cell1, hd2⟩ | exact KS.out _ _ ((Below.refl _ _).alloc (Nat.le_refl _) _) (by assumption) | exact KC.out _ _ _ _ (KC.out _ _ _ _ (by assumption) hz') hz')
                (first
                  | (go_at_call 57; (with_reducible refine (CT.out _).mono ?_); rintro e w1 ⟨rfl, hb1⟩; have hN := (show Two ((wr.alloc (.cells #[.int .u8 0, .int .i64 0] 65)).drew) wr.heap.size (.int .u8 0) (.int .i64 0) 65 from two_new _ _ _ _).keep hb1; have hn0 := hN.cell0; have hn1 := hN.cell1; have hn2 := hN.free0; have hn3 := hN.free1; have hS := KS.out _ _ hb1 (by assumption))
                  | (go_at_call 57; (with_reducible refine (CT.out _).mono ?_); rintro e w1 ⟨rfl, hb1⟩; have hS := KS.out _ _ hb1 (by assumption)))
              · have hbW : Below B0 w (w1.alloc (.cells #[.int .u8 y, .int .i64 m] 65)) := hS.1.alloc (by have := hS.2.2.2.lt; omega) _
                have hRx := hS.2.2.2.alloc (.cells #[.int .u8 y, .int .i64 m] 65)
                have hTy := two_new w1 (.int .u8 y) (.int .i64 m) 65
                have hgy : B0 + 2 < w1.heap.size := hS.2.2.2.lt
                revert hbW hRx hTy hgy
                generalize w1.alloc (.cells #[.int .u8 y, .int .i64 m] 65) = W
                generalize w1.heap.size = gy
                intro hbW hRx hTy hgy
                have HRS := Lib.hid hRx
                have HW := Lib.hid hbW
                have hy0 := hTy.cell0
                have hy1 := hTy.cell1
                clear hRx hbW hTy
                have x0 := HRS.out.1.cell0
                have x1 := HRS.out.1.cell1
                have v0 := HRS.out.1.free0
                have v1 := HRS.out.1.free1
                have t0 := HRS.out.2.1.cell 0 _ rfl
                have t1 := HRS.out.2.1.cell 1 _ rfl
                have t2 := HRS.out.2.1.cell 2 _ rfl
                have s0 := HRS.out.2.1.free 0
                have s1 := HRS.out.2.1.free 1
                have s2 := HRS.out.2.1.free 2
                have r0 := HRS.out.2.2.cell 0 _ rfl
                have r1 := HRS.out.2.2.cell 1 _ rfl
                have r2 := HRS.out.2.2.cell 2 _ rfl
                have z0 := HRS.out.2.2.free 0
                have z1 := HRS.out.2.2.free 1
                have z2 := HRS.out.2.2.free 2
                have HRS3 := HRS.out.step y m ((k : Int) + 1)
                have HW3 : Below B0 w (((W.setCell ⟨B0 + 1, 0, none⟩ (.int .u8 y)).setCell ⟨B0 + 1, 1, none⟩ (.int .i64 m)).setCell ⟨B0 + 2, 1, none⟩ (.int .i64 ((k : Int) + 1))) := ((HW.out.setCell (show B0 ≤ B0 + 1 by omega) _ (p := ⟨B0 + 1, 0, none⟩)).setCell (show B0 ≤ B0 + 1 by omega) _ (p := ⟨B0 + 1, 1, none⟩)).setCell (show B0 ≤ B0 + 2 by omega) _ (p := ⟨B0 + 2, 1, none⟩)
                go_wp2
                revert HRS3 HW3
                generalize (((W.setCell ⟨B0 + 1, 0, none⟩ (.int .u8 y)).setCell ⟨B0 + 1, 1, none⟩ (.int .i64 m)).setCell ⟨B0 + 2, 1, none⟩ (.int .i64 ((k : Int) + 1))) = W3
                intro HRS3 HW3
                clear x0 x1 v0 v1 t0 t1 t2 s0 s1 s2 r0 r1 r2 z0 z1 z2
                clear HRS HW hy0 hy1
                refine wp_region_still_tail 9 (by kernel_rfl) (by kernel_rfl) ?_
                change wpStill _ _ W3.drew (fun a' => wpList _ _ _ _ a' W3.drew) _ _
                have HRS4 : RS W3.drew B0 y m u ((k : Int) + 1) := HRS3
                have HW4 : Below B0 w W3.drew := HW3.drew
                clear HRS3 HW3
                generalize W3.drew = W4 at *
                have HRS := Lib.hid HRS4
                have x0 := HRS.out.1.cell0
                have x1 := HRS.out.1.cell1
                have v0 := HRS.out.1.free0
                have v1 := HRS.out.1.free1
                have t0 := HRS.out.2.1.cell 0 _ rfl
                have t1 := HRS.out.2.1.cell 1 _ rfl
                have t2 := HRS.out.2.1.cell 2 _ rfl
                have s0 := HRS.out.2.1.free 0
                have s1 := HRS.out.2.1.free 1
                have s2 := HRS.out.2.1.free 2
                have r0 := HRS.out.2.2.cell 0 _ rfl
                have r1 := HRS.out.2.2.cell 1 _ rfl
                have r2 := HRS.out.2.2.cell 2 _ rfl
                have z0 := HRS.out.2.2.free 0
                have z1 := HRS.out.2.2.free 1
                have z2 := HRS.out.2.2.free 2
                simp only [List.take_succ_cons, List.take_zero, List.drop_succ_cons, List.drop_zero]
                repeat still_step
                refine wpStill_nil ?_
                rw [hO.out]
                have HRS5 := HRS4.bits uq
                have HW5 : Below B0 w (W4.setCell ⟨B0 + 2, 0, none⟩ (.string uq)) := HW4.setCell (show B0 ≤ B0 + 2 by omega) _ (p := ⟨B0 + 2, 0, none⟩)
                rcases hbad with ⟨e12, hE⟩ | ⟨e12, e49, hE⟩ | ⟨e12, e49, hNx⟩
                · go_wp2_with (go_at_call 21; (with_reducible refine (CSq.out _).mono ?_); rintro e w' ⟨rfl, rfl⟩)
                  have hZ6 := blk3_set2 (blk3_set1 (blk3_set0 HRS5.2.2 (.string ⟨#[]⟩)) (.int .i64 0)) (.int .i64 12)
                  have hb6 := ((HW5.setCell (show B0 ≤ B0 from Nat.le_refl _) (.string ⟨#[]⟩) (p := ⟨B0, 0, none⟩)).setCell (show B0 ≤ B0 from Nat.le_refl _) (.int .i64 0) (p := ⟨B0, 1, none⟩)).setCell (show B0 ≤ B0 from Nat.le_refl _) (.int .i64 12) (p := ⟨B0, 2, none⟩)
                  revert hZ6 hb6
                  generalize (((W4.setCell ⟨B0 + 2, 0, none⟩ (.string uq)).setCell ⟨B0, 0, none⟩ (.string ⟨#[]⟩)).setCell ⟨B0, 1, none⟩ (.int .i64 0)).setCell ⟨B0, 2, none⟩ (.int .i64 12) = W6
                  intro hZ6 hb6
                  have k0 := hZ6.cell 0 _ rfl
                  have k1 := hZ6.cell 1 _ rfl
                  have k2 := hZ6.cell 2 _ rfl
                  refine bodyPost_ret (v := .agg #[(.string ⟨#[]⟩), (.int .i64 0), (.int .i64 12)]) (by simp [results, Try.results41, go_sem, k0, k1, k2]) rfl ⟨?_, hb6⟩
                  exact ret_T (by rw [HR.out, hE.out]) (by rw [HR.out, hE.out]; rfl) (by rw [HR.out, hE.out]; rfl)
                · go_wp2_with (go_at_call 21; (with_reducible refine (CSq.out _).mono ?_); rintro e w' ⟨rfl, rfl⟩)
                  have hZ6 := blk3_set2 (blk3_set1 (blk3_set0 HRS5.2.2 (.string ⟨#[]⟩)) (.int .i64 0)) (.int .i64 12)
                  have hb6 := ((HW5.setCell (show B0 ≤ B0 from Nat.le_refl _) (.string ⟨#[]⟩) (p := ⟨B0, 0, none⟩)).setCell (show B0 ≤ B0 from Nat.le_refl _) (.int .i64 0) (p := ⟨B0, 1, none⟩)).setCell (show B0 ≤ B0 from Nat.le_refl _) (.int .i64 12) (p := ⟨B0, 2, none⟩)
                  revert hZ6 hb6
                  generalize (((W4.setCell ⟨B0 + 2, 0, none⟩ (.string uq)).setCell ⟨B0, 0, none⟩ (.string ⟨#[]⟩)).setCell ⟨B0, 1, none⟩ (.int .i64 0)).setCell ⟨B0, 2, none⟩ (.int .i64 12) = W6
                  intro hZ6 hb6
                  have k0 := hZ6.cell 0 _ rfl
                  have k1 := hZ6.cell 1 _ rfl
                  have k2 := hZ6.cell 2 _ rfl
                  refine bodyPost_ret (v := .agg #[(.string ⟨#[]⟩), (.int .i64 0), (.int .i64 12)]) (by simp [results, Try.results41, go_sem, k0, k1, k2]) rfl ⟨?_, hb6⟩
                  exact ret_T (by rw [HR.out, hE.out]) (by rw [HR.out, hE.out]; rfl) (by rw [HR.out, hE.out]; rfl)
                · go_wp2_with (go_at_call 21; (with_reducible refine (CSq.out _).mono ?_); rintro e w' ⟨rfl, rfl⟩)
                  go_roundw
                  case rel => exact ⟨k + 1, y, m, q, hlt, by go_num, hNx.out, HU.out ▸ (by exact_mod_cast HRS5), HW5⟩
                  case measure => simp [intOf]; omega
              all_goals
                have hN2 := (hN.set0 (.int .u8 y)).set1 (.int .i64 m)
                have hS2 := KC.out _ wr.heap.size 1 (.int .i64 m) (KC.out _ wr.heap.size 0 (.int .u8 y) hS hz') hz'
                have hbW := hS2.1
                have hRx := hS2.2.2.2
                have hTy := hN2
                have hgy : B0 + 2 < wr.heap.size := hz'
                clear hS2 hN2
                revert hbW hRx hTy hgy
                generalize (w1.setCell ⟨wr.heap.size, 0, none⟩ (.int .u8 y)).setCell ⟨wr.heap.size, 1, none⟩ (.int .i64 m) = W
                generalize wr.heap.size = gy
                intro hbW hRx hTy hgy
                have HRS := Lib.hid hRx
                have HW := Lib.hid hbW
                have hy0 := hTy.cell0
                have hy1 := hTy.cell1
                clear hRx hbW hTy
                have x0 := HRS.out.1.cell0
                have x1 := HRS.out.1.cell1
                have v0 := HRS.out.1.free0
                have v1 := HRS.out.1.free1
                have t0 := HRS.out.2.1.cell 0 _ rfl
                have t1 := HRS.out.2.1.cell 1 _ rfl
                have t2 := HRS.out.2.1.cell 2 _ rfl
                have s0 := HRS.out.2.1.free 0
                have s1 := HRS.out.2.1.free 1
                have s2 := HRS.out.2.1.free 2
                have r0 := HRS.out.2.2.cell 0 _ rfl
                have r1 := HRS.out.2.2.cell 1 _ rfl
                have r2 := HRS.out.2.2.cell 2 _ rfl
                have z0 := HRS.out.2.2.free 0
                have z1 := HRS.out.2.2.free 1
                have z2 := HRS.out.2.2.free 2
                have HRS3 := HRS.out.step y m ((k : Int) + 1)
                have HW3 : Below B0 w (((W.setCell ⟨B0 + 1, 0, none⟩ (.int .u8 y)).setCell ⟨B0 + 1, 1, none⟩ (.int .i64 m)).setCell ⟨B0 + 2, 1, none⟩ (.int .i64 ((k : Int) + 1))) := ((HW.out.setCell (show B0 ≤ B0 + 1 by omega) _ (p := ⟨B0 + 1, 0, none⟩)).setCell (show B0 ≤ B0 + 1 by omega) _ (p := ⟨B0 + 1, 1, none⟩)).setCell (show B0 ≤ B0 + 2 by omega) _ (p := ⟨B0 + 2, 1, none⟩)
                go_wp2
                revert HRS3 HW3
                generalize (((W.setCell ⟨B0 + 1, 0, none⟩ (.int .u8 y)).setCell ⟨B0 + 1, 1, none⟩ (.int .i64 m)).setCell ⟨B0 + 2, 1, none⟩ (.int .i64 ((k : Int) + 1))) = W3
                intro HRS3 HW3
                clear x0 x1 v0 v1 t0 t1 t2 s0 s1 s2 r0 r1 r2 z0 z1 z2
                clear HRS HW hy0 hy1
                refine wp_region_still_tail 9 (by kernel_rfl) (by kernel_rfl) ?_
                change wpStill _ _ W3.drew (fun a' => wpList _ _ _ _ a' W3.drew) _ _
                have HRS4 : RS W3.drew B0 y m u ((k : Int) + 1) := HRS3
                have HW4 : Below B0 w W3.drew := HW3.drew
                clear HRS3 HW3
                generalize W3.drew = W4 at *
                have HRS := Lib.hid HRS4
                have x0 := HRS.out.1.cell0
                have x1 := HRS.out.1.cell1
                have v0 := HRS.out.1.free0
                have v1 := HRS.out.1.free1
                have t0 := HRS.out.2.1.cell 0 _ rfl
                have t1 := HRS.out.2.1.cell 1 _ rfl
                have t2 := HRS.out.2.1.cell 2 _ rfl
                have s0 := HRS.out.2.1.free 0
                have s1 := HRS.out.2.1.free 1
                have s2 := HRS.out.2.1.free 2
                have r0 := HRS.out.2.2.cell 0 _ rfl
                have r1 := HRS.out.2.2.cell 1 _ rfl
                have r2 := HRS.out.2.2.cell 2 _ rfl
                have z0 := HRS.out.2.2.free 0
                have z1 := HRS.out.2.2.free 1
                have z2 := HRS.out.2.2.free 2
                simp only [List.take_succ_cons, List.take_zero, List.drop_succ_cons, List.drop_zero]
                repeat still_step
                refine wpStill_nil ?_
                rw [hO.out]
                have HRS5 := HRS4.bits uq
                have HW5 : Below B0 w (W4.setCell ⟨B0 + 2, 0, none⟩ (.string uq)) := HW4.setCell (show B0 ≤ B0 + 2 by omega) _ (p := ⟨B0 + 2, 0, none⟩)
                rcases hbad with ⟨e12, hE⟩ | ⟨e12, e49, hE⟩ | ⟨e12, e49, hNx⟩
                · go_wp2_with (go_at_call 21; (with_reducible refine (CSq.out _).mono ?_); rintro e w' ⟨rfl, rfl⟩)
                  have hZ6 := blk3_set2 (blk3_set1 (blk3_set0 HRS5.2.2 (.string ⟨#[]⟩)) (.int .i64 0)) (.int .i64 12)
                  have hb6 := ((HW5.setCell (show B0 ≤ B0 from Nat.le_refl _) (.string ⟨#[]⟩) (p := ⟨B0, 0, none⟩)).setCell (show B0 ≤ B0 from Nat.le_refl _) (.int .i64 0) (p := ⟨B0, 1, none⟩)).setCell (show B0 ≤ B0 from Nat.le_refl _) (.int .i64 12) (p := ⟨B0, 2, none⟩)
                  revert hZ6 hb6
                  generalize (((W4.setCell ⟨B0 + 2, 0, none⟩ (.string uq)).setCell ⟨B0, 0, none⟩ (.string ⟨#[]⟩)).setCell ⟨B0, 1, none⟩ (.int .i64 0)).setCell ⟨B0, 2, none⟩ (.int .i64 12) = W6
                  intro hZ6 hb6
                  have k0 := hZ6.cell 0 _ rfl
                  have k1 := hZ6.cell 1 _ rfl
                  have k2 := hZ6.cell 2 _ rfl
                  refine bodyPost_ret (v := .agg #[(.string ⟨#[]⟩), (.int .i64 0), (.int .i64 12)]) (by simp [results, Try.results41, go_sem, k0, k1, k2]) rfl ⟨?_, hb6⟩
                  exact ret_T (by rw [HR.out, hE.out]) (by rw [HR.out, hE.out]; rfl) (by rw [HR.out, hE.out]; rfl)
                · go_wp2_with (go_at_call 21; (with_reducible refine (CSq.out _).mono ?_); rintro e w' ⟨rfl, rfl⟩)
                  have hZ6 := blk3_set2 (blk3_set1 (blk3_set0 HRS5.2.2 (.string ⟨#[]⟩)) (.int .i64 0)) (.int .i64 12)
                  have hb6 := ((HW5.setCell (show B0 ≤ B0 from Nat.le_refl _) (.string ⟨#[]⟩) (p := ⟨B0, 0, none⟩)).setCell (show B0 ≤ B0 from Nat.le_refl _) (.int .i64 0) (p := ⟨B0, 1, none⟩)).setCell (show B0 ≤ B0 from Nat.le_refl _) (.int .i64 12) (p := ⟨B0, 2, none⟩)
                  revert hZ6 hb6
                  generalize (((W4.setCell ⟨B0 + 2, 0, none⟩ (.string uq)).setCell ⟨B0, 0, none⟩ (.string ⟨#[]⟩)).setCell ⟨B0, 1, none⟩ (.int .i64 0)).setCell ⟨B0, 2, none⟩ (.int .i64 12) = W6
                  intro hZ6 hb6
                  have k0 := hZ6.cell 0 _ rfl
                  have k1 := hZ6.cell 1 _ rfl
                  have k2 := hZ6.cell 2 _ rfl
                  refine bodyPost_ret (v := .agg #[(.string ⟨#[]⟩), (.int .i64 0), (.int .i64 12)]) (by simp [results, Try.results41, go_sem, k0, k1, k2]) rfl ⟨?_, hb6⟩
                  exact ret_T (by rw [HR.out, hE.out]) (by rw [HR.out, hE.out]; rfl) (by rw [HR.out, hE.out]; rfl)
                · go_wp2_with (go_at_call 21; (with_reducible refine (CSq.out _).mono ?_); rintro e w' ⟨rfl, rfl⟩)
                  go_roundw
                  case rel => exact ⟨k + 1, y, m, q, hlt, by go_num, hNx.out, HU.out ▸ (by exact_mod_cast HRS5), HW5⟩
                  case measure => simp [intOf]; omega
          · rw [hkd] at CT0
            have CT := Lib.hid CT0
            have hqd : q = d := by rw [hqq]; exact B.nextB_other4 hkd
            have hu0' : 0 < u.size := by rw [hus, ← hqd]; exact hu0
            have hu00 : u[0]'(by omega) = q[0] := by subst hqd; subst hu; exact getElem_of q 0 _
            have hsq : B.sizeL q = (sz, er) := by rw [hqd]; exact hse
            have HU := Lib.hid hu
            have hbad : (((er : Int) == 12) = true ∧ Hid (B.goL (0, 0) [] 0 s.data.toList = ([], 0, 12))) ∨ (((er : Int) == 12) = false ∧ ((u[0].toNat : Int) == 49) = true ∧ Hid (B.goL (0, 0) [] 0 s.data.toList = ([], 0, 12))) ∨ (((er : Int) == 12) = false ∧ ((u[0].toNat : Int) == 49) = false ∧ Hid (B.Ref4 s.data.toList (k + 1) (y, m) q)) := by
              have hb2 := B.badB_two hu0
              rw [hsq] at hb2
              simp only at hb2
              have eB : B.badB q = true → B.goL (0, 0) [] 0 s.data.toList = ([], 0, 12) := fun e => by rw [hcons, if_neg h3', if_pos e]
              have eN : B.badB q = false → B.Ref4 s.data.toList (k + 1) (y, m) q := fun e => by
                have := hA.next hltL hns h3 (show B.badB (B.nextB (b, n) d s.data.toList[k]) = false by rw [← hqq']; exact e)
                rw [hqq', hy']; exact this
              by_cases e12 : er = 12
              · exact .inl ⟨by simp; omega, Lib.hid (eB (by rw [hb2]; simp [e12]))⟩
              · by_cases e49 : q[0] = 49
                · exact .inr (.inl ⟨by simp; omega, by rw [hu00, e49]; rfl, Lib.hid (eB (by rw [hb2]; simp [e49]))⟩)
                · refine .inr (.inr ⟨by simp; omega, ?_, Lib.hid (eN (by rw [hb2]; simp [e12, e49]))⟩)
                  rw [hu00]; simp only [beq_eq_false_iff_ne, ne_eq]
                  intro e; exact e49 (UInt8.toNat_inj.1 (show q[0].toNat = 49 by omega))
            rw [hqd] at hbad
            clear CT0 hA hall hmay hdl hu hul hus hur hra hr hok hns h3 hy hcons h3' hne hqa hql hqq hqq' hy' hqd hu00 hsq hkd hse
            rcases hway with e1 | ⟨e1, e2 | ⟨e2, e3⟩⟩
            all_goals
              have KS := Lib.hid (show ∀ wa wb, Below wa.heap.size wa wb → (Below B0 w wa ∧ wa.cell? ⟨B0 + 1, 0, none⟩ = some (.int .u8 b) ∧ wa.cell? ⟨B0 + 1, 1, none⟩ = some (.int .i64 n) ∧ RS wa B0 b n u k) → (Below B0 w wb ∧ wb.cell? ⟨B0 + 1, 0, none⟩ = some (.int .u8 b) ∧ wb.cell? ⟨B0 + 1, 1, none⟩ = some (.int .i64 n) ∧ RS wb B0 b n u k) from fun wa wb kk ⟨h1, _, _, h4⟩ =>
                have h5 := h4.keep kk
                ⟨below_keep h1 kk (by have := h4.lt; omega), h5.1.cell0, h5.1.cell1, h5⟩)
              have KC := Lib.hid (show ∀ wa h i v, (Below B0 w wa ∧ wa.cell? ⟨B0 + 1, 0, none⟩ = some (.int .u8 b) ∧ wa.cell? ⟨B0 + 1, 1, none⟩ = some (.int .i64 n) ∧ RS wa B0 b n u k) → B0 + 2 < h → (Below B0 w (wa.setCell ⟨h, i, none⟩ v) ∧ (wa.setCell ⟨h, i, none⟩ v).cell? ⟨B0 + 1, 0, none⟩ = some (.int .u8 b) ∧ (wa.setCell ⟨h, i, none⟩ v).cell? ⟨B0 + 1, 1, none⟩ = some (.int .i64 n) ∧ RS (wa.setCell ⟨h, i, none⟩ v) B0 b n u k) from fun wa h i v ⟨h1, _, _, h4⟩ hg =>
                have h5 := h4.other hg v
                ⟨h1.setCell (show B0 ≤ h by omega) _, h5.1.cell0, h5.1.cell1, h5⟩)
              have hz' := hRS.lt
              have hd1 : Below B0 w wr.drew := hW.drew
              have hd2 : RS wr.drew B0 b n u k := hRS
              have x0 := hRS.1.cell0
              go_wp2_with (go_at_call 21; (with_reducible refine (CS.out _).mono ?_); rintro e w' ⟨rfl, rfl⟩)
              go_region_held3 (fun w' => Below B0 w w' ∧ w'.cell? ⟨B0 + 1, 0, none⟩ = some (.int .u8 b) ∧ w'.cell? ⟨B0 + 1, 1, none⟩ = some (.int .i64 n) ∧ RS w' B0 b n u k)
                (first | assumption | exact ⟨hd1, hd2.1.cell0, hd2.1.cell1, hd2⟩ | exact KS.out _ _ ((Below.refl _ _).alloc (Nat.le_refl _) _) (by assumption) | exact KC.out _ _ _ _ (KC.out _ _ _ _ (by assumption) hz') hz')
                (first
                  | (go_at_call 57; (with_reducible refine (CT.out _).mono ?_); rintro e w1 ⟨rfl, hb1⟩; have hN := (show Two ((wr.alloc (.cells #[.int .u8 0, .int .i64 0] 65)).drew) wr.heap.size (.int .u8 0) (.int .i64 0) 65 from two_new _ _ _ _).keep hb1; have hn0 := hN.cell0; have hn1 := hN.cell1; have hn2 := hN.free0; have hn3 := hN.free1; have hS := KS.out _ _ hb1 (by assumption))
                  | (go_at_call 57; (with_reducible refine (CT.out _).mono ?_); rintro e w1 ⟨rfl, hb1⟩; have hS := KS.out _ _ hb1 (by assumption)))
              · have hbW : Below B0 w (w1.alloc (.cells #[.int .u8 y, .int .i64 m] 65)) := hS.1.alloc (by have := hS.2.2.2.lt; omega) _
                have hRx := hS.2.2.2.alloc (.cells #[.int .u8 y, .int .i64 m] 65)
                have hTy := two_new w1 (.int .u8 y) (.int .i64 m) 65
                have hgy : B0 + 2 < w1.heap.size := hS.2.2.2.lt
                revert hbW hRx hTy hgy
                generalize w1.alloc (.cells #[.int .u8 y, .int .i64 m] 65) = W
                generalize w1.heap.size = gy
                intro hbW hRx hTy hgy
                have HRS := Lib.hid hRx
                have HW := Lib.hid hbW
                have hy0 := hTy.cell0
                have hy1 := hTy.cell1
                clear hRx hbW hTy
                have x0 := HRS.out.1.cell0
                have x1 := HRS.out.1.cell1
                have v0 := HRS.out.1.free0
                have v1 := HRS.out.1.free1
                have t0 := HRS.out.2.1.cell 0 _ rfl
                have t1 := HRS.out.2.1.cell 1 _ rfl
                have t2 := HRS.out.2.1.cell 2 _ rfl
                have s0 := HRS.out.2.1.free 0
                have s1 := HRS.out.2.1.free 1
                have s2 := HRS.out.2.1.free 2
                have r0 := HRS.out.2.2.cell 0 _ rfl
                have r1 := HRS.out.2.2.cell 1 _ rfl
                have r2 := HRS.out.2.2.cell 2 _ rfl
                have z0 := HRS.out.2.2.free 0
                have z1 := HRS.out.2.2.free 1
                have z2 := HRS.out.2.2.free 2
                have HRS3 := HRS.out.step y m ((k : Int) + 1)
                have HW3 : Below B0 w (((W.setCell ⟨B0 + 1, 0, none⟩ (.int .u8 y)).setCell ⟨B0 + 1, 1, none⟩ (.int .i64 m)).setCell ⟨B0 + 2, 1, none⟩ (.int .i64 ((k : Int) + 1))) := ((HW.out.setCell (show B0 ≤ B0 + 1 by omega) _ (p := ⟨B0 + 1, 0, none⟩)).setCell (show B0 ≤ B0 + 1 by omega) _ (p := ⟨B0 + 1, 1, none⟩)).setCell (show B0 ≤ B0 + 2 by omega) _ (p := ⟨B0 + 2, 1, none⟩)
                rcases hbad with ⟨e12, hE⟩ | ⟨e12, e49, hE⟩ | ⟨e12, e49, hNx⟩
                · go_wp2_with (go_at_call 21; (with_reducible refine (CS.out _).mono ?_); rintro e w' ⟨rfl, rfl⟩)
                  have hZ6 := blk3_set2 (blk3_set1 (blk3_set0 HRS3.2.2 (.string ⟨#[]⟩)) (.int .i64 0)) (.int .i64 12)
                  have hb6 := ((HW3.setCell (show B0 ≤ B0 from Nat.le_refl _) (.string ⟨#[]⟩) (p := ⟨B0, 0, none⟩)).setCell (show B0 ≤ B0 from Nat.le_refl _) (.int .i64 0) (p := ⟨B0, 1, none⟩)).setCell (show B0 ≤ B0 from Nat.le_refl _) (.int .i64 12) (p := ⟨B0, 2, none⟩)
                  revert hZ6 hb6
                  generalize (((((W.setCell ⟨B0 + 1, 0, none⟩ (.int .u8 y)).setCell ⟨B0 + 1, 1, none⟩ (.int .i64 m)).setCell ⟨B0 + 2, 1, none⟩ (.int .i64 ((k : Int) + 1))).setCell ⟨B0, 0, none⟩ (.string ⟨#[]⟩)).setCell ⟨B0, 1, none⟩ (.int .i64 0)).setCell ⟨B0, 2, none⟩ (.int .i64 12) = W6
                  intro hZ6 hb6
                  have k0 := hZ6.cell 0 _ rfl
                  have k1 := hZ6.cell 1 _ rfl
                  have k2 := hZ6.cell 2 _ rfl
                  refine bodyPost_ret (v := .agg #[(.string ⟨#[]⟩), (.int .i64 0), (.int .i64 12)]) (by simp [results, Try.results41, go_sem, k0, k1, k2]) rfl ⟨?_, hb6⟩
                  exact ret_T (by rw [HR.out, hE.out]) (by rw [HR.out, hE.out]; rfl) (by rw [HR.out, hE.out]; rfl)
                · go_wp2_with (go_at_call 21; (with_reducible refine (CS.out _).mono ?_); rintro e w' ⟨rfl, rfl⟩)
                  have hZ6 := blk3_set2 (blk3_set1 (blk3_set0 HRS3.2.2 (.string ⟨#[]⟩)) (.int .i64 0)) (.int .i64 12)
                  have hb6 := ((HW3.setCell (show B0 ≤ B0 from Nat.le_refl _) (.string ⟨#[]⟩) (p := ⟨B0, 0, none⟩)).setCell (show B0 ≤ B0 from Nat.le_refl _) (.int .i64 0) (p := ⟨B0, 1, none⟩)).setCell (show B0 ≤ B0 from Nat.le_refl _) (.int .i64 12) (p := ⟨B0, 2, none⟩)
                  revert hZ6 hb6
                  generalize (((((W.setCell ⟨B0 + 1, 0, none⟩ (.int .u8 y)).setCell ⟨B0 + 1, 1, none⟩ (.int .i64 m)).setCell ⟨B0 + 2, 1, none⟩ (.int .i64 ((k : Int) + 1))).setCell ⟨B0, 0, none⟩ (.string ⟨#[]⟩)).setCell ⟨B0, 1, none⟩ (.int .i64 0)).setCell ⟨B0, 2, none⟩ (.int .i64 12) = W6
                  intro hZ6 hb6
                  have k0 := hZ6.cell 0 _ rfl
                  have k1 := hZ6.cell 1 _ rfl
                  have k2 := hZ6.cell 2 _ rfl
                  refine bodyPost_ret (v := .agg #[(.string ⟨#[]⟩), (.int .i64 0), (.int .i64 12)]) (by simp [results, Try.results41, go_sem, k0, k1, k2]) rfl ⟨?_, hb6⟩
                  exact ret_T (by rw [HR.out, hE.out]) (by rw [HR.out, hE.out]; rfl) (by rw [HR.out, hE.out]; rfl)
                · go_wp2_with (go_at_call 21; (with_reducible refine (CS.out _).mono ?_); rintro e w' ⟨rfl, rfl⟩)
                  go_roundw
                  case rel => exact ⟨k + 1, y, m, d, hlt, by go_num, hNx.out, HU.out ▸ (by exact_mod_cast HRS3), HW3⟩
                  case measure => simp [intOf]; omega
              all_goals
                have hN2 := (hN.set0 (.int .u8 y)).set1 (.int .i64 m)
                have hS2 := KC.out _ wr.heap.size 1 (.int .i64 m) (KC.out _ wr.heap.size 0 (.int .u8 y) hS hz') hz'
                have hbW := hS2.1
                have hRx := hS2.2.2.2
                have hTy := hN2
                have hgy : B0 + 2 < wr.heap.size := hz'
                clear hS2 hN2
                revert hbW hRx hTy hgy
                generalize (w1.setCell ⟨wr.heap.size, 0, none⟩ (.int .u8 y)).setCell ⟨wr.heap.size, 1, none⟩ (.int .i64 m) = W
                generalize wr.heap.size = gy
                intro hbW hRx hTy hgy
                have HRS := Lib.hid hRx
                have HW := Lib.hid hbW
                have hy0 := hTy.cell0
                have hy1 := hTy.cell1
                clear hRx hbW hTy
                have x0 := HRS.out.1.cell0
                have x1 := HRS.out.1.cell1
                have v0 := HRS.out.1.free0
                have v1 := HRS.out.1.free1
                have t0 := HRS.out.2.1.cell 0 _ rfl
                have t1 := HRS.out.2.1.cell 1 _ rfl
                have t2 := HRS.out.2.1.cell 2 _ rfl
                have s0 := HRS.out.2.1.free 0
                have s1 := HRS.out.2.1.free 1
                have s2 := HRS.out.2.1.free 2
                have r0 := HRS.out.2.2.cell 0 _ rfl
                have r1 := HRS.out.2.2.cell 1 _ rfl
                have r2 := HRS.out.2.2.cell 2 _ rfl
                have z0 := HRS.out.2.2.free 0
                have z1 := HRS.out.2.2.free 1
                have z2 := HRS.out.2.2.free 2
                have HRS3 := HRS.out.step y m ((k : Int) + 1)
                have HW3 : Below B0 w (((W.setCell ⟨B0 + 1, 0, none⟩ (.int .u8 y)).setCell ⟨B0 + 1, 1, none⟩ (.int .i64 m)).setCell ⟨B0 + 2, 1, none⟩ (.int .i64 ((k : Int) + 1))) := ((HW.out.setCell (show B0 ≤ B0 + 1 by omega) _ (p := ⟨B0 + 1, 0, none⟩)).setCell (show B0 ≤ B0 + 1 by omega) _ (p := ⟨B0 + 1, 1, none⟩)).setCell (show B0 ≤ B0 + 2 by omega) _ (p := ⟨B0 + 2, 1, none⟩)
                rcases hbad with ⟨e12, hE⟩ | ⟨e12, e49, hE⟩ | ⟨e12, e49, hNx⟩
                · go_wp2_with (go_at_call 21; (with_reducible refine (CS.out _).mono ?_); rintro e w' ⟨rfl, rfl⟩)
                  have hZ6 := blk3_set2 (blk3_set1 (blk3_set0 HRS3.2.2 (.string ⟨#[]⟩)) (.int .i64 0)) (.int .i64 12)
                  have hb6 := ((HW3.setCell (show B0 ≤ B0 from Nat.le_refl _) (.string ⟨#[]⟩) (p := ⟨B0, 0, none⟩)).setCell (show B0 ≤ B0 from Nat.le_refl _) (.int .i64 0) (p := ⟨B0, 1, none⟩)).setCell (show B0 ≤ B0 from Nat.le_refl _) (.int .i64 12) (p := ⟨B0, 2, none⟩)
                  revert hZ6 hb6
                  generalize (((((W.setCell ⟨B0 + 1, 0, none⟩ (.int .u8 y)).setCell ⟨B0 + 1, 1, none⟩ (.int .i64 m)).setCell ⟨B0 + 2, 1, none⟩ (.int .i64 ((k : Int) + 1))).setCell ⟨B0, 0, none⟩ (.string ⟨#[]⟩)).setCell ⟨B0, 1, none⟩ (.int .i64 0)).setCell ⟨B0, 2, none⟩ (.int .i64 12) = W6
                  intro hZ6 hb6
                  have k0 := hZ6.cell 0 _ rfl
                  have k1 := hZ6.cell 1 _ rfl
                  have k2 := hZ6.cell 2 _ rfl
                  refine bodyPost_ret (v := .agg #[(.string ⟨#[]⟩), (.int .i64 0), (.int .i64 12)]) (by simp [results, Try.results41, go_sem, k0, k1, k2]) rfl ⟨?_, hb6⟩
                  exact ret_T (by rw [HR.out, hE.out]) (by rw [HR.out, hE.out]; rfl) (by rw [HR.out, hE.out]; rfl)
                · go_wp2_with (go_at_call 21; (with_reducible refine (CS.out _).mono ?_); rintro e w' ⟨rfl, rfl⟩)
                  have hZ6 := blk3_set2 (blk3_set1 (blk3_set0 HRS3.2.2 (.string ⟨#[]⟩)) (.int .i64 0)) (.int .i64 12)
                  have hb6 := ((HW3.setCell (show B0 ≤ B0 from Nat.le_refl _) (.string ⟨#[]⟩) (p := ⟨B0, 0, none⟩)).setCell (show B0 ≤ B0 from Nat.le_refl _) (.int .i64 0) (p := ⟨B0, 1, none⟩)).setCell (show B0 ≤ B0 from Nat.le_refl _) (.int .i64 12) (p := ⟨B0, 2, none⟩)
                  revert hZ6 hb6
                  generalize (((((W.setCell ⟨B0 + 1, 0, none⟩ (.int .u8 y)).setCell ⟨B0 + 1, 1, none⟩ (.int .i64 m)).setCell ⟨B0 + 2, 1, none⟩ (.int .i64 ((k : Int) + 1))).setCell ⟨B0, 0, none⟩ (.string ⟨#[]⟩)).setCell ⟨B0, 1, none⟩ (.int .i64 0)).setCell ⟨B0, 2, none⟩ (.int .i64 12) = W6
                  intro hZ6 hb6
                  have k0 := hZ6.cell 0 _ rfl
                  have k1 := hZ6.cell 1 _ rfl
                  have k2 := hZ6.cell 2 _ rfl
                  refine bodyPost_ret (v := .agg #[(.string ⟨#[]⟩), (.int .i64 0), (.int .i64 12)]) (by simp [results, Try.results41, go_sem, k0, k1, k2]) rfl ⟨?_, hb6⟩
                  exact ret_T (by rw [HR.out, hE.out]) (by rw [HR.out, hE.out]; rfl) (by rw [HR.out, hE.out]; rfl)
                · go_wp2_with (go_at_call 21; (with_reducible refine (CS.out _).mono ?_); rintro e w' ⟨rfl, rfl⟩)
                  go_roundw
                  case rel => exact ⟨k + 1, y, m, d, hlt, by go_num, hNx.out, HU.out ▸ (by exact_mod_cast HRS3), HW3⟩
                  case measure => simp [intOf]; omega
          · exact absurd hkd h3
    · skip
      by_cases hs : er = 0 ∧ u.size = sz + 15 ∧ n < 5
      · have hE := Lib.hid (hA.stop (by rw [hst]; simpa using hs))
        have e1 : ((er : Int) == 0) = true := by simp; omega
        have e2 : ((u.size : Int) == (sz : Int) + 15) = true := by simp; omega
        have e3 : (n : Int) < 5 := by omega
        have hU := Lib.hid hu
        have HRS := Lib.hid hRS
        have HW := Lib.hid hW
        clear hA hall hmay hdl hst hs hu hul hus hur hRS hW hra hr hse
        go_wp2_with (go_at_call 21; (with_reducible refine (CS.out _).mono ?_); rintro e w' ⟨rfl, rfl⟩)
        have hZ6 := blk3_set2 (blk3_set1 (blk3_set0 HRS.out.2.2 (.string u)) (.int .i64 k)) (.int .i64 0)
        have hb6 := ((HW.out.setCell (show B0 ≤ B0 from Nat.le_refl _) (.string u) (p := ⟨B0, 0, none⟩)).setCell (show B0 ≤ B0 from Nat.le_refl _) (.int .i64 k) (p := ⟨B0, 1, none⟩)).setCell (show B0 ≤ B0 from Nat.le_refl _) (.int .i64 0) (p := ⟨B0, 2, none⟩)
        revert hZ6 hb6
        generalize ((wr.setCell ⟨B0, 0, none⟩ (.string u)).setCell ⟨B0, 1, none⟩ (.int .i64 k)).setCell ⟨B0, 2, none⟩ (.int .i64 0) = W6
        intro hZ6 hb6
        have k0 := hZ6.cell 0 _ rfl
        have k1 := hZ6.cell 1 _ rfl
        have k2 := hZ6.cell 2 _ rfl
        refine bodyPost_ret (v := .agg #[(.string u), (.int .i64 k), (.int .i64 0)]) (by simp [results, Try.results41, go_sem, k0, k1, k2]) rfl ⟨?_, hb6⟩
        exact ret_T (by rw [HR.out, hE.out, hU.out]) (by rw [HR.out, hE.out]) (by rw [HR.out, hE.out]; rfl)
      · have hE := Lib.hid (hA.short (by omega) (by rw [hst]; simpa using hs))
        by_cases he : er = 0
        · have e1 : ((er : Int) == 0) = true := by simp; omega
          by_cases hz : u.size = sz + 15
          · have e2 : ((u.size : Int) == (sz : Int) + 15) = true := by simp; omega
            have e3 : decide ((n : Int) < 5) = false := by simp; omega
            clear hA hall hmay hdl hst hs hu hul hus hur hra hr hse
            go_wp2_with (go_at_call 21; (with_reducible refine (CS.out _).mono ?_); rintro e w' ⟨rfl, rfl⟩)
            have hZ6 := blk3_set2 (blk3_set1 (blk3_set0 hRS.2.2 (.string ⟨#[]⟩)) (.int .i64 0)) (.int .i64 3)
            have hb6 := ((hW.setCell (show B0 ≤ B0 from Nat.le_refl _) (.string ⟨#[]⟩) (p := ⟨B0, 0, none⟩)).setCell (show B0 ≤ B0 from Nat.le_refl _) (.int .i64 0) (p := ⟨B0, 1, none⟩)).setCell (show B0 ≤ B0 from Nat.le_refl _) (.int .i64 3) (p := ⟨B0, 2, none⟩)
            revert hZ6 hb6
            generalize ((wr.setCell ⟨B0, 0, none⟩ (.string ⟨#[]⟩)).setCell ⟨B0, 1, none⟩ (.int .i64 0)).setCell ⟨B0, 2, none⟩ (.int .i64 3) = W6
            intro hZ6 hb6
            have k0 := hZ6.cell 0 _ rfl
            have k1 := hZ6.cell 1 _ rfl
            have k2 := hZ6.cell 2 _ rfl
            refine bodyPost_ret (v := .agg #[(.string ⟨#[]⟩), (.int .i64 0), (.int .i64 3)]) (by simp [results, Try.results41, go_sem, k0, k1, k2]) rfl ⟨?_, hb6⟩
            exact ret_T (by rw [HR.out, hE.out]) (by rw [HR.out, hE.out]; rfl) (by rw [HR.out, hE.out]; rfl)
          · have e2 : ((u.size : Int) == (sz : Int) + 15) = false := by simp; omega
            clear hA hall hmay hdl hst hs hu hul hus hur hra hr hse
            go_wp2_with (go_at_call 21; (with_reducible refine (CS.out _).mono ?_); rintro e w' ⟨rfl, rfl⟩)
            have hZ6 := blk3_set2 (blk3_set1 (blk3_set0 hRS.2.2 (.string ⟨#[]⟩)) (.int .i64 0)) (.int .i64 3)
            have hb6 := ((hW.setCell (show B0 ≤ B0 from Nat.le_refl _) (.string ⟨#[]⟩) (p := ⟨B0, 0, none⟩)).setCell (show B0 ≤ B0 from Nat.le_refl _) (.int .i64 0) (p := ⟨B0, 1, none⟩)).setCell (show B0 ≤ B0 from Nat.le_refl _) (.int .i64 3) (p := ⟨B0, 2, none⟩)
            revert hZ6 hb6
            generalize ((wr.setCell ⟨B0, 0, none⟩ (.string ⟨#[]⟩)).setCell ⟨B0, 1, none⟩ (.int .i64 0)).setCell ⟨B0, 2, none⟩ (.int .i64 3) = W6
            intro hZ6 hb6
            have k0 := hZ6.cell 0 _ rfl
            have k1 := hZ6.cell 1 _ rfl
            have k2 := hZ6.cell 2 _ rfl
            refine bodyPost_ret (v := .agg #[(.string ⟨#[]⟩), (.int .i64 0), (.int .i64 3)]) (by simp [results, Try.results41, go_sem, k0, k1, k2]) rfl ⟨?_, hb6⟩
            exact ret_T (by rw [HR.out, hE.out]) (by rw [HR.out, hE.out]; rfl) (by rw [HR.out, hE.out]; rfl)
        · have e1 : ((er : Int) == 0) = false := by simp; omega
          clear hA hall hmay hdl hst hs hu hul hus hur hra hr hse
          go_wp2_with (go_at_call 21; (with_reducible refine (CS.out _).mono ?_); rintro e w' ⟨rfl, rfl⟩)
          have hZ6 := blk3_set2 (blk3_set1 (blk3_set0 hRS.2.2 (.string ⟨#[]⟩)) (.int .i64 0)) (.int .i64 3)
          have hb6 := ((hW.setCell (show B0 ≤ B0 from Nat.le_refl _) (.string ⟨#[]⟩) (p := ⟨B0, 0, none⟩)).setCell (show B0 ≤ B0 from Nat.le_refl _) (.int .i64 0) (p := ⟨B0, 1, none⟩)).setCell (show B0 ≤ B0 from Nat.le_refl _) (.int .i64 3) (p := ⟨B0, 2, none⟩)
          revert hZ6 hb6
          generalize ((wr.setCell ⟨B0, 0, none⟩ (.string ⟨#[]⟩)).setCell ⟨B0, 1, none⟩ (.int .i64 0)).setCell ⟨B0, 2, none⟩ (.int .i64 3) = W6
          intro hZ6 hb6
          have k0 := hZ6.cell 0 _ rfl
          have k1 := hZ6.cell 1 _ rfl
          have k2 := hZ6.cell 2 _ rfl
          refine bodyPost_ret (v := .agg #[(.string ⟨#[]⟩), (.int .i64 0), (.int .i64 3)]) (by simp [results, Try.results41, go_sem, k0, k1, k2]) rfl ⟨?_, hb6⟩
          exact ret_T (by rw [HR.out, hE.out]) (by rw [HR.out, hE.out]; rfl) (by rw [HR.out, hE.out]; rfl)
end Go.Proofs.Ytdpfmpbnahhjmaa
