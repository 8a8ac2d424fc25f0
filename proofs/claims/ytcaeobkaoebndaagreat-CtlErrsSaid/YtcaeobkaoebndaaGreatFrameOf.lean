/- Package frame's frameOf: the frame that a head tells. -/
import Derived.Test.YtcaeobkaoebndaaGreatSize4
import Derived.Test.YtcaeobkaoebndaaGreatJ5
import Derived.Test.YtcaeobkaoebndaaGreatHead4
import Derived.Deep.RegionHeld3
import Derived.Deep.DrawnRows
namespace Go.Proofs.YtcaeobkaoebndaaGreat
open Go.RowKit Go.Lib
attribute [local go_sem ↓] Go.wp_at_zero Go.wp_at_succ

theorem run_back_nil (w : World) : (convert 67 9 (.slice none 0 0)).run Tryz.prog w = .ok (.string ⟨#[]⟩) w := by
  rw [run_convert_bytes_string w 67 9 5 none 0 0 Tryz.underlying67 Tryz.underlying5 Tryz.underlying9]
  rfl
/-- 'string(data)', of a row of the call's own, or of nil -/
theorem run_back_row {w : World} {base : Nat} {v : Value} (l : List UInt8) (n : Nat) (hn : l.length = n) (ho : w.ownsRow base 5 1 v n (B.vals l)) :
    (convert 67 9 v).run Tryz.prog w = .ok (.string ⟨l.toArray⟩) w := by
  by_cases h : v = .slice none 0 0
  · subst h
    rcases ho.2 with ⟨_, h0⟩ | ⟨g, cap, cur, hv, _⟩
    · have : l = [] := List.eq_nil_of_length_eq_zero (by omega)
      subst this
      exact run_back_nil w
    · cases hv
  · obtain ⟨g, cap, rfl, _, _⟩ := own_form ho h
    exact run_back_own (P := Tryz.prog) 67 9 l hn Tryz.underlying67 Tryz.underlying5 Tryz.underlying9 ho
theorem own_keep {w wb : World} {base : Nat} {e : TypeId} {size : Nat} {v : Value} {n : Nat} {xs : List Value} (h : w.ownsRow base e size v n xs) (k : Below w.heap.size w wb) : wb.ownsRow base e size v n xs := by
  refine ⟨h.1, ?_⟩
  rcases h.2 with hn | ⟨g, cap, cur, hv, hbg, hg, r⟩
  · exact .inl hn
  · exact .inr ⟨g, cap, cur, hv, hbg, by rw [k.block g (Array.getElem?_eq_some_iff.1 hg).1]; exact hg, r⟩

set_option maxRecDepth 100000 in
set_option maxHeartbeats 400000 in
theorem id_19 (s u : ByteArray) (n : Nat) (w : World) (h : (12 : Int) ≤ s.size) (hu : s.extract 1 12 = u) (hr : B.right u = true) (hn : n < 2048) (hnu : B.num u.data.toList = n) :
    Calls Tryz.prog 124 #[.agg (plV false 12 19), .string s] w fun e w' => e = .returned (.int .u32 n) ∧ Below w.heap.size w w' := by
  have hus : u.size ≤ 11 := by rw [← hu, ByteArray.size_extract]; omega
  have CN0 := fun w => num4_any u w (by omega) hr
  rw [hnu] at CN0
  have CN := Lib.hid CN0
  clear CN0 hnu hr
  go_enter Tryz.func124, Tryz.ntmps124
  go_wp2_with (go_at_call 99; (with_reducible refine (CN.out _).mono ?_); rintro e w' ⟨rfl, rfl⟩)
  go_ret
  exact ⟨rfl, (Below.refl _ _).alloc (Nat.le_refl _) _⟩
set_option maxRecDepth 100000 in
set_option maxHeartbeats 400000 in
theorem id_39 (s u v : ByteArray) (n : Nat) (w : World) (h : (32 : Int) ≤ s.size) (hu : s.extract 1 12 = u) (hv : s.extract 14 32 = v) (hr : B.right (u ++ v) = true) (hn : n < 536870912) (hnu : B.num (u ++ v).data.toList = n) :
    Calls Tryz.prog 124 #[.agg (plV true 32 39), .string s] w fun e w' => e = .returned (.int .u32 n) ∧ Below w.heap.size w w' := by
  have hus : u.size ≤ 11 := by rw [← hu, ByteArray.size_extract]; omega
  have hvs : v.size ≤ 18 := by rw [← hv, ByteArray.size_extract]; omega
  have CN0 := fun w => num4_any (u ++ v) w (by rw [ByteArray.size_append]; omega) hr
  rw [hnu] at CN0
  have CN := Lib.hid CN0
  clear CN0 hnu hr
  go_enter Tryz.func124, Tryz.ntmps124
  go_wp2_with (go_at_call 99; (with_reducible refine (CN.out _).mono ?_); rintro e w' ⟨rfl, rfl⟩)
  go_ret
  exact ⟨rfl, (Below.refl _ _).alloc (Nat.le_refl _) _⟩

/-- where bits stand, and the bytes so far -/
def FO (w : World) (gp : Nat) (cs : Array Value) (v : Value) (n : Nat) (xs : List Value) : Prop := Blk w gp cs 108 ∧ w.ownsRow (gp + 1) 5 1 v n xs
theorem FO.keep {w wb : World} {gp n : Nat} {cs : Array Value} {v : Value} {xs : List Value} (h : FO w gp cs v n xs) (k : Below w.heap.size w wb) : FO wb gp cs v n xs := ⟨h.1.keep k, own_keep h.2 k⟩
theorem FO.setCell {w : World} {gp n g i : Nat} {cs : Array Value} {v : Value} {xs : List Value} (h : FO w gp cs v n xs) (hg : g < gp) (u : Value) : FO (w.setCell ⟨g, i, none⟩ u) gp cs v n xs :=
  ⟨h.1.other (by omega) u, ownsRow_setCell_below h.2 (show g < gp + 1 by omega) u⟩

set_option maxRecDepth 100000 in
set_option maxHeartbeats 8000000 in
theorem frameOf_19 (s : ByteArray) (w : World) (hr : B.right s = true) (h13l : 13 < s.size) (h13 : ((s[13].toNat : Int) == 48) = true) (hn : 19 ≤ s.size) (K : Nat) (hK : s.size = 19 + 8 * K) (hK8 : K ≤ 8)
    (r : Bool) (h7 : 12 < s.size) (hrr : ((s[12].toNat : Int) == 49) = r) :
    Calls Tryz.prog 113 #[.string s] w fun e w' => e = .returned (.agg (frV (B.num (s.extract 1 12).data.toList) false r (B.num (s.extract 15 19).data.toList : Int) ⟨(B.bytesL K (s.data.toList.drop 19)).toArray⟩)) ∧ Below w.heap.size w w' := by
  obtain ⟨i0, hi, hz0, hz1, hz2⟩ := info_parts Tryz.infoU8
  have h4 := B.right_size hr
  have CP := Lib.hid (fun w => places_19 s w h13l h13)
  obtain ⟨n1, hn1⟩ : ∃ n, n = B.num (s.extract 1 12).data.toList := ⟨_, rfl⟩
  obtain ⟨n2, hn2⟩ : ∃ n, n = B.num (s.extract 15 19).data.toList := ⟨_, rfl⟩
  rw [← hn1, ← hn2]
  have l1 : n1 < 2048 := by
    rw [hn1]
    exact cut_lt hr 1 12 11 (by omega) rfl
  have l2 : n2 < 16 := by
    rw [hn2]
    exact cut_lt hr 15 19 4 (by omega) rfl
  have CI := Lib.hid (fun w => id_19 s _ n1 w (by omega) rfl (right_cut hr 1 12) l1 hn1.symm)
  have CD := Lib.hid (fun w => dlc_19 s _ n2 w (by omega) rfl (right_cut hr 15 19) l2 hn2.symm)
  have CA := Lib.hid (fun w => asks_19 s r w h7 hrr)
  have HKz := Lib.hid hK
  clear h13 hn1 hn2 l1 hK hrr
  go_enter Tryz.func113, Tryz.ntmps113
  go_wp2_with (go_at_call 83; (with_reducible refine (CP.out _).mono ?_); rintro e w1 ⟨rfl, hw1⟩)
  have hZ1 := (blk_new w (frV 0 false false 0 ⟨#[]⟩) 24 w.heap.size rfl).keep hw1
  have hz1 := hZ1.lt
  have hB1 : Below w.heap.size w w1 := ((Below.refl _ _).alloc (Nat.le_refl _) _).trans (hw1.mono (by simp))
  obtain ⟨gp, hgp⟩ : ∃ g, g = w1.heap.size := ⟨_, rfl⟩
  have hgz : w.heap.size < gp := by omega
  have hP1 := blk_new w1 (plV false 12 19) 108 gp hgp
  have hZ2 := hZ1.alloc (.cells (plV false 12 19) 108)
  have hB2 := hB1.alloc (Nat.le_of_lt hz1) (.cells (plV false 12 19) 108)
  rw [← hgp]
  clear hw1 hZ1 hz1 hB1 hgp CP
  go_loopw [4, 5] (fun v i wr => ∃ j k : Nat, j ≤ K ∧ Hid (k = 19 + 8 * j) ∧ i = .int .i64 k ∧ wr.ownsRow (gp + 1) 5 1 v j (B.vals (B.bytesL j (s.data.toList.drop 19)))
       ∧ Blk wr gp (plV false 12 19) 108 ∧ Blk wr w.heap.size (frV 0 false false 0 ⟨#[]⟩) 24 ∧ Below w.heap.size w wr) (fun _ i _ => s.size - (intOf i).toNat)
  case atStart => exact ⟨0, 19, Nat.zero_le _, Lib.hid rfl, rfl, World.ownsRow_nil _ _ _ _, hP1, hZ2, hB2⟩
  case round =>
    clear hP1 hZ2 hB2
    obtain ⟨j, k, hj, HK, rfl, ho, hF, hZ, hb⟩ := hrel
    have hz : gp + 1 ≤ wr.heap.size := hF.lt
    by_cases hlt : j < K
    · have hk8 : (k : Int) + 8 ≤ s.size := by have := HK.out; have := HKz.out; omega
      have hks : (k : Int) < s.size := by omega
      have hk0 : (0 : Int) ≤ k := by omega
      have hm0 := cut_lt hr k (k + 8) 8 (by omega) (by omega)
      have CN0 := fun w => num4_any (s.extract k (k + 8)) w (by rw [ByteArray.size_extract]; omega) (right_cut hr k (k + 8))
      have hv := vals_next s 19 j k HK.out
      obtain ⟨m, hm⟩ : ∃ m, m = B.num (s.extract k (k + 8)).data.toList := ⟨_, rfl⟩
      rw [← hm] at CN0 hm0 hv
      have hm1 : m < 256 := hm0
      have CN := Lib.hid CN0
      have HV := Lib.hid (hv hm1)
      have HO := Lib.hid ho
      clear CN0 hm0 hv hm ho
      go_wp2_with (first
        | (go_at_call 99; (with_reducible refine (CN.out _).mono ?_); rintro e w' ⟨rfl, rfl⟩)
        | (at_builtin; refine wpList_append_own _ rfl (.tmp 16) (.tmp 24) 67 rfl (gp + 1) 5 i0 (.int .u8 0) 1 1 Tryz.underlying67 hi hz0 hz1 hz2 rfl (by decide) _ _ _ rfl (HO.out.alloc _) ⟨wr.heap.size, 0, none⟩ 1 1 [.int .u8 (m : Int)] rfl rfl ?c1 ?c2 ?c3 ?c4 ?c5 ?_))
      case c1 => exact cell_of_new _ _ _
      case c2 => exact byte_oneCell _
      case c3 => unfold maxLen; omega
      case c4 => omega
      case c5 => simp; omega
      intro v' w2 hown' hgrow _
      have hb2 : Below (gp + 1) wr w2 := append_below hz hgrow (fun g hg => (HO.out.lt g hg).1)
      have hF2 := hF.below hb2 (by omega)
      have hZ2 := hZ.below hb2 (by omega)
      have hbb : Below w.heap.size w w2 := hb.trans (hb2.mono (by omega))
      rw [HV.out] at hown'
      have HO2 := Lib.hid hown'
      have HF2 := Lib.hid hF2
      have HZ2 := Lib.hid hZ2
      have hcF := hF2.cell 2 _ rfl
      clear hgrow hb hF hZ hF2 hZ2 hb2 hown'
      go_wp2
      go_roundw
      case rel => exact ⟨j + 1, k + 8, by omega, Lib.hid (by have := HK.out; omega), by go_num, HO2.out, HF2.out, HZ2.out, hbb⟩
      case measure => simp [intOf]; omega
    · have hjK : j = K := by omega
      subst hjK
      have hks : k = s.size := by have := HK.out; have := HKz.out; omega
      subst hks
      have hFO : FO wr gp (plV false 12 19) u4 j (B.vals (B.bytesL j (s.data.toList.drop 19))) := ⟨hF, ho⟩
      obtain ⟨L, hL⟩ : ∃ L, L = B.bytesL j (s.data.toList.drop 19) := ⟨_, rfl⟩
      have hLl : L.length = j := by rw [hL, B.bytesL_length]
      rw [← hL] at hFO
      clear ho
      obtain ⟨D, hD⟩ : ∃ D : ByteArray, D = ⟨L.toArray⟩ := ⟨_, rfl⟩
      have HBK := Lib.hid (show ∀ wa, FO wa gp (plV false 12 19) u4 j (B.vals L) → (convert 67 9 u4).run Tryz.prog wa = .ok (.string D) wa from fun wa h => by rw [hD]; exact run_back_row L j hLl h.2)
      have HDL := Lib.hid (show D = ⟨(B.bytesL j (s.data.toList.drop 19)).toArray⟩ by rw [hD, hL])
      clear hD hLl hL
      have KS := Lib.hid (show ∀ wa wb, Below wa.heap.size wa wb → (Below w.heap.size w wa ∧ wa.cell? ⟨gp, 0, none⟩ = some (.bool false) ∧ wa.cell? ⟨gp, 1, none⟩ = some (.int .i64 12) ∧ wa.cell? ⟨gp, 2, none⟩ = some (.int .i64 19) ∧ (convert 67 9 u4).run Tryz.prog wa = .ok (.string D) wa ∧ FO wa gp (plV false 12 19) u4 j (B.vals L)) → (Below w.heap.size w wb ∧ wb.cell? ⟨gp, 0, none⟩ = some (.bool false) ∧ wb.cell? ⟨gp, 1, none⟩ = some (.int .i64 12) ∧ wb.cell? ⟨gp, 2, none⟩ = some (.int .i64 19) ∧ (convert 67 9 u4).run Tryz.prog wb = .ok (.string D) wb ∧ FO wb gp (plV false 12 19) u4 j (B.vals L)) from fun wa wb kk ⟨h1, _, _, _, _, h5⟩ =>
        have h6 := h5.keep kk
        ⟨below_keep h1 kk (by have := h5.1.lt; omega), h6.1.cell 0 _ rfl, h6.1.cell 1 _ rfl, h6.1.cell 2 _ rfl, HBK.out _ h6, h6⟩)
      have KC := Lib.hid (show ∀ wa i u, (Below w.heap.size w wa ∧ wa.cell? ⟨gp, 0, none⟩ = some (.bool false) ∧ wa.cell? ⟨gp, 1, none⟩ = some (.int .i64 12) ∧ wa.cell? ⟨gp, 2, none⟩ = some (.int .i64 19) ∧ (convert 67 9 u4).run Tryz.prog wa = .ok (.string D) wa ∧ FO wa gp (plV false 12 19) u4 j (B.vals L)) → (Below w.heap.size w (wa.setCell ⟨w.heap.size, i, none⟩ u) ∧ (wa.setCell ⟨w.heap.size, i, none⟩ u).cell? ⟨gp, 0, none⟩ = some (.bool false) ∧ (wa.setCell ⟨w.heap.size, i, none⟩ u).cell? ⟨gp, 1, none⟩ = some (.int .i64 12) ∧ (wa.setCell ⟨w.heap.size, i, none⟩ u).cell? ⟨gp, 2, none⟩ = some (.int .i64 19) ∧ (convert 67 9 u4).run Tryz.prog (wa.setCell ⟨w.heap.size, i, none⟩ u) = .ok (.string D) (wa.setCell ⟨w.heap.size, i, none⟩ u) ∧ FO (wa.setCell ⟨w.heap.size, i, none⟩ u) gp (plV false 12 19) u4 j (B.vals L)) from fun wa i u ⟨h1, _, _, _, _, h5⟩ =>
        have h6 := h5.setCell (i := i) hgz u
        ⟨h1.setCell (show w.heap.size ≤ w.heap.size from Nat.le_refl _) _, h6.1.cell 0 _ rfl, h6.1.cell 1 _ rfl, h6.1.cell 2 _ rfl, HBK.out _ h6, h6⟩)
      have hbd : Below w.heap.size w wr.drew := hb.drew
      have hFd : FO wr.drew gp (plV false 12 19) u4 j (B.vals L) := hFO
      have hcd := HBK.out _ hFd
      have e0 := hFd.1.cell 0 _ rfl
      have e1 := hFd.1.cell 1 _ rfl
      have e2 := hFd.1.cell 2 _ rfl
      have hZd : Blk wr.drew w.heap.size (frV 0 false false 0 ⟨#[]⟩) 24 := hZ
      clear hb hFO hF hZ hz
      go_wp2_with fail
      go_region_held3 (fun w' => Below w.heap.size w w' ∧ w'.cell? ⟨gp, 0, none⟩ = some (.bool false) ∧ w'.cell? ⟨gp, 1, none⟩ = some (.int .i64 12) ∧ w'.cell? ⟨gp, 2, none⟩ = some (.int .i64 19) ∧ (convert 67 9 u4).run Tryz.prog w' = .ok (.string D) w' ∧ FO w' gp (plV false 12 19) u4 j (B.vals L))
        (first | assumption | exact ⟨hbd, e0, e1, e2, hcd, hFd⟩ | exact KC.out _ _ _ (KC.out _ _ _ (KC.out _ _ _ (KC.out _ _ _ (KC.out _ _ _ (by assumption))))))
        (first
          | (go_at_call 124; (with_reducible refine (CI.out _).mono ?_); rintro e w' ⟨rfl, hb⟩; have hZn := Blk.keep (g := w.heap.size) (cs := frV 0 false false 0 ⟨#[]⟩) (t := 24) (by assumption) hb; have g0 := hZn.cell 0 _ rfl; have g1 := hZn.cell 1 _ rfl; have g2 := hZn.cell 2 _ rfl; have g3 := hZn.cell 3 _ rfl; have g4 := hZn.cell 4 _ rfl; have y0 := hZn.free 0; have y1 := hZn.free 1; have y2 := hZn.free 2; have y3 := hZn.free 3; have y4 := hZn.free 4; have hS := KS.out _ _ hb (by assumption))
          | (go_at_call 85; (with_reducible refine (CA.out _).mono ?_); rintro e w' ⟨rfl, hb⟩; have hZn := Blk.keep (g := w.heap.size) (cs := frV 0 false false 0 ⟨#[]⟩) (t := 24) (by assumption) hb; have g0 := hZn.cell 0 _ rfl; have g1 := hZn.cell 1 _ rfl; have g2 := hZn.cell 2 _ rfl; have g3 := hZn.cell 3 _ rfl; have g4 := hZn.cell 4 _ rfl; have y0 := hZn.free 0; have y1 := hZn.free 1; have y2 := hZn.free 2; have y3 := hZn.free 3; have y4 := hZn.free 4; have hS := KS.out _ _ hb (by assumption))
          | (go_at_call 84; (with_reducible refine (CD.out _).mono ?_); rintro e w' ⟨rfl, hb⟩; have hZn := Blk.keep (g := w.heap.size) (cs := frV 0 false false 0 ⟨#[]⟩) (t := 24) (by assumption) hb; have g0 := hZn.cell 0 _ rfl; have g1 := hZn.cell 1 _ rfl; have g2 := hZn.cell 2 _ rfl; have g3 := hZn.cell 3 _ rfl; have g4 := hZn.cell 4 _ rfl; have y0 := hZn.free 0; have y1 := hZn.free 1; have y2 := hZn.free 2; have y3 := hZn.free 3; have y4 := hZn.free 4; have hS := KS.out _ _ hb (by assumption)))
      all_goals
        have hZ6 := blk_set4 (blk_set3 (blk_set2 (blk_set1 (blk_set0 hZn (.int .u32 n1)) (.bool false)) (.bool r)) (.int .i64 n2)) (.string D)
        have hb6 := five_below hS.1 (.int .u32 n1) (.bool false) (.bool r) (.int .i64 n2) (.string D)
        revert hZ6 hb6
        generalize (((((w'.setCell ⟨w.heap.size, 0, none⟩ (.int .u32 n1)).setCell ⟨w.heap.size, 1, none⟩ (.bool false)).setCell ⟨w.heap.size, 2, none⟩ (.bool r)).setCell ⟨w.heap.size, 3, none⟩ (.int .i64 n2)).setCell ⟨w.heap.size, 4, none⟩ (.string D)) = W6
        intro hZ6 hb6
        clear hS KS KC g0 g1 g2 g3 g4 y0 y1 y2 y3 y4 hZn hb
        have k0 := hZ6.cell 0 _ rfl
        have k1 := hZ6.cell 1 _ rfl
        have k2 := hZ6.cell 2 _ rfl
        have k3 := hZ6.cell 3 _ rfl
        have k4 := hZ6.cell 4 _ rfl
        go_wp2
        refine bodyPost_ret (v := .agg (frV n1 false r (n2 : Int) D)) (by simp [results, Tryz.results113, go_sem, k0, k1, k2, k3, k4]) rfl ⟨by rw [HDL.out], hb6⟩

set_option maxRecDepth 100000 in
set_option maxHeartbeats 8000000 in
theorem frameOf_39 (s : ByteArray) (w : World) (hr : B.right s = true) (h13l : 13 < s.size) (h13 : ((s[13].toNat : Int) == 48) = false) (hn : 39 ≤ s.size) (K : Nat) (hK : s.size = 39 + 8 * K) (hK8 : K ≤ 8)
    (r : Bool) (h7 : 32 < s.size) (hrr : ((s[32].toNat : Int) == 49) = r) :
    Calls Tryz.prog 113 #[.string s] w fun e w' => e = .returned (.agg (frV (B.num (s.extract 1 12).data.toList * 262144 + B.num (s.extract 14 32).data.toList) true r (B.num (s.extract 35 39).data.toList : Int) ⟨(B.bytesL K (s.data.toList.drop 39)).toArray⟩)) ∧ Below w.heap.size w w' := by
  obtain ⟨i0, hi, hz0, hz1, hz2⟩ := info_parts Tryz.infoU8
  have h4 := B.right_size hr
  have CP := Lib.hid (fun w => places_39 s w h13l h13)
  obtain ⟨n1, hn1⟩ : ∃ n, n = B.num (s.extract 1 12).data.toList * 262144 + B.num (s.extract 14 32).data.toList := ⟨_, rfl⟩
  obtain ⟨n2, hn2⟩ : ∃ n, n = B.num (s.extract 35 39).data.toList := ⟨_, rfl⟩
  rw [← hn1, ← hn2]
  have l1 : n1 < 536870912 := by
    rw [hn1]
    have h1 : B.num (s.extract 1 12).data.toList < 2048 := cut_lt hr 1 12 11 (by omega) rfl
    have h2 : B.num (s.extract 14 32).data.toList < 262144 := cut_lt hr 14 32 18 (by omega) rfl
    omega
  have l2 : n2 < 16 := by
    rw [hn2]
    exact cut_lt hr 35 39 4 (by omega) rfl
  have CI := Lib.hid (fun w => id_39 s _ _ n1 w (by omega) rfl rfl (right_cat (right_cut hr 1 12) (right_cut hr 14 32) (by rw [ByteArray.size_extract, ByteArray.size_extract]; omega)) l1 (by
    have h18 : (s.extract 14 32).data.toList.length = 18 := by rw [B.size_len, ByteArray.size_extract]; omega
    rw [B.cat_list, B.num_append, h18]; exact hn1.symm))
  have CD := Lib.hid (fun w => dlc_39 s _ n2 w (by omega) rfl (right_cut hr 35 39) l2 hn2.symm)
  have CA := Lib.hid (fun w => asks_39 s r w h7 hrr)
  have HKz := Lib.hid hK
  clear h13 hn1 hn2 l1 hK hrr
  go_enter Tryz.func113, Tryz.ntmps113
  go_wp2_with (go_at_call 83; (with_reducible refine (CP.out _).mono ?_); rintro e w1 ⟨rfl, hw1⟩)
  have hZ1 := (blk_new w (frV 0 false false 0 ⟨#[]⟩) 24 w.heap.size rfl).keep hw1
  have hz1 := hZ1.lt
  have hB1 : Below w.heap.size w w1 := ((Below.refl _ _).alloc (Nat.le_refl _) _).trans (hw1.mono (by simp))
  obtain ⟨gp, hgp⟩ : ∃ g, g = w1.heap.size := ⟨_, rfl⟩
  have hgz : w.heap.size < gp := by omega
  have hP1 := blk_new w1 (plV true 32 39) 108 gp hgp
  have hZ2 := hZ1.alloc (.cells (plV true 32 39) 108)
  have hB2 := hB1.alloc (Nat.le_of_lt hz1) (.cells (plV true 32 39) 108)
  rw [← hgp]
  clear hw1 hZ1 hz1 hB1 hgp CP
  go_loopw [4, 5] (fun v i wr => ∃ j k : Nat, j ≤ K ∧ Hid (k = 39 + 8 * j) ∧ i = .int .i64 k ∧ wr.ownsRow (gp + 1) 5 1 v j (B.vals (B.bytesL j (s.data.toList.drop 39)))
       ∧ Blk wr gp (plV true 32 39) 108 ∧ Blk wr w.heap.size (frV 0 false false 0 ⟨#[]⟩) 24 ∧ Below w.heap.size w wr) (fun _ i _ => s.size - (intOf i).toNat)
  case atStart => exact ⟨0, 39, Nat.zero_le _, Lib.hid rfl, rfl, World.ownsRow_nil _ _ _ _, hP1, hZ2, hB2⟩
  case round =>
    clear hP1 hZ2 hB2
    obtain ⟨j, k, hj, HK, rfl, ho, hF, hZ, hb⟩ := hrel
    have hz : gp + 1 ≤ wr.heap.size := hF.lt
    by_cases hlt : j < K
    · have hk8 : (k : Int) + 8 ≤ s.size := by have := HK.out; have := HKz.out; omega
      have hks : (k : Int) < s.size := by omega
      have hk0 : (0 : Int) ≤ k := by omega
      have hm0 := cut_lt hr k (k + 8) 8 (by omega) (by omega)
      have CN0 := fun w => num4_any (s.extract k (k + 8)) w (by rw [ByteArray.size_extract]; omega) (right_cut hr k (k + 8))
      have hv := vals_next s 39 j k HK.out
      obtain ⟨m, hm⟩ : ∃ m, m = B.num (s.extract k (k + 8)).data.toList := ⟨_, rfl⟩
      rw [← hm] at CN0 hm0 hv
      have hm1 : m < 256 := hm0
      have CN := Lib.hid CN0
      have HV := Lib.hid (hv hm1)
      have HO := Lib.hid ho
      clear CN0 hm0 hv hm ho
      go_wp2_with (first
        | (go_at_call 99; (with_reducible refine (CN.out _).mono ?_); rintro e w' ⟨rfl, rfl⟩)
        | (at_builtin; refine wpList_append_own _ rfl (.tmp 16) (.tmp 24) 67 rfl (gp + 1) 5 i0 (.int .u8 0) 1 1 Tryz.underlying67 hi hz0 hz1 hz2 rfl (by decide) _ _ _ rfl (HO.out.alloc _) ⟨wr.heap.size, 0, none⟩ 1 1 [.int .u8 (m : Int)] rfl rfl ?c1 ?c2 ?c3 ?c4 ?c5 ?_))
      case c1 => exact cell_of_new _ _ _
      case c2 => exact byte_oneCell _
      case c3 => unfold maxLen; omega
      case c4 => omega
      case c5 => simp; omega
      intro v' w2 hown' hgrow _
      have hb2 : Below (gp + 1) wr w2 := append_below hz hgrow (fun g hg => (HO.out.lt g hg).1)
      have hF2 := hF.below hb2 (by omega)
      have hZ2 := hZ.below hb2 (by omega)
      have hbb : Below w.heap.size w w2 := hb.trans (hb2.mono (by omega))
      rw [HV.out] at hown'
      have HO2 := Lib.hid hown'
      have HF2 := Lib.hid hF2
      have HZ2 := Lib.hid hZ2
      have hcF := hF2.cell 2 _ rfl
      clear hgrow hb hF hZ hF2 hZ2 hb2 hown'
      go_wp2
      go_roundw
      case rel => exact ⟨j + 1, k + 8, by omega, Lib.hid (by have := HK.out; omega), by go_num, HO2.out, HF2.out, HZ2.out, hbb⟩
      case measure => simp [intOf]; omega
    · have hjK : j = K := by omega
      subst hjK
      have hks : k = s.size := by have := HK.out; have := HKz.out; omega
      subst hks
      have hFO : FO wr gp (plV true 32 39) u4 j (B.vals (B.bytesL j (s.data.toList.drop 39))) := ⟨hF, ho⟩
      obtain ⟨L, hL⟩ : ∃ L, L = B.bytesL j (s.data.toList.drop 39) := ⟨_, rfl⟩
      have hLl : L.length = j := by rw [hL, B.bytesL_length]
      rw [← hL] at hFO
      clear ho
      obtain ⟨D, hD⟩ : ∃ D : ByteArray, D = ⟨L.toArray⟩ := ⟨_, rfl⟩
      have HBK := Lib.hid (show ∀ wa, FO wa gp (plV true 32 39) u4 j (B.vals L) → (convert 67 9 u4).run Tryz.prog wa = .ok (.string D) wa from fun wa h => by rw [hD]; exact run_back_row L j hLl h.2)
      have HDL := Lib.hid (show D = ⟨(B.bytesL j (s.data.toList.drop 39)).toArray⟩ by rw [hD, hL])
      clear hD hLl hL
      have KS := Lib.hid (show ∀ wa wb, Below wa.heap.size wa wb → (Below w.heap.size w wa ∧ wa.cell? ⟨gp, 0, none⟩ = some (.bool true) ∧ wa.cell? ⟨gp, 1, none⟩ = some (.int .i64 32) ∧ wa.cell? ⟨gp, 2, none⟩ = some (.int .i64 39) ∧ (convert 67 9 u4).run Tryz.prog wa = .ok (.string D) wa ∧ FO wa gp (plV true 32 39) u4 j (B.vals L)) → (Below w.heap.size w wb ∧ wb.cell? ⟨gp, 0, none⟩ = some (.bool true) ∧ wb.cell? ⟨gp, 1, none⟩ = some (.int .i64 32) ∧ wb.cell? ⟨gp, 2, none⟩ = some (.int .i64 39) ∧ (convert 67 9 u4).run Tryz.prog wb = .ok (.string D) wb ∧ FO wb gp (plV true 32 39) u4 j (B.vals L)) from fun wa wb kk ⟨h1, _, _, _, _, h5⟩ =>
        have h6 := h5.keep kk
        ⟨below_keep h1 kk (by have := h5.1.lt; omega), h6.1.cell 0 _ rfl, h6.1.cell 1 _ rfl, h6.1.cell 2 _ rfl, HBK.out _ h6, h6⟩)
      have KC := Lib.hid (show ∀ wa i u, (Below w.heap.size w wa ∧ wa.cell? ⟨gp, 0, none⟩ = some (.bool true) ∧ wa.cell? ⟨gp, 1, none⟩ = some (.int .i64 32) ∧ wa.cell? ⟨gp, 2, none⟩ = some (.int .i64 39) ∧ (convert 67 9 u4).run Tryz.prog wa = .ok (.string D) wa ∧ FO wa gp (plV true 32 39) u4 j (B.vals L)) → (Below w.heap.size w (wa.setCell ⟨w.heap.size, i, none⟩ u) ∧ (wa.setCell ⟨w.heap.size, i, none⟩ u).cell? ⟨gp, 0, none⟩ = some (.bool true) ∧ (wa.setCell ⟨w.heap.size, i, none⟩ u).cell? ⟨gp, 1, none⟩ = some (.int .i64 32) ∧ (wa.setCell ⟨w.heap.size, i, none⟩ u).cell? ⟨gp, 2, none⟩ = some (.int .i64 39) ∧ (convert 67 9 u4).run Tryz.prog (wa.setCell ⟨w.heap.size, i, none⟩ u) = .ok (.string D) (wa.setCell ⟨w.heap.size, i, none⟩ u) ∧ FO (wa.setCell ⟨w.heap.size, i, none⟩ u) gp (plV true 32 39) u4 j (B.vals L)) from fun wa i u ⟨h1, _, _, _, _, h5⟩ =>
        have h6 := h5.setCell (i := i) hgz u
        ⟨h1.setCell (show w.heap.size ≤ w.heap.size from Nat.le_refl _) _, h6.1.cell 0 _ rfl, h6.1.cell 1 _ rfl, h6.1.cell 2 _ rfl, HBK.out _ h6, h6⟩)
      have hbd : Below w.heap.size w wr.drew := hb.drew
      have hFd : FO wr.drew gp (plV true 32 39) u4 j (B.vals L) := hFO
      have hcd := HBK.out _ hFd
      have e0 := hFd.1.cell 0 _ rfl
      have e1 := hFd.1.cell 1 _ rfl
      have e2 := hFd.1.cell 2 _ rfl
      have hZd : Blk wr.drew w.heap.size (frV 0 false false 0 ⟨#[]⟩) 24 := hZ
      clear hb hFO hF hZ hz
      go_wp2_with fail
      go_region_held3 (fun w' => Below w.heap.size w w' ∧ w'.cell? ⟨gp, 0, none⟩ = some (.bool true) ∧ w'.cell? ⟨gp, 1, none⟩ = some (.int .i64 32) ∧ w'.cell? ⟨gp, 2, none⟩ = some (.int .i64 39) ∧ (convert 67 9 u4).run Tryz.prog w' = .ok (.string D) w' ∧ FO w' gp (plV true 32 39) u4 j (B.vals L))
        (first | assumption | exact ⟨hbd, e0, e1, e2, hcd, hFd⟩ | exact KC.out _ _ _ (KC.out _ _ _ (KC.out _ _ _ (KC.out _ _ _ (KC.out _ _ _ (by assumption))))))
        (first
          | (go_at_call 124; (with_reducible refine (CI.out _).mono ?_); rintro e w' ⟨rfl, hb⟩; have hZn := Blk.keep (g := w.heap.size) (cs := frV 0 false false 0 ⟨#[]⟩) (t := 24) (by assumption) hb; have g0 := hZn.cell 0 _ rfl; have g1 := hZn.cell 1 _ rfl; have g2 := hZn.cell 2 _ rfl; have g3 := hZn.cell 3 _ rfl; have g4 := hZn.cell 4 _ rfl; have y0 := hZn.free 0; have y1 := hZn.free 1; have y2 := hZn.free 2; have y3 := hZn.free 3; have y4 := hZn.free 4; have hS := KS.out _ _ hb (by assumption))
          | (go_at_call 85; (with_reducible refine (CA.out _).mono ?_); rintro e w' ⟨rfl, hb⟩; have hZn := Blk.keep (g := w.heap.size) (cs := frV 0 false false 0 ⟨#[]⟩) (t := 24) (by assumption) hb; have g0 := hZn.cell 0 _ rfl; have g1 := hZn.cell 1 _ rfl; have g2 := hZn.cell 2 _ rfl; have g3 := hZn.cell 3 _ rfl; have g4 := hZn.cell 4 _ rfl; have y0 := hZn.free 0; have y1 := hZn.free 1; have y2 := hZn.free 2; have y3 := hZn.free 3; have y4 := hZn.free 4; have hS := KS.out _ _ hb (by assumption))
          | (go_at_call 84; (with_reducible refine (CD.out _).mono ?_); rintro e w' ⟨rfl, hb⟩; have hZn := Blk.keep (g := w.heap.size) (cs := frV 0 false false 0 ⟨#[]⟩) (t := 24) (by assumption) hb; have g0 := hZn.cell 0 _ rfl; have g1 := hZn.cell 1 _ rfl; have g2 := hZn.cell 2 _ rfl; have g3 := hZn.cell 3 _ rfl; have g4 := hZn.cell 4 _ rfl; have y0 := hZn.free 0; have y1 := hZn.free 1; have y2 := hZn.free 2; have y3 := hZn.free 3; have y4 := hZn.free 4; have hS := KS.out _ _ hb (by assumption)))
      all_goals
        have hZ6 := blk_set4 (blk_set3 (blk_set2 (blk_set1 (blk_set0 hZn (.int .u32 n1)) (.bool true)) (.bool r)) (.int .i64 n2)) (.string D)
        have hb6 := five_below hS.1 (.int .u32 n1) (.bool true) (.bool r) (.int .i64 n2) (.string D)
        revert hZ6 hb6
        generalize (((((w'.setCell ⟨w.heap.size, 0, none⟩ (.int .u32 n1)).setCell ⟨w.heap.size, 1, none⟩ (.bool true)).setCell ⟨w.heap.size, 2, none⟩ (.bool r)).setCell ⟨w.heap.size, 3, none⟩ (.int .i64 n2)).setCell ⟨w.heap.size, 4, none⟩ (.string D)) = W6
        intro hZ6 hb6
        clear hS KS KC g0 g1 g2 g3 g4 y0 y1 y2 y3 y4 hZn hb
        have k0 := hZ6.cell 0 _ rfl
        have k1 := hZ6.cell 1 _ rfl
        have k2 := hZ6.cell 2 _ rfl
        have k3 := hZ6.cell 3 _ rfl
        have k4 := hZ6.cell 4 _ rfl
        go_wp2
        refine bodyPost_ret (v := .agg (frV n1 true r (n2 : Int) D)) (by simp [results, Tryz.results113, go_sem, k0, k1, k2, k3, k4]) rfl ⟨by rw [HDL.out], hb6⟩

/-- frameOf, of a row that is as long as a head says -/
theorem frameOf_any (s : ByteArray) (w : World) (hr : B.right s = true) (h : B.sizeL s.data.toList = (s.size, 0)) :
    Calls Tryz.prog 113 #[.string s] w fun e w' => e = .returned (.agg (frV (B.decode s.data.toList).id (B.decode s.data.toList).ext (B.decode s.data.toList).remote ((B.decode s.data.toList).dlc : Int) ⟨(B.decode s.data.toList).data.toArray⟩)) ∧ Below w.heap.size w w' := by
  have h' : B.sizeL s.data.toList = (s.data.toList.length, 0) := by rw [B.size_len]; exact h
  obtain ⟨h14, hb, h8, hlen⟩ := B.size_parts h'
  rw [B.size_len] at h14 hb hlen
  have h13l : 13 < s.size := by omega
  have hbase := base_of s h13l
  have hbd := B.right_bound hr 13 h13l
  by_cases h13 : s[13].toNat = 49
  · rw [if_pos h13] at hbase
    rw [hbase] at hb hlen h8
    have h7 : 32 < s.size := by omega
    have hbit : B.bitAt s.data.toList 13 = 49 := by rw [bitAt_of s 13 h13l]; exact UInt8.toNat_inj.1 h13
    have hK : s.size = 39 + 8 * ((s.size - 39) / 8) := by split at hlen <;> omega
    have hd : B.decode s.data.toList = ⟨B.num (s.extract 1 12).data.toList * 262144 + B.num (s.extract 14 32).data.toList, true, (s[32] == 49), B.num (s.extract 35 39).data.toList, B.bytesL ((s.size - 39) / 8) (s.data.toList.drop 39)⟩ := by
      unfold B.decode
      rw [hbit, hbase, cutL_of, cutL_of, cutL_of, bitAt_of s _ h7, B.size_len]; rfl
    rw [hd]
    have e32 : ((s[32].toNat : Int) == 49) = (s[32] == 49) := by rw [Bool.eq_iff_iff]; simp [← UInt8.toNat_inj]; omega
    exact frameOf_39 s w hr h13l (by simp; omega) hb _ hK (by split at hlen <;> omega) _ h7 e32
  · rw [if_neg h13] at hbase
    rw [hbase] at hb hlen h8
    have h7 : 12 < s.size := by omega
    have hbit : ¬ B.bitAt s.data.toList 13 = 49 := by rw [bitAt_of s 13 h13l]; intro e; exact h13 (by rw [e]; rfl)
    have hK : s.size = 19 + 8 * ((s.size - 19) / 8) := by split at hlen <;> omega
    have hbf : (B.bitAt s.data.toList 13 == 49) = false := by simpa using hbit
    have hd : B.decode s.data.toList = ⟨B.num (s.extract 1 12).data.toList, false, (s[12] == 49), B.num (s.extract 15 19).data.toList, B.bytesL ((s.size - 19) / 8) (s.data.toList.drop 19)⟩ := by
      unfold B.decode
      rw [if_neg hbit, hbf, hbase, cutL_of, cutL_of, bitAt_of s _ h7, B.size_len]
    rw [hd]
    have e12 : ((s[12].toNat : Int) == 49) = (s[12] == 49) := by rw [Bool.eq_iff_iff]; simp [← UInt8.toNat_inj]; omega
    exact frameOf_19 s w hr h13l (by simp; omega) hb _ hK (by split at hlen <;> omega) _ h7 e12
end Go.Proofs.YtcaeobkaoebndaaGreat
