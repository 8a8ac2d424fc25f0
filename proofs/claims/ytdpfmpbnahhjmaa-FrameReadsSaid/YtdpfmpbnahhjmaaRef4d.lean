/- The walk of the reference's Read (layer 4). -/
import Derived.Test.YtdpfmpbnahhjmaaRef4b
import Derived.Test.YtdpfmpbnahhjmaaRef4c
import Derived.Deep.RegionHeld3
import Derived.Deep.DrawnRows
namespace Go.Proofs.Ytdpfmpbnahhjmaa
open Go.RowKit Go.Lib
attribute [local go_sem ↓] Go.wp_at_zero Go.wp_at_succ

/-- a block of cells -/
def Blk (w : World) (g : Nat) (cs : Array Value) (t : TypeId) : Prop := w.heap[g]? = some (.cells cs t (0, 0))
theorem Blk.lt {w : World} {g : Nat} {cs : Array Value} {t : TypeId} (h : Blk w g cs t) : g < w.heap.size := lt_of_block h
theorem Blk.cell {w : World} {g : Nat} {cs : Array Value} {t : TypeId} (h : Blk w g cs t) (i : Nat) (v : Value) (hi : cs[i]? = some v) : w.cell? ⟨g, i, none⟩ = some v := by simp [World.cell?, show w.heap[g]? = _ from h, hi]
theorem Blk.free {w : World} {g : Nat} {cs : Array Value} {t : TypeId} (h : Blk w g cs t) (i : Nat) : w.frozen? ⟨g, i, none⟩ = false := by simp [World.frozen?, show w.heap[g]? = _ from h]
theorem Blk.below {w w' : World} {B g : Nat} {cs : Array Value} {t : TypeId} (h : Blk w g cs t) (hb : Below B w w') (hg : g < B) : Blk w' g cs t := by
  show w'.heap[g]? = _
  rw [hb.block g hg]; exact h
theorem Blk.keep {w w' : World} {g : Nat} {cs : Array Value} {t : TypeId} (h : Blk w g cs t) (hb : Below w.heap.size w w') : Blk w' g cs t := h.below hb h.lt
theorem Blk.alloc {w : World} {g : Nat} {cs : Array Value} {t : TypeId} (h : Blk w g cs t) (o : Obj) : Blk (w.alloc o) g cs t := by
  show (w.alloc o).heap[g]? = _
  rw [Below.heap_alloc _ _ _ h.lt]; exact h
theorem blk_new (w : World) (cs : Array Value) (t : TypeId) (k : Nat) (hk : k = w.heap.size) : Blk (w.alloc (.cells cs t)) k cs t := by subst hk; exact heap_alloc_new _ _

theorem B.bytesL_succ : ∀ (j : Nat) (l : List UInt8), B.bytesL (j + 1) l = B.bytesL j l ++ [UInt8.ofNat (B.num ((l.drop (8 * j)).take 8))] := by
  intro j
  induction j with
  | zero => intro l; simp [B.bytesL]
  | succ j ih =>
    intro l
    rw [B.bytesL, ih (l.drop 8), B.bytesL, List.drop_drop, show 8 + 8 * j = 8 * (j + 1) from by omega]; rfl
theorem B.bytesL_length (j : Nat) (l : List UInt8) : (B.bytesL j l).length = j := by
  induction j generalizing l with
  | zero => rfl
  | succ j ih => rw [B.bytesL, List.length_cons, ih]

theorem cut_lt {s : ByteArray} (hr : B.right s = true) (a b k : Nat) (hb : b ≤ s.size) (hk : b - a = k) : B.num (s.extract a b).data.toList < 2 ^ k := by
  have hl := B.num_lt _ (B.right_all (right_cut hr a b))
  have : (s.extract a b).data.toList.length = k := by rw [B.size_len, ByteArray.size_extract]; omega
  rwa [this] at hl
theorem vals_next (s : ByteArray) (n j k : Nat) (hk : k = n + 8 * j) (hm : B.num (s.extract k (k + 8)).data.toList < 256) :
    B.vals (B.bytesL j (s.data.toList.drop n)) ++ [.int .u8 (B.num (s.extract k (k + 8)).data.toList : Int)] = B.vals (B.bytesL (j + 1) (s.data.toList.drop n)) := by
  have e : List.take 8 (List.drop (8 * j) (List.drop n s.data.toList)) = (s.extract k (k + 8)).data.toList := by
    rw [Lib.extract_data, List.drop_drop, hk]; congr 1; omega
  rw [B.bytesL_succ, e]
  simp only [List.map_append, List.map_cons, List.map_nil]
  rw [UInt8.toNat_ofNat', Nat.mod_eq_of_lt hm]
theorem frI_of {f : B.Fr} (h : B.FrR f) : B.frI f.id f.ext f.remote (f.dlc : Int) (⟨f.data.toArray⟩ : ByteArray).size = true := by
  obtain ⟨h1, h2, h3⟩ := h
  unfold B.frI
  rw [size_of, Bool.and_eq_true, Bool.and_eq_true, decide_eq_true_eq, decide_eq_true_eq]
  refine ⟨⟨by omega, ?_⟩, h3⟩
  split at h2
  · rename_i hr; rw [if_pos hr, h2]; rfl
  · rename_i hr; rw [if_neg hr, h2]; simp
/-- is the row just the frame's head -/
def B.headB (f : B.Fr) (s : ByteArray) : Bool := (⟨(B.headL f).toArray⟩ : ByteArray).toList == s.toList
theorem Blk.drew {w : World} {g : Nat} {cs : Array Value} {t : TypeId} (h : Blk w g cs t) : Blk w.drew g cs t := h
theorem blk_set4 {w : World} {g : Nat} {a b c d e : Value} {t : TypeId} (h : Blk w g #[a, b, c, d, e] t) (x : Value) : Blk (w.setCell ⟨g, 4, none⟩ x) g #[a, b, c, d, x] t := by
  have hlt := h.lt
  have h' : w.heap[g] = .cells #[a, b, c, d, e] t (0, 0) := by simpa [Array.getElem?_eq_getElem hlt] using (show w.heap[g]? = _ from h)
  show (w.heap.modify g _)[g]? = _
  rw [Array.getElem?_eq_getElem (by simpa using hlt), Array.getElem_modify_self, h']
  rfl
theorem blk_set0 {w : World} {g : Nat} {a b c d e : Value} {t : TypeId} (h : Blk w g #[a, b, c, d, e] t) (x : Value) : Blk (w.setCell ⟨g, 0, none⟩ x) g #[x, b, c, d, e] t := by
  have hlt := h.lt
  have h' : w.heap[g] = .cells #[a, b, c, d, e] t (0, 0) := by simpa [Array.getElem?_eq_getElem hlt] using (show w.heap[g]? = _ from h)
  show (w.heap.modify g _)[g]? = _
  rw [Array.getElem?_eq_getElem (by simpa using hlt), Array.getElem_modify_self, h']
  rfl
theorem blk_set1 {w : World} {g : Nat} {a b c d e : Value} {t : TypeId} (h : Blk w g #[a, b, c, d, e] t) (x : Value) : Blk (w.setCell ⟨g, 1, none⟩ x) g #[a, x, c, d, e] t := by
  have hlt := h.lt
  have h' : w.heap[g] = .cells #[a, b, c, d, e] t (0, 0) := by simpa [Array.getElem?_eq_getElem hlt] using (show w.heap[g]? = _ from h)
  show (w.heap.modify g _)[g]? = _
  rw [Array.getElem?_eq_getElem (by simpa using hlt), Array.getElem_modify_self, h']
  rfl
theorem blk_set2 {w : World} {g : Nat} {a b c d e : Value} {t : TypeId} (h : Blk w g #[a, b, c, d, e] t) (x : Value) : Blk (w.setCell ⟨g, 2, none⟩ x) g #[a, b, x, d, e] t := by
  have hlt := h.lt
  have h' : w.heap[g] = .cells #[a, b, c, d, e] t (0, 0) := by simpa [Array.getElem?_eq_getElem hlt] using (show w.heap[g]? = _ from h)
  show (w.heap.modify g _)[g]? = _
  rw [Array.getElem?_eq_getElem (by simpa using hlt), Array.getElem_modify_self, h']
  rfl
theorem blk_set3 {w : World} {g : Nat} {a b c d e : Value} {t : TypeId} (h : Blk w g #[a, b, c, d, e] t) (x : Value) : Blk (w.setCell ⟨g, 3, none⟩ x) g #[a, b, c, x, e] t := by
  have hlt := h.lt
  have h' : w.heap[g] = .cells #[a, b, c, d, e] t (0, 0) := by simpa [Array.getElem?_eq_getElem hlt] using (show w.heap[g]? = _ from h)
  show (w.heap.modify g _)[g]? = _
  rw [Array.getElem?_eq_getElem (by simpa using hlt), Array.getElem_modify_self, h']
  rfl
theorem five_below {B : Nat} {w wa : World} (h3 : Below B w wa) (a b c d e : Value) : Below B w (((((wa.setCell ⟨B, 0, none⟩ a).setCell ⟨B, 1, none⟩ b).setCell ⟨B, 2, none⟩ c).setCell ⟨B, 3, none⟩ d).setCell ⟨B, 4, none⟩ e) :=
  ((((h3.setCell (show B ≤ B from Nat.le_refl _) _).setCell (show B ≤ B from Nat.le_refl _) _).setCell (show B ≤ B from Nat.le_refl _) _).setCell (show B ≤ B from Nat.le_refl _) _).setCell (show B ≤ B from Nat.le_refl _) _
theorem ret_fr {i j n m : Nat} {x r : Bool} {d : ByteArray} {l : List UInt8} {s : ByteArray} (h : i = j ∧ n = m) :
    Ending.returned (.tuple #[.agg (frV i x r (n : Int) d), .bool (B.headB ⟨i, x, r, n, l⟩ s)]) = .returned (.tuple #[.agg (frV j x r (m : Int) d), .bool (B.headB ⟨j, x, r, m, l⟩ s)]) := by rw [h.1, h.2]
theorem Blk.other {w : World} {g k i : Nat} {cs : Array Value} {t : TypeId} (h : Blk w g cs t) (hk : g ≠ k) (x : Value) : Blk (w.setCell ⟨k, i, none⟩ x) g cs t := by
  show (w.setCell ⟨k, i, none⟩ x).heap[g]? = _
  rw [Below.heap_setCell _ _ _ _ hk]; exact h
set_option maxRecDepth 100000 in
set_option maxHeartbeats 4000000 in
theorem refread_19 (s : ByteArray) (w : World) (hr : B.right s = true) (h : B.sizeL s.data.toList = (s.size, 0)) (h13l : 13 < s.size) (h13 : ¬ s[13].toNat = 49) (hn : 19 ≤ s.size) (K : Nat) (hK : s.size = 19 + 8 * K) (hK8 : K ≤ 8)
    (r : Bool) (h7 : 12 < s.size) (hrr : ((s[12].toNat : Int) == 49) = r)
    (hfr : B.FrR ⟨B.num (s.extract 1 12).data.toList, false, r, B.num (s.extract 15 19).data.toList, B.bytesL K (s.data.toList.drop 19)⟩) :
    Calls Try.prog 22 #[.string s] w fun e w' => e = .returned (.tuple #[.agg (frV (B.num (s.extract 1 12).data.toList) false r (B.num (s.extract 15 19).data.toList : Int) ⟨(B.bytesL K (s.data.toList.drop 19)).toArray⟩), .bool (B.headB ⟨B.num (s.extract 1 12).data.toList, false, r, B.num (s.extract 15 19).data.toList, B.bytesL K (s.data.toList.drop 19)⟩ s)]) ∧ Below w.heap.size w w' := by
  obtain ⟨i0, hi, hz0, hz1, hz2⟩ := info_parts Try.infoU8
  have h4 := B.right_size hr
  have CS0 := fun w => refsize_any s w hr
  rw [h] at CS0
  have CS := Lib.hid CS0
  clear CS0 h
  have h13' : ((s[13].toNat : Int) == 49) = false := by simp; omega
  have C1 := Lib.hid (fun w => refnum_any (s.extract 1 12) w (by rw [ByteArray.size_extract]; omega) (right_cut hr 1 12))
  have C2 := Lib.hid (fun w => refnum_any (s.extract 15 19) w (by rw [ByteArray.size_extract]; omega) (right_cut hr 15 19))
  have l1 : B.num (s.extract 1 12).data.toList < 2048 := cut_lt hr 1 12 11 (by omega) rfl
  have l2 : B.num (s.extract 15 19).data.toList < 16 := cut_lt hr 15 19 4 (by omega) rfl
  obtain ⟨n1, hn1⟩ : ∃ n, n = B.num (s.extract 1 12).data.toList := ⟨_, rfl⟩
  obtain ⟨n2, hn2⟩ : ∃ n, n = B.num (s.extract 15 19).data.toList := ⟨_, rfl⟩
  rw [← hn1] at C1 l1
  rw [← hn2] at C2 l2
  have hn' : (19 : Int) ≤ s.size := by omega
  rw [← hn2] at hfr
  rw [← hn1] at hfr
  obtain ⟨idn, hidn⟩ : ∃ i : Nat, i = n1 := ⟨_, rfl⟩
  have HIDE := Lib.hid (show (n1 : Int) = (idn : Int) by omega)
  have CR := Lib.hid (fun w => by
    have := refright4_any idn false r (n2 : Int) ⟨(B.bytesL K (s.data.toList.drop 19)).toArray⟩ w
    rwa [frI_of (f := ⟨idn, false, r, n2, B.bytesL K (s.data.toList.drop 19)⟩) (by rw [hidn]; exact hfr)] at this)
  have CH := Lib.hid (fun w => refhead_any idn n2 false r ⟨(B.bytesL K (s.data.toList.drop 19)).toArray⟩ w (by rw [list_of, hidn]; exact hfr))
  rw [list_of] at CH
  have HID := Lib.hid (show idn = B.num (s.extract 1 12).data.toList ∧ n2 = B.num (s.extract 15 19).data.toList from ⟨by rw [hidn, ← hn1], hn2⟩)
  clear hidn hfr
  have HN1 := Lib.hid hn1
  have HN2 := Lib.hid hn2
  have HKz := Lib.hid hK
  clear hn1 hn2 hK
  go_enter Try.func22, Try.ntmps22
  go_wp2_with (first
    | (go_at_call 21; (with_reducible refine (CS.out _).mono ?_); rintro e w' ⟨rfl, rfl⟩)
    | (go_at_call 26; (with_reducible refine (C1.out _).mono ?_); rintro e w' ⟨rfl, rfl⟩)
    | (go_at_call 26; (with_reducible refine (C2.out _).mono ?_); rintro e w' ⟨rfl, rfl⟩))
  go_loopw [8, 9] (fun v i wr => ∃ j k b cap : Nat, j ≤ K ∧ Hid (k = 19 + 8 * j) ∧ i = .int .i64 k ∧ v = .slice (some ⟨b, 0, none⟩) j cap ∧ wr.ownsRow (w.heap.size + 2) 5 1 v j (B.vals (B.bytesL j (s.data.toList.drop 19)))
       ∧ Blk wr (w.heap.size + 1) #[.int .u32 (n1 : Int), .bool false, .bool r, .int .i64 (n2 : Int), .string ⟨#[]⟩] 24 ∧ Blk wr w.heap.size (frV 0 false false 0 ⟨#[]⟩) 24 ∧ Below w.heap.size w wr) (fun _ i _ => s.size - (intOf i).toNat)
  case atStart =>
    have hl := World.ownsRow_lit (base := w.heap.size + 2) (e := 5) (size := 1) ((w.alloc (.cells (frV 0 false false 0 ⟨#[]⟩) 24)).alloc (.cells #[.int .u32 (n1 : Int), .bool false, .bool r, .int .i64 (n2 : Int), .string ⟨#[]⟩] 24)) #[] 0 (by simp) (by simp) (by simp)
    simp only [World.size_alloc] at hl
    refine ⟨0, 19, w.heap.size + 1 + 1, 0, Nat.zero_le _, Lib.hid rfl, rfl, rfl, ?_, ?_, ?_, ?_⟩
    · exact hl
    · exact ((blk_new (w.alloc (.cells (frV 0 false false 0 ⟨#[]⟩) 24)) #[.int .u32 (n1 : Int), .bool false, .bool r, .int .i64 (n2 : Int), .string ⟨#[]⟩] 24 (w.heap.size + 1) (by simp)).alloc _)
    · exact (((blk_new w (frV 0 false false 0 ⟨#[]⟩) 24 w.heap.size rfl).alloc _).alloc _)
    · exact ((((Below.refl _ _).alloc (Nat.le_refl _) _).alloc (by simp) _).alloc (by simp; omega) _)
  case round =>
    obtain ⟨j, k, b, cap, hj, HK, rfl, rfl, ho, hF, hZ, hb⟩ := hrel
    have hz : w.heap.size + 2 ≤ wr.heap.size := hF.lt
    by_cases hlt : j < K
    · have hk8 : (k : Int) + 8 ≤ s.size := by have := HK.out; have := HKz.out; omega
      have hks : (k : Int) < s.size := by omega
      have hk0 : (0 : Int) ≤ k := by omega
      have hm0 := cut_lt hr k (k + 8) 8 (by omega) (by omega)
      have CN0 := fun w => refnum_any (s.extract k (k + 8)) w (by rw [ByteArray.size_extract]; omega) (right_cut hr k (k + 8))
      have hv := vals_next s 19 j k HK.out
      obtain ⟨m, hm⟩ : ∃ m, m = B.num (s.extract k (k + 8)).data.toList := ⟨_, rfl⟩
      rw [← hm] at CN0 hm0 hv
      have hm1 : m < 256 := hm0
      have CN := Lib.hid CN0
      have HV := Lib.hid (hv hm1)
      have HO := Lib.hid ho
      clear CN0 hm0 hv hm ho
      go_wp2_with (first
        | (go_at_call 26; (with_reducible refine (CN.out _).mono ?_); rintro e w' ⟨rfl, rfl⟩)
        | (at_builtin; refine wpList_append_own _ rfl (.tmp 64) (.tmp 72) 49 rfl (w.heap.size + 2) 5 i0 (.int .u8 0) 1 1 Try.underlying49 hi hz0 hz1 hz2 rfl (by decide) _ _ _ rfl (HO.out.alloc _) ⟨wr.heap.size, 0, none⟩ 1 1 [.int .u8 (m : Int)] rfl rfl ?c1 ?c2 ?c3 ?c4 ?c5 ?_))
      case c1 => exact cell_of_new _ _ _
      case c2 => exact byte_oneCell _
      case c3 => unfold maxLen; omega
      case c4 => omega
      case c5 => simp; omega
      intro v' w2 hown' hgrow _
      have hb2 : Below (w.heap.size + 2) wr w2 := append_below hz hgrow (fun g hg => (HO.out.lt g hg).1)
      have hF2 := hF.below hb2 (by omega)
      have hZ2 := hZ.below hb2 (by omega)
      have hbb : Below w.heap.size w w2 := hb.trans (hb2.mono (by omega))
      rw [HV.out] at hown'
      obtain ⟨b', cap', rfl, _, _⟩ := own_form hown' (own_not_nil hown' (by omega))
      have HO2 := Lib.hid hown'
      have HF2 := Lib.hid hF2
      have HZ2 := Lib.hid hZ2
      clear hgrow hb hF hZ hF2 hZ2 hb2 hown'
      go_wp2
      go_roundw
      case rel => exact ⟨j + 1, k + 8, b', cap', by omega, Lib.hid (by have := HK.out; omega), by go_num, rfl, HO2.out, HF2.out, HZ2.out, hbb⟩
      case measure => simp [intOf]; omega
    · have hjK : j = K := by omega
      subst hjK
      have hks : k = s.size := by have := HK.out; have := HKz.out; omega
      subst hks
      have hback := run_back_own (P := Try.prog) 49 9 _ (B.bytesL_length j _) Try.underlying49 Try.underlying5 Try.underlying9 ho
      have hfr4 := hF.free 4
      have hcf4 := hF.cell 4 _ rfl
      have HF := Lib.hid hF
      have HZ := Lib.hid hZ
      clear ho hF hZ
      go_wp2_with fail
      have hF' := blk_set4 HF.out (.string ⟨(B.bytesL j (s.data.toList.drop 19)).toArray⟩)
      have hZ' := HZ.out.other (k := w.heap.size + 1) (i := 4) (by omega) (.string ⟨(B.bytesL j (s.data.toList.drop 19)).toArray⟩)
      have hb' : Below w.heap.size w (wr.setCell ⟨w.heap.size + 1, 4, none⟩ (.string ⟨(B.bytesL j (s.data.toList.drop 19)).toArray⟩)) := hb.setCell (show w.heap.size ≤ w.heap.size + 1 by omega) _
      have hz' : w.heap.size + 2 ≤ (wr.setCell ⟨w.heap.size + 1, 4, none⟩ (.string ⟨(B.bytesL j (s.data.toList.drop 19)).toArray⟩)).heap.size := hF'.lt
      clear hfr4 hcf4 hback hb hz HF HZ
      generalize wr.setCell ⟨w.heap.size + 1, 4, none⟩ (.string ⟨(B.bytesL j (s.data.toList.drop 19)).toArray⟩) = W3 at *
      rw [HIDE.out] at hF'
      have hc0 := hF'.cell 0 _ rfl
      have hc1 := hF'.cell 1 _ rfl
      have hc2 := hF'.cell 2 _ rfl
      have hc3 := hF'.cell 3 _ rfl
      have hc4 := hF'.cell 4 _ rfl
      have hn0 := cell_new hc0
      have hn1 := cell_new hc1
      have hn2 := cell_new hc2
      have hn3 := cell_new hc3
      have hn4 := cell_new hc4
      go_region_with (first
        | (go_at_call 12; (with_reducible refine (CR.out _).mono ?_); rintro e w' ⟨rfl, rfl⟩)
        | (go_at_call 15; (with_reducible refine (CH.out _).mono ?_); rintro e w5 ⟨rfl, hb5⟩; have hF5 := ((hF'.alloc (.cells (frV idn false r (n2 : Int) ⟨(B.bytesL j (s.data.toList.drop 19)).toArray⟩) 24)).drew).keep hb5; have hZ5 := ((hZ'.alloc (.cells (frV idn false r (n2 : Int) ⟨(B.bytesL j (s.data.toList.drop 19)).toArray⟩) 24)).drew).keep hb5; have hd0 := hF5.cell 0 _ rfl; have hd1 := hF5.cell 1 _ rfl; have hd2 := hF5.cell 2 _ rfl; have hd3 := hF5.cell 3 _ rfl; have hd4 := hF5.cell 4 _ rfl; have he0 := hZ5.cell 0 _ rfl; have he1 := hZ5.cell 1 _ rfl; have he2 := hZ5.cell 2 _ rfl; have he3 := hZ5.cell 3 _ rfl; have he4 := hZ5.cell 4 _ rfl; have hg0 := hZ5.free 0; have hg1 := hZ5.free 1; have hg2 := hZ5.free 2; have hg3 := hZ5.free 3; have hg4 := hZ5.free 4))
      all_goals
        go_wp2
        have hZ6 := blk_set4 (blk_set3 (blk_set2 (blk_set1 (blk_set0 hZ5 (.int .u32 idn)) (.bool false)) (.bool r)) (.int .i64 n2)) (.string ⟨(B.bytesL j (s.data.toList.drop 19)).toArray⟩)
        have hb6 : Below w.heap.size w (((((w5.setCell ⟨w.heap.size, 0, none⟩ (.int .u32 idn)).setCell ⟨w.heap.size, 1, none⟩ (.bool false)).setCell ⟨w.heap.size, 2, none⟩ (.bool r)).setCell ⟨w.heap.size, 3, none⟩ (.int .i64 n2)).setCell ⟨w.heap.size, 4, none⟩ (.string ⟨(B.bytesL j (s.data.toList.drop 19)).toArray⟩)) :=
          five_below ((hb'.alloc (by omega) (.cells (frV idn false r (n2 : Int) ⟨(B.bytesL j (s.data.toList.drop 19)).toArray⟩) 24)).drew.trans (hb5.mono (show w.heap.size ≤ (W3.alloc (.cells (frV idn false r (n2 : Int) ⟨(B.bytesL j (s.data.toList.drop 19)).toArray⟩) 24)).heap.size by simp; omega))) _ _ _ _ _
        revert hZ6 hb6
        generalize (((((w5.setCell ⟨w.heap.size, 0, none⟩ (.int .u32 idn)).setCell ⟨w.heap.size, 1, none⟩ (.bool false)).setCell ⟨w.heap.size, 2, none⟩ (.bool r)).setCell ⟨w.heap.size, 3, none⟩ (.int .i64 n2)).setCell ⟨w.heap.size, 4, none⟩ (.string ⟨(B.bytesL j (s.data.toList.drop 19)).toArray⟩)) = W6
        intro hZ6 hb6
        have k0 := hZ6.cell 0 _ rfl
        have k1 := hZ6.cell 1 _ rfl
        have k2 := hZ6.cell 2 _ rfl
        have k3 := hZ6.cell 3 _ rfl
        have k4 := hZ6.cell 4 _ rfl
        refine bodyPost_ret (v := .tuple #[.agg (frV idn false r (n2 : Int) ⟨(B.bytesL j (s.data.toList.drop 19)).toArray⟩), .bool (B.headB ⟨idn, false, r, n2, B.bytesL j (s.data.toList.drop 19)⟩ s)]) (by simp [results, Try.results22, go_sem, B.headB, k0, k1, k2, k3, k4]) rfl ⟨?_, hb6⟩
        exact ret_fr HID.out

set_option maxRecDepth 100000 in
set_option maxHeartbeats 4000000 in
theorem refread_39 (s : ByteArray) (w : World) (hr : B.right s = true) (h : B.sizeL s.data.toList = (s.size, 0)) (h13l : 13 < s.size) (h13 : s[13].toNat = 49) (hn : 39 ≤ s.size) (K : Nat) (hK : s.size = 39 + 8 * K) (hK8 : K ≤ 8)
    (r : Bool) (h7 : 32 < s.size) (hrr : ((s[32].toNat : Int) == 49) = r)
    (hfr : B.FrR ⟨B.num (s.extract 1 12).data.toList * 262144 + B.num (s.extract 14 32).data.toList, true, r, B.num (s.extract 35 39).data.toList, B.bytesL K (s.data.toList.drop 39)⟩) :
    Calls Try.prog 22 #[.string s] w fun e w' => e = .returned (.tuple #[.agg (frV (B.num (s.extract 1 12).data.toList * 262144 + B.num (s.extract 14 32).data.toList) true r (B.num (s.extract 35 39).data.toList : Int) ⟨(B.bytesL K (s.data.toList.drop 39)).toArray⟩), .bool (B.headB ⟨B.num (s.extract 1 12).data.toList * 262144 + B.num (s.extract 14 32).data.toList, true, r, B.num (s.extract 35 39).data.toList, B.bytesL K (s.data.toList.drop 39)⟩ s)]) ∧ Below w.heap.size w w' := by
  obtain ⟨i0, hi, hz0, hz1, hz2⟩ := info_parts Try.infoU8
  have h4 := B.right_size hr
  have CS0 := fun w => refsize_any s w hr
  rw [h] at CS0
  have CS := Lib.hid CS0
  clear CS0 h
  have h13' : ((s[13].toNat : Int) == 49) = true := by simp; omega
  have C1 := Lib.hid (fun w => refnum_any (s.extract 1 12) w (by rw [ByteArray.size_extract]; omega) (right_cut hr 1 12))
  have C2 := Lib.hid (fun w => refnum_any (s.extract 35 39) w (by rw [ByteArray.size_extract]; omega) (right_cut hr 35 39))
  have l1 : B.num (s.extract 1 12).data.toList < 2048 := cut_lt hr 1 12 11 (by omega) rfl
  have l2 : B.num (s.extract 35 39).data.toList < 16 := cut_lt hr 35 39 4 (by omega) rfl
  obtain ⟨n1, hn1⟩ : ∃ n, n = B.num (s.extract 1 12).data.toList := ⟨_, rfl⟩
  obtain ⟨n2, hn2⟩ : ∃ n, n = B.num (s.extract 35 39).data.toList := ⟨_, rfl⟩
  rw [← hn1] at C1 l1
  rw [← hn2] at C2 l2
  have C3 := Lib.hid (fun w => refnum_any (s.extract 14 32) w (by rw [ByteArray.size_extract]; omega) (right_cut hr 14 32))
  have l3 : B.num (s.extract 14 32).data.toList < 262144 := cut_lt hr 14 32 18 (by omega) rfl
  obtain ⟨n3, hn3⟩ : ∃ n, n = B.num (s.extract 14 32).data.toList := ⟨_, rfl⟩
  rw [← hn3] at C3 l3
  rw [← hn3] at hfr
  have HN3 := Lib.hid hn3
  clear hn3
  have hn' : (39 : Int) ≤ s.size := by omega
  rw [← hn2] at hfr
  rw [← hn1] at hfr
  obtain ⟨idn, hidn⟩ : ∃ i : Nat, i = (n1 * 262144 + n3) := ⟨_, rfl⟩
  have HIDE := Lib.hid (show ((n1 : Int) * 262144 + n3) = (idn : Int) by omega)
  have CR := Lib.hid (fun w => by
    have := refright4_any idn true r (n2 : Int) ⟨(B.bytesL K (s.data.toList.drop 39)).toArray⟩ w
    rwa [frI_of (f := ⟨idn, true, r, n2, B.bytesL K (s.data.toList.drop 39)⟩) (by rw [hidn]; exact hfr)] at this)
  have CH := Lib.hid (fun w => refhead_any idn n2 true r ⟨(B.bytesL K (s.data.toList.drop 39)).toArray⟩ w (by rw [list_of, hidn]; exact hfr))
  rw [list_of] at CH
  have HID := Lib.hid (show idn = B.num (s.extract 1 12).data.toList * 262144 + B.num (s.extract 14 32).data.toList ∧ n2 = B.num (s.extract 35 39).data.toList from ⟨by rw [hidn, ← hn1, ← HN3.out], hn2⟩)
  clear hidn hfr
  have HN1 := Lib.hid hn1
  have HN2 := Lib.hid hn2
  have HKz := Lib.hid hK
  clear hn1 hn2 hK
  go_enter Try.func22, Try.ntmps22
  go_wp2_with (first
    | (go_at_call 21; (with_reducible refine (CS.out _).mono ?_); rintro e w' ⟨rfl, rfl⟩)
    | (go_at_call 26; (with_reducible refine (C1.out _).mono ?_); rintro e w' ⟨rfl, rfl⟩)
    | (go_at_call 26; (with_reducible refine (C2.out _).mono ?_); rintro e w' ⟨rfl, rfl⟩))
  go_region_with (go_at_call 26; (with_reducible refine (C3.out _).mono ?_); rintro e w' ⟨rfl, rfl⟩)
  all_goals
    go_wp2_with (go_at_call 26; (with_reducible refine (C2.out _).mono ?_); rintro e w' ⟨rfl, rfl⟩)
    go_loopw [8, 9] (fun v i wr => ∃ j k b cap : Nat, j ≤ K ∧ Hid (k = 39 + 8 * j) ∧ i = .int .i64 k ∧ v = .slice (some ⟨b, 0, none⟩) j cap ∧ wr.ownsRow (w.heap.size + 2) 5 1 v j (B.vals (B.bytesL j (s.data.toList.drop 39)))
         ∧ Blk wr (w.heap.size + 1) #[.int .u32 ((n1 : Int) * 262144 + n3), .bool true, .bool r, .int .i64 (n2 : Int), .string ⟨#[]⟩] 24 ∧ Blk wr w.heap.size (frV 0 false false 0 ⟨#[]⟩) 24 ∧ Below w.heap.size w wr) (fun _ i _ => s.size - (intOf i).toNat)
    case atStart =>
      have hl := World.ownsRow_lit (base := w.heap.size + 2) (e := 5) (size := 1) ((w.alloc (.cells (frV 0 false false 0 ⟨#[]⟩) 24)).alloc (.cells #[.int .u32 ((n1 : Int) * 262144 + n3), .bool true, .bool r, .int .i64 (n2 : Int), .string ⟨#[]⟩] 24)) #[] 0 (by simp) (by simp) (by simp)
      simp only [World.size_alloc] at hl
      refine ⟨0, 39, w.heap.size + 1 + 1, 0, Nat.zero_le _, Lib.hid rfl, rfl, rfl, ?_, ?_, ?_, ?_⟩
      · exact hl
      · exact Blk.drew ((blk_new (w.alloc (.cells (frV 0 false false 0 ⟨#[]⟩) 24)) #[.int .u32 ((n1 : Int) * 262144 + n3), .bool true, .bool r, .int .i64 (n2 : Int), .string ⟨#[]⟩] 24 (w.heap.size + 1) (by simp)).alloc _)
      · exact Blk.drew (((blk_new w (frV 0 false false 0 ⟨#[]⟩) 24 w.heap.size rfl).alloc _).alloc _)
      · exact Below.drew ((((Below.refl _ _).alloc (Nat.le_refl _) _).alloc (by simp) _).alloc (by simp; omega) _)
    case round =>
      obtain ⟨j, k, b, cap, hj, HK, rfl, rfl, ho, hF, hZ, hb⟩ := hrel
      have hz : w.heap.size + 2 ≤ wr.heap.size := hF.lt
      by_cases hlt : j < K
      · have hk8 : (k : Int) + 8 ≤ s.size := by have := HK.out; have := HKz.out; omega
        have hks : (k : Int) < s.size := by omega
        have hk0 : (0 : Int) ≤ k := by omega
        have hm0 := cut_lt hr k (k + 8) 8 (by omega) (by omega)
        have CN0 := fun w => refnum_any (s.extract k (k + 8)) w (by rw [ByteArray.size_extract]; omega) (right_cut hr k (k + 8))
        have hv := vals_next s 39 j k HK.out
        obtain ⟨m, hm⟩ : ∃ m, m = B.num (s.extract k (k + 8)).data.toList := ⟨_, rfl⟩
        rw [← hm] at CN0 hm0 hv
        have hm1 : m < 256 := hm0
        have CN := Lib.hid CN0
        have HV := Lib.hid (hv hm1)
        have HO := Lib.hid ho
        clear CN0 hm0 hv hm ho
        go_wp2_with (first
          | (go_at_call 26; (with_reducible refine (CN.out _).mono ?_); rintro e w' ⟨rfl, rfl⟩)
          | (at_builtin; refine wpList_append_own _ rfl (.tmp 64) (.tmp 72) 49 rfl (w.heap.size + 2) 5 i0 (.int .u8 0) 1 1 Try.underlying49 hi hz0 hz1 hz2 rfl (by decide) _ _ _ rfl (HO.out.alloc _) ⟨wr.heap.size, 0, none⟩ 1 1 [.int .u8 (m : Int)] rfl rfl ?c1 ?c2 ?c3 ?c4 ?c5 ?_))
        case c1 => exact cell_of_new _ _ _
        case c2 => exact byte_oneCell _
        case c3 => unfold maxLen; omega
        case c4 => omega
        case c5 => simp; omega
        intro v' w2 hown' hgrow _
        have hb2 : Below (w.heap.size + 2) wr w2 := append_below hz hgrow (fun g hg => (HO.out.lt g hg).1)
        have hF2 := hF.below hb2 (by omega)
        have hZ2 := hZ.below hb2 (by omega)
        have hbb : Below w.heap.size w w2 := hb.trans (hb2.mono (by omega))
        rw [HV.out] at hown'
        obtain ⟨b', cap', rfl, _, _⟩ := own_form hown' (own_not_nil hown' (by omega))
        have HO2 := Lib.hid hown'
        have HF2 := Lib.hid hF2
        have HZ2 := Lib.hid hZ2
        clear hgrow hb hF hZ hF2 hZ2 hb2 hown'
        go_wp2
        go_roundw
        case rel => exact ⟨j + 1, k + 8, b', cap', by omega, Lib.hid (by have := HK.out; omega), by go_num, rfl, HO2.out, HF2.out, HZ2.out, hbb⟩
        case measure => simp [intOf]; omega
      · have hjK : j = K := by omega
        subst hjK
        have hks : k = s.size := by have := HK.out; have := HKz.out; omega
        subst hks
        have hback := run_back_own (P := Try.prog) 49 9 _ (B.bytesL_length j _) Try.underlying49 Try.underlying5 Try.underlying9 ho
        have hfr4 := hF.free 4
        have hcf4 := hF.cell 4 _ rfl
        have HF := Lib.hid hF
        have HZ := Lib.hid hZ
        clear ho hF hZ
        go_wp2_with fail
        have hF' := blk_set4 HF.out (.string ⟨(B.bytesL j (s.data.toList.drop 39)).toArray⟩)
        have hZ' := HZ.out.other (k := w.heap.size + 1) (i := 4) (by omega) (.string ⟨(B.bytesL j (s.data.toList.drop 39)).toArray⟩)
        have hb' : Below w.heap.size w (wr.setCell ⟨w.heap.size + 1, 4, none⟩ (.string ⟨(B.bytesL j (s.data.toList.drop 39)).toArray⟩)) := hb.setCell (show w.heap.size ≤ w.heap.size + 1 by omega) _
        have hz' : w.heap.size + 2 ≤ (wr.setCell ⟨w.heap.size + 1, 4, none⟩ (.string ⟨(B.bytesL j (s.data.toList.drop 39)).toArray⟩)).heap.size := hF'.lt
        clear hfr4 hcf4 hback hb hz HF HZ
        generalize wr.setCell ⟨w.heap.size + 1, 4, none⟩ (.string ⟨(B.bytesL j (s.data.toList.drop 39)).toArray⟩) = W3 at *
        rw [HIDE.out] at hF'
        have hc0 := hF'.cell 0 _ rfl
        have hc1 := hF'.cell 1 _ rfl
        have hc2 := hF'.cell 2 _ rfl
        have hc3 := hF'.cell 3 _ rfl
        have hc4 := hF'.cell 4 _ rfl
        have hn0 := cell_new hc0
        have hn1 := cell_new hc1
        have hn2 := cell_new hc2
        have hn3 := cell_new hc3
        have hn4 := cell_new hc4
        go_region_with (first
          | (go_at_call 12; (with_reducible refine (CR.out _).mono ?_); rintro e w' ⟨rfl, rfl⟩)
          | (go_at_call 15; (with_reducible refine (CH.out _).mono ?_); rintro e w5 ⟨rfl, hb5⟩; have hF5 := ((hF'.alloc (.cells (frV idn true r (n2 : Int) ⟨(B.bytesL j (s.data.toList.drop 39)).toArray⟩) 24)).drew).keep hb5; have hZ5 := ((hZ'.alloc (.cells (frV idn true r (n2 : Int) ⟨(B.bytesL j (s.data.toList.drop 39)).toArray⟩) 24)).drew).keep hb5; have hd0 := hF5.cell 0 _ rfl; have hd1 := hF5.cell 1 _ rfl; have hd2 := hF5.cell 2 _ rfl; have hd3 := hF5.cell 3 _ rfl; have hd4 := hF5.cell 4 _ rfl; have he0 := hZ5.cell 0 _ rfl; have he1 := hZ5.cell 1 _ rfl; have he2 := hZ5.cell 2 _ rfl; have he3 := hZ5.cell 3 _ rfl; have he4 := hZ5.cell 4 _ rfl; have hg0 := hZ5.free 0; have hg1 := hZ5.free 1; have hg2 := hZ5.free 2; have hg3 := hZ5.free 3; have hg4 := hZ5.free 4))
        all_goals
          go_wp2
          have hZ6 := blk_set4 (blk_set3 (blk_set2 (blk_set1 (blk_set0 hZ5 (.int .u32 idn)) (.bool true)) (.bool r)) (.int .i64 n2)) (.string ⟨(B.bytesL j (s.data.toList.drop 39)).toArray⟩)
          have hb6 : Below w.heap.size w (((((w5.setCell ⟨w.heap.size, 0, none⟩ (.int .u32 idn)).setCell ⟨w.heap.size, 1, none⟩ (.bool true)).setCell ⟨w.heap.size, 2, none⟩ (.bool r)).setCell ⟨w.heap.size, 3, none⟩ (.int .i64 n2)).setCell ⟨w.heap.size, 4, none⟩ (.string ⟨(B.bytesL j (s.data.toList.drop 39)).toArray⟩)) :=
            five_below ((hb'.alloc (by omega) (.cells (frV idn true r (n2 : Int) ⟨(B.bytesL j (s.data.toList.drop 39)).toArray⟩) 24)).drew.trans (hb5.mono (show w.heap.size ≤ (W3.alloc (.cells (frV idn true r (n2 : Int) ⟨(B.bytesL j (s.data.toList.drop 39)).toArray⟩) 24)).heap.size by simp; omega))) _ _ _ _ _
          revert hZ6 hb6
          generalize (((((w5.setCell ⟨w.heap.size, 0, none⟩ (.int .u32 idn)).setCell ⟨w.heap.size, 1, none⟩ (.bool true)).setCell ⟨w.heap.size, 2, none⟩ (.bool r)).setCell ⟨w.heap.size, 3, none⟩ (.int .i64 n2)).setCell ⟨w.heap.size, 4, none⟩ (.string ⟨(B.bytesL j (s.data.toList.drop 39)).toArray⟩)) = W6
          intro hZ6 hb6
          have k0 := hZ6.cell 0 _ rfl
          have k1 := hZ6.cell 1 _ rfl
          have k2 := hZ6.cell 2 _ rfl
          have k3 := hZ6.cell 3 _ rfl
          have k4 := hZ6.cell 4 _ rfl
          refine bodyPost_ret (v := .tuple #[.agg (frV idn true r (n2 : Int) ⟨(B.bytesL j (s.data.toList.drop 39)).toArray⟩), .bool (B.headB ⟨idn, true, r, n2, B.bytesL j (s.data.toList.drop 39)⟩ s)]) (by simp [results, Try.results22, go_sem, B.headB, k0, k1, k2, k3, k4]) rfl ⟨?_, hb6⟩
          exact ret_fr HID.out
end Go.Proofs.Ytdpfmpbnahhjmaa
