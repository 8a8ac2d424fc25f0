/- Own texts joined: Filled Data Stuff. -/
import Derived.Test.YtcaeobkaoebndaaGreatJ6
import Derived.Test.YtcaeobkaoebndaaGreatJ4
/- Filled -/
namespace Go.Proofs.YtcaeobkaoebndaaGreat
open Go.RowKit Go.Lib

theorem B.other_xor {c : UInt8} (h : B.okc c = true) : bits BinOp.xor IntKind.u8 (bits BinOp.xor IntKind.u8 (c.toNat : Int) 48) 49 = ((B.other c).toNat : Int) := by
  rcases B.okc_cases h with rfl | rfl <;> decide

set_option maxRecDepth 100000 in
set_option maxHeartbeats 2000000 in
theorem filled_any (s : ByteArray) (g : Nat) (w : World) (hs : s.size ≤ 4000) (hr : s.data.toList.all B.okc = true) (hT : Two w g (.int .u8 0) (.int .i64 0) 127) :
    Calls Tryz.prog 104 #[.string s, .func (.func 105) #[.pointer (some ⟨g, 0, none⟩)] #[], .func (.func 106) #[.pointer (some ⟨g, 0, none⟩)] #[]] w fun e w' => e = .returned (.string ⟨(B.stf s.data.toList).2.toArray⟩) ∧ Below g w w' := by
  obtain ⟨i0, hi, hz0, hz1, hz2⟩ := info_parts Tryz.infoU8
  have hgl := hT.lt
  obtain ⟨B0, hB⟩ : ∃ b, b = w.heap.size := ⟨_, rfl⟩
  have HB := Lib.hid hB
  rw [← hB] at hgl
  clear hB
  have HT := Lib.hid hT
  clear hT
  go_enter Tryz.func104, Tryz.ntmps104
  go_wp2_with (at_make; refine wpList_make_own _ rfl _ _ 67 rfl B0 5 i0 (.int .u8 0) 1 Tryz.underlying67 hi hz0 hz1 _ _ _ (s.size + s.size / 4) rfl rfl ?b0 ?b1 ?b2 ?b3 ?_)
  case b0 => omega
  case b1 => rw [hz2]; omega
  case b2 => unfold maxLen; omega
  case b3 => rw [HB.out]; exact Nat.le_refl _
  intro w1 hown hgr
  rw [← HB.out] at hown
  rw [← HB.out]
  have hb1 : Below B0 w w1 := (Below.refl _ _).grown hgr (by rw [HB.out]; exact Nat.le_refl _) (by intro _ h; cases h)
  have hT1 : Two w1 g (.int .u8 0) (.int .i64 0) 127 := HT.out.below hb1 hgl
  have hz := hb1.size
  rw [← HB.out] at hz
  clear hgr
  go_wp2
  go_loopw [7, 19] (fun v i wr => ∃ k b cap : Nat, k ≤ s.size ∧ i = .int .i64 k ∧ v = .slice (some ⟨b, 0, none⟩) (B.stf (s.data.toList.take k)).2.length cap ∧ wr.ownsRow B0 5 1 v (B.stf (s.data.toList.take k)).2.length (B.vals (B.stf (s.data.toList.take k)).2)
     ∧ Two wr g (.int .u8 (B.stf (s.data.toList.take k)).1.1) (.int .i64 (B.stf (s.data.toList.take k)).1.2) 127 ∧ Below g w wr ∧ B0 ≤ wr.heap.size) (fun _ i _ => s.size - (intOf i).toNat)
  case atStart => exact ⟨0, B0, _, Nat.zero_le _, rfl, rfl, hown, hT1, hb1.mono (Nat.le_of_lt hgl), hz⟩
  case round =>
    clear hown hb1 hT1 hz
    obtain ⟨k, b, cap, hk, rfl, rfl, ho, hT, hb, hz⟩ := hrel
    by_cases hlt : k < s.size
    · have hall := B.all_take hr k
      have h4 := B.stf_le hall
      have hlen := B.stf_length hall
      rw [List.length_take, B.size_len] at hlen
      have hc : B.okc s[k] = true := List.all_eq_true.1 hr s[k] (by show s.data[k] ∈ _; simp)
      have hX := Lib.hid (B.other_xor hc)
      by_cases h5 : (B.kn (B.stf (s.data.toList.take k)).1 s[k].toNat).2 = 5
      · have hS := Lib.hid (B.stf_full h5)
        rw [← B.take_snoc s k hlt] at hS
        obtain ⟨x, hx⟩ : ∃ x, x = (B.stf (s.data.toList.take k)).1 := ⟨_, rfl⟩
        obtain ⟨o, hoo⟩ : ∃ x, x = (B.stf (s.data.toList.take k)).2 := ⟨_, rfl⟩
        rw [← hx] at hT h4 h5 hlen hS
        rw [← hoo] at ho hlen hS ⊢
        clear hx hoo hall
        obtain ⟨last, n⟩ := x
        have h5' : decide ((B.kn (last, n) s[k].toNat).2 = 5) = true := by simpa using h5
        have h5le : (B.kn (last, n) s[k].toNat).2 ≤ 5 := by omega
        have HO := Lib.hid ho
        have CT := Lib.hid (take_any last n s[k].toNat g wr (by simp only at h4; omega) hT)
        clear ho hT h5
        go_wp2_with (first
          | (go_at_call 105; (with_reducible refine CT.out.mono ?_); rintro e w1 ⟨rfl, hT, hA⟩)
          | (at_builtin; refine wpList_append_own _ rfl (.tmp 27) (.tmp 31) 67 rfl B0 5 i0 (.int .u8 0) 1 1 Tryz.underlying67 hi hz0 hz1 hz2 rfl (by decide) _ _ _ rfl ((hA.owns HO.out hgl).alloc _) ⟨w1.heap.size, 0, none⟩ 1 1 [.int .u8 (s[k].toNat : Int)] rfl rfl ?c1a ?c2a ?c3a ?c4a ?c5a ?_))
        case c1a => exact cell_of_new _ _ _
        case c2a => exact byte_oneCell _
        case c3a => unfold maxLen; omega
        case c4a => omega
        case c5a => have := hA.size; simp; omega
        intro v' w2 hown' hgrow _
        have hz1' : B0 ≤ w1.heap.size := by have := hA.size; omega
        have hb2 : Below B0 w1 w2 := append_below hz1' hgrow (fun g hg => (HO.out.lt g hg).1)
        have hz2' : B0 ≤ w2.heap.size := by have := hb2.size; omega
        have hT2 := hT.below hb2 hgl
        have hbb : Below g w w2 := (hb.trans hA.below).trans (hb2.mono (Nat.le_of_lt hgl))
        rw [B.vals_snoc] at hown'
        obtain ⟨b', cap', rfl, _, _⟩ := own_form hown' (own_not_nil hown' (by omega))
        have CF := Lib.hid (full_any (B.kn (last, n) s[k].toNat).1 (B.kn (last, n) s[k].toNat).2 g w2 hT2)
        have CT2 := take_any (B.kn (last, n) s[k].toNat).1 (B.kn (last, n) s[k].toNat).2 (B.other s[k]).toNat g w2 h5le hT2
        rw [← hX.out] at CT2
        replace CT2 := Lib.hid CT2
        have HO2 := Lib.hid hown'
        clear hgrow hb hA hT hT2 hb2 hown' CT hz
        go_wp2_with (first
          | (go_at_call 106; (with_reducible refine CF.out.mono ?_); rintro e w' ⟨rfl, rfl⟩)
          | (go_at_call 105; (with_reducible refine CT2.out.mono ?_); rintro e w3 ⟨rfl, hT, hA⟩)
          | (at_builtin; refine wpList_append_own _ rfl (.tmp 43) (.tmp 45) 67 rfl B0 5 i0 (.int .u8 0) 1 1 Tryz.underlying67 hi hz0 hz1 hz2 rfl (by decide) _ _ _ rfl ((hA.owns HO2.out hgl).alloc _) ⟨w3.heap.size, 0, none⟩ 1 1 [.int .u8 (bits BinOp.xor IntKind.u8 (bits BinOp.xor IntKind.u8 (s[k].toNat : Int) 48) 49)] rfl rfl ?c1b ?c2b ?c3b ?c4b ?c5b ?_))
        case c1b => exact cell_of_new _ _ _
        case c2b => exact byte_oneCell _
        case c3b => unfold maxLen; omega
        case c4b => omega
        case c5b => have := hA.size; simp; omega
        intro v'' w4 hown'' hgrow _
        have hz3' : B0 ≤ w3.heap.size := by have := hA.size; omega
        have hb4 : Below B0 w3 w4 := append_below hz3' hgrow (fun g hg => (HO2.out.lt g hg).1)
        have hz4' : B0 ≤ w4.heap.size := by have := hb4.size; omega
        have hT4 := hT.below hb4 hgl
        have hbb4 : Below g w w4 := (hbb.trans hA.below).trans (hb4.mono (Nat.le_of_lt hgl))
        replace hown'' : w4.ownsRow B0 5 1 v'' (o.length + 1 + 1) (B.vals (o ++ [s[k], B.other s[k]])) := by simpa [hX.out] using hown''
        obtain ⟨b'', cap'', rfl, _, _⟩ := own_form hown'' (own_not_nil hown'' (by omega))
        have HO4 := Lib.hid hown''
        have HT4 := Lib.hid hT4
        clear hgrow hA hT hT4 hb4 hown'' CF CT2
        go_wp2
        go_roundw
        case rel =>
          refine ⟨k + 1, b'', cap'', by omega, by go_num, ?_⟩
          rw [hS.out]
          exact ⟨by simp, by simpa using HO4.out, HT4.out, hbb4, hz4'⟩
        case measure => simp [intOf]; omega
      · have hS := Lib.hid (B.stf_plain h5)
        rw [← B.take_snoc s k hlt] at hS
        obtain ⟨x, hx⟩ : ∃ x, x = (B.stf (s.data.toList.take k)).1 := ⟨_, rfl⟩
        obtain ⟨o, hoo⟩ : ∃ x, x = (B.stf (s.data.toList.take k)).2 := ⟨_, rfl⟩
        rw [← hx] at hT h4 h5 hlen hS
        rw [← hoo] at ho hlen hS ⊢
        clear hx hoo hall
        obtain ⟨last, n⟩ := x
        have h5' : decide ((B.kn (last, n) s[k].toNat).2 = 5) = false := by simpa using h5
        have HO := Lib.hid ho
        have CT := Lib.hid (take_any last n s[k].toNat g wr (by simp only at h4; omega) hT)
        clear ho hT h5
        go_wp2_with (first
          | (go_at_call 105; (with_reducible refine CT.out.mono ?_); rintro e w1 ⟨rfl, hT, hA⟩)
          | (at_builtin; refine wpList_append_own _ rfl (.tmp 27) (.tmp 31) 67 rfl B0 5 i0 (.int .u8 0) 1 1 Tryz.underlying67 hi hz0 hz1 hz2 rfl (by decide) _ _ _ rfl ((hA.owns HO.out hgl).alloc _) ⟨w1.heap.size, 0, none⟩ 1 1 [.int .u8 (s[k].toNat : Int)] rfl rfl ?c1a ?c2a ?c3a ?c4a ?c5a ?_))
        case c1a => exact cell_of_new _ _ _
        case c2a => exact byte_oneCell _
        case c3a => unfold maxLen; omega
        case c4a => omega
        case c5a => have := hA.size; simp; omega
        intro v' w2 hown' hgrow _
        have hz1' : B0 ≤ w1.heap.size := by have := hA.size; omega
        have hb2 : Below B0 w1 w2 := append_below hz1' hgrow (fun g hg => (HO.out.lt g hg).1)
        have hz2' : B0 ≤ w2.heap.size := by have := hb2.size; omega
        have hT2 := hT.below hb2 hgl
        have hbb : Below g w w2 := (hb.trans hA.below).trans (hb2.mono (Nat.le_of_lt hgl))
        rw [B.vals_snoc] at hown'
        obtain ⟨b', cap', rfl, _, _⟩ := own_form hown' (own_not_nil hown' (by omega))
        have CF := Lib.hid (full_any _ _ _ _ hT2)
        have HO2 := Lib.hid hown'
        have HT2 := Lib.hid hT2
        clear hgrow hb hA hT hT2 hb2 hown' CT hz
        go_wp2_with (go_at_call 106; (with_reducible refine CF.out.mono ?_); rintro e w' ⟨rfl, rfl⟩)
        go_roundw
        case rel =>
          refine ⟨k + 1, b', cap', by omega, by go_num, ?_⟩
          rw [hS.out]
          exact ⟨by simp, by simpa using HO2.out, HT2.out, hbb, hz2'⟩
        case measure => simp [intOf]; omega
    · have hks : k = s.size := by omega
      subst hks
      rw [List.take_of_length_le (by rw [B.size_len]; omega)] at ho
      have hback := run_back_own (P := Tryz.prog) 67 9 _ rfl Tryz.underlying67 Tryz.underlying5 Tryz.underlying9 ho
      clear ho
      rw [List.take_of_length_le (by rw [B.size_len]; omega)]
      go_wp2
      go_ret
      exact ⟨rfl, hb⟩
end Go.Proofs.YtcaeobkaoebndaaGreat

/- Data -/
namespace Go.Proofs.YtcaeobkaoebndaaGreat
open Go.RowKit Go.Lib

def B.ustS (s : ByteArray) : ByteArray := match B.ust s.data.toList with | none => ⟨#[]⟩ | some p => ⟨p.2.toArray⟩
def B.ustK (s : ByteArray) : Bool := (B.ust s.data.toList).isSome
end Go.Proofs.YtcaeobkaoebndaaGreat

/- Stuff -/
namespace Go.Proofs.YtcaeobkaoebndaaGreat
open Go.RowKit Go.Lib

def B.stfS (s : ByteArray) : ByteArray := ⟨(B.stf s.data.toList).2.toArray⟩
theorem B.stfS_list (s : ByteArray) : (B.stfS s).data.toList = (B.stf s.data.toList).2 := rfl
theorem B.stfS_size (s : ByteArray) : (B.stfS s).size = (B.stf s.data.toList).2.length := by simp [B.stfS, ByteArray.size]

set_option maxHeartbeats 400000 in
theorem stuff_no (s : ByteArray) (w : World) (hs : s.size ≤ maxLen) (hr : B.right s = false) :
    Calls Tryz.prog 90 #[.string s] w fun e w' => e = .returned (.tuple #[.string ⟨#[]⟩, .int .i64 1]) ∧ w = w' := by
  go_enter Tryz.func90, Tryz.ntmps90
  go_wp2_with (go_at_call 82; (with_reducible refine (right_any _ _ hs).mono ?_); rintro e w' ⟨rfl, rfl⟩)
  go_ret2
  exact ⟨rfl, rfl⟩

set_option maxHeartbeats 400000 in
theorem stuff_long (s : ByteArray) (w : World) (hr : B.right s = true) (hl : 4000 < (B.stfS s).size) :
    Calls Tryz.prog 90 #[.string s] w fun e w' => e = .returned (.tuple #[.string ⟨#[]⟩, .int .i64 2]) ∧ Below w.heap.size w w' := by
  have hmf := makeFunc_run
  have h4 := B.right_size hr
  have hT := Lib.hid (filled_any s w.heap.size (w.alloc (.cells #[.int .u8 0, .int .i64 0] 127)) h4 (B.right_all hr) (two_new _ _ _ _))
  have hA := Lib.hid (show Below w.heap.size w (w.alloc (.cells #[.int .u8 0, .int .i64 0] 127)) from (Below.refl _ _).alloc (Nat.le_refl _) _)
  rw [show (⟨(B.stf s.data.toList).2.toArray⟩ : ByteArray) = B.stfS s from rfl] at hT
  go_enter Tryz.func90, Tryz.ntmps90
  go_wp2_with (first | (go_at_call 82; (with_reducible refine (right_any _ _ (by unfold maxLen; omega)).mono ?_); rintro e w' ⟨rfl, rfl⟩) | (go_at_call 104; (with_reducible refine hT.out.mono ?_); rintro e w' ⟨rfl, hb⟩))
  go_ret2
  exact ⟨rfl, hA.out.trans hb⟩

set_option maxHeartbeats 400000 in
theorem stuff_yes (s : ByteArray) (w : World) (hr : B.right s = true) (hl : (B.stfS s).size ≤ 4000) :
    Calls Tryz.prog 90 #[.string s] w fun e w' => e = .returned (.tuple #[.string (B.stfS s), .int .i64 0]) ∧ Below w.heap.size w w' := by
  have hmf := makeFunc_run
  have h4 := B.right_size hr
  have hT := Lib.hid (filled_any s w.heap.size (w.alloc (.cells #[.int .u8 0, .int .i64 0] 127)) h4 (B.right_all hr) (two_new _ _ _ _))
  have hA := Lib.hid (show Below w.heap.size w (w.alloc (.cells #[.int .u8 0, .int .i64 0] 127)) from (Below.refl _ _).alloc (Nat.le_refl _) _)
  rw [show (⟨(B.stf s.data.toList).2.toArray⟩ : ByteArray) = B.stfS s from rfl] at hT
  go_enter Tryz.func90, Tryz.ntmps90
  go_wp2_with (first | (go_at_call 82; (with_reducible refine (right_any _ _ (by unfold maxLen; omega)).mono ?_); rintro e w' ⟨rfl, rfl⟩) | (go_at_call 104; (with_reducible refine hT.out.mono ?_); rintro e w' ⟨rfl, hb⟩))
  go_ret2
  exact ⟨rfl, hA.out.trans hb⟩

end Go.Proofs.YtcaeobkaoebndaaGreat
