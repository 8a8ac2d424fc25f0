/- The walk of package stuff's data: the bits of a row that are its data; then of Stuff and Unstuff. -/
import Derived.Test.YtagboeejegbcgaaFilled
import Derived.Test.YtagboeejegbcgaaRight
namespace Go.Proofs.Ytagboeejegbcgaa
open Go.RowKit Go.Lib

def B.ustS (s : ByteArray) : ByteArray := match B.ust s.data.toList with | none => ⟨#[]⟩ | some p => ⟨p.2.toArray⟩
def B.ustK (s : ByteArray) : Bool := (B.ust s.data.toList).isSome
theorem B.ust_take (l : List UInt8) (k : Nat) (h : B.ust (l.take k) = none) : B.ust l = none := by
  have e : l = l.take k ++ l.drop k := (List.take_append_drop k l).symm
  rw [e]; unfold B.ust at *
  rw [List.foldl_append, h, B.uStep_none]

set_option maxHeartbeats 2000000 in
theorem data_any (s : ByteArray) (g : Nat) (w : World) (hs : s.size ≤ 4000) (hr : s.data.toList.all B.okc = true) (hT : Two w g (.int .u8 0) (.int .i64 0) 40) :
    Calls Try.prog 25 #[.string s, .func (.func 21) #[.pointer (some ⟨g, 0, none⟩)] #[]] w fun e w' => e = .returned (.tuple #[.string (B.ustS s), .bool (B.ustK s)]) ∧ Below g w w' ∧ ∀ x d, B.ust s.data.toList = some (x, d) → Two w' g (.int .u8 x.1) (.int .i64 x.2) 40 := by
  obtain ⟨i0, hi, hz0, hz1, hz2⟩ := info_parts Try.info5
  have hgl := hT.lt
  obtain ⟨B0, hB⟩ : ∃ b, b = w.heap.size := ⟨_, rfl⟩
  have HB := Lib.hid hB
  rw [← hB] at hgl
  clear hB
  have HT := Lib.hid hT
  clear hT
  go_enter Try.func25, Try.ntmps25
  go_wp2_with (at_make; refine wpList_make_own _ rfl _ _ 48 rfl B0 5 i0 (.int .u8 0) 1 Try.underlying48 hi hz0 hz1 _ _ _ s.size rfl rfl ?b0 ?b1 ?b2 ?b3 ?_)
  case b0 => omega
  case b1 => rw [hz2]; omega
  case b2 => unfold maxLen; omega
  case b3 => rw [HB.out]; exact Nat.le_refl _
  intro w1 hown hgr
  rw [← HB.out] at hown
  rw [← HB.out]
  have hb1 : Below B0 w w1 := (Below.refl _ _).grown hgr (by rw [HB.out]; exact Nat.le_refl _) (by intro _ h; cases h)
  have hT1 : Two w1 g (.int .u8 0) (.int .i64 0) 40 := HT.out.below hb1 hgl
  have hz := hb1.size
  rw [← HB.out] at hz
  clear hgr
  go_wp2
  go_loopw [6, 13] (fun v i wr => ∃ (k b cap x n : Nat) (d : List UInt8), k ≤ s.size ∧ i = .int .i64 k ∧ B.ust (s.data.toList.take k) = some ((x, n), d) ∧ v = .slice (some ⟨b, 0, none⟩) d.length cap ∧ wr.ownsRow B0 5 1 v d.length (B.vals d)
     ∧ Two wr g (.int .u8 x) (.int .i64 n) 40 ∧ Below g w wr ∧ B0 ≤ wr.heap.size) (fun _ i _ => s.size - (intOf i).toNat)
  case atStart => exact ⟨0, B0, _, 0, 0, [], Nat.zero_le _, rfl, rfl, rfl, hown, hT1, hb1.mono (Nat.le_of_lt hgl), hz⟩
  case round =>
    clear hown hb1 hT1 hz
    obtain ⟨k, b, cap, x, n, d, hk, rfl, hu, rfl, ho, hT, hb, hz⟩ := hrel
    by_cases hlt : k < s.size
    · have hall := B.all_take hr k
      have hmay := B.ust_may hall _ _ hu
      have hn5 : n ≤ 5 := by unfold B.may at hmay; simp only at hmay; omega
      have hlen := (B.ust_all hall _ _ hu).2
      rw [List.length_take, B.size_len] at hlen
      have hS : B.ust (s.data.toList.take (k + 1)) = B.uStep (some ((x, n), d)) s[k] := by rw [B.take_snoc s k hlt, B.ust_snoc, hu]
      have CT := take_any x n s[k].toNat g wr hn5 hT
      have HO := Lib.hid ho
      clear ho hT hall hmay
      rcases B.kind_le (x, n) s[k].toNat with hkd | hkd | hkd
      · rw [hkd] at CT
        replace hS : B.ust (s.data.toList.take (k + 1)) = some (B.kn (x, n) s[k].toNat, d ++ [s[k]]) := by rw [hS]; unfold B.uStep; simp [hkd]
        have HS := Lib.hid hS
        have HC := Lib.hid CT
        clear hS CT hkd hu
        go_wp2_with (first
          | (go_at_call 21; (with_reducible refine HC.out.mono ?_); rintro e w1 ⟨rfl, hT, hA⟩)
          | (at_builtin; refine wpList_append_own _ rfl (.tmp 23) (.tmp 27) 48 rfl B0 5 i0 (.int .u8 0) 1 1 Try.underlying48 hi hz0 hz1 hz2 rfl (by decide) _ _ _ rfl ((hA.owns HO.out hgl).alloc _) ⟨w1.heap.size, 0, none⟩ 1 1 [.int .u8 (s[k].toNat : Int)] rfl rfl ?c1a ?c2a ?c3a ?c4a ?c5a ?_))
        case c1a => exact cell_of_new _ _ _
        case c2a => exact byte_oneCell _
        case c3a => unfold maxLen; omega
        case c4a => omega
        case c5a => have := hA.size; simp; omega
        intro v' w2 hown' hgrow _
        have hz1' : B0 ≤ w1.heap.size := by have := hA.size; omega
        have hb2 : Below B0 w1 w2 := append_below hz1' hgrow (fun g hg => (HO.out.lt g hg).1)
        have hz2' : B0 ≤ w2.heap.size := by have := hb2.size; omega
        have hT2 := hT.below hb2 hgl
        have hbb : Below g w w2 := (hb.trans hA.below).trans (hb2.mono (Nat.le_of_lt hgl))
        rw [B.vals_snoc] at hown'
        obtain ⟨b', cap', rfl, _, _⟩ := own_form hown' (own_not_nil hown' (by omega))
        have HO2 := Lib.hid hown'
        have HT2 := Lib.hid hT2
        clear hgrow hb hA hT hT2 hb2 hown' hz
        go_wp2
        go_roundw
        case rel => exact ⟨k + 1, b', cap', _, _, _, by omega, by go_num, HS.out, by simp, by simpa using HO2.out, HT2.out, hbb, hz2'⟩
        case measure => simp [intOf]; omega
      · rw [hkd] at CT
        replace hS : B.ust (s.data.toList.take (k + 1)) = some (B.kn (x, n) s[k].toNat, d) := by rw [hS]; unfold B.uStep; simp [hkd]
        have HS := Lib.hid hS
        have HC := Lib.hid CT
        clear hS CT hkd hu
        go_wp2_with (go_at_call 21; (with_reducible refine HC.out.mono ?_); rintro e w1 ⟨rfl, hT, hA⟩)
        have hz1' : B0 ≤ w1.heap.size := by have := hA.size; omega
        go_roundw
        case rel => exact ⟨k + 1, b, cap, _, _, _, by omega, by go_num, HS.out, rfl, hA.owns HO.out hgl, hT, hb.trans hA.below, hz1'⟩
        case measure => simp [intOf]; omega
      · rw [hkd] at CT
        replace hS : B.ust s.data.toList = none := B.ust_take _ (k + 1) (by rw [hS]; unfold B.uStep; simp [hkd])
        have HS := Lib.hid hS
        have HC := Lib.hid CT
        clear hS CT hkd hu
        go_wp2_with (go_at_call 21; (with_reducible refine HC.out.mono ?_); rintro e w1 ⟨rfl, hT, hA⟩)
        go_ret2
        refine ⟨?_, hb.trans hA.below, fun x d h => ?_⟩
        · unfold B.ustS B.ustK; rw [HS.out]; rfl
        · rw [HS.out] at h; cases h
    · have hks : k = s.size := by omega
      subst hks
      rw [List.take_of_length_le (by rw [B.size_len]; omega)] at hu
      have hback := run_back_own (P := Try.prog) 48 9 _ rfl Try.underlying48 Try.underlying5 Try.underlying9 ho
      have HU := Lib.hid hu
      clear ho hu
      go_wp2
      go_ret2
      refine ⟨?_, hb, fun x d h => ?_⟩
      · unfold B.ustS B.ustK; rw [HU.out]; rfl
      · rw [HU.out] at h; cases h; exact hT
end Go.Proofs.Ytagboeejegbcgaa
