/- Package frame's Head and Bits. -/
import Derived.Test.YtcaeobkaoebndaaHead4
namespace Go.Proofs.Ytcaeobkaoebndaa
open Go.RowKit Go.Lib

set_option maxRecDepth 100000 in
set_option maxHeartbeats 1000000 in
theorem head4_no (id : Nat) (ext rem : Bool) (dlc : Int) (data : ByteArray) (w : World) (h : B.frI id ext rem dlc data.size = false) :
    Calls Try.prog 65 #[.agg (frV id ext rem dlc data)] w fun e w' => e = .returned (.tuple #[.string ⟨#[]⟩, .int .i64 1]) ∧ Below w.heap.size w w' := by
  have CR := right4_any id ext rem dlc data (w.alloc (.cells (frV id ext rem dlc data) 30))
  rw [h] at CR
  replace CR := Lib.hid CR
  have hA : Below w.heap.size w (w.alloc (.cells (frV id ext rem dlc data) 30)) := (Below.refl _ _).alloc (Nat.le_refl _) _
  clear h
  go_enter Try.func65, Try.ntmps65
  go_wp2_with (go_at_call 20; (with_reducible refine CR.out.mono ?_); rintro e w1 ⟨rfl, hb⟩)
  go_ret2
  exact ⟨rfl, hA.trans (hb.mono (by simp))⟩

theorem headL_ne (f : B.Fr) : B.headL f ≠ [] := by
  intro h; have := congrArg List.length h; rw [B.headL_length] at this; unfold B.base at this; split at this <;> simp at this

set_option maxRecDepth 100000 in
set_option maxHeartbeats 2000000 in
theorem head4_yes (id n : Nat) (ext rem : Bool) (data : ByteArray) (w : World) (h : B.FrR ⟨id, ext, rem, n, data.data.toList⟩) :
    Calls Try.prog 65 #[.agg (frV id ext rem n data)] w fun e w' => e = .returned (.tuple #[.string ⟨(B.headL ⟨id, ext, rem, n, data.data.toList⟩).toArray⟩, .int .i64 0]) ∧ Below w.heap.size w w' := by
  have CR := right4_any id ext rem n data (w.alloc (.cells (frV id ext rem n data) 30))
  have hI := frI_of h
  rw [of_list] at hI
  simp only at hI
  rw [hI] at CR
  replace CR := Lib.hid CR
  have CH := Lib.hid (fun (w1 : World) (h1 : Wr w1.heap.size w1.heap.size [] (w1.alloc (.cells #[.pointer none, .slice none 0 0] 103))) => wrhead_any w1.heap.size w1.heap.size id n ext rem data _ h1 h)
  have CS := Lib.hid (fun G b (w1 : World) (h1 : Wr G b (B.headL ⟨id, ext, rem, n, data.data.toList⟩) w1) => wrstring_any G b _ w1 h1 (headL_ne _))
  have hA : Below w.heap.size w (w.alloc (.cells (frV id ext rem n data) 30)) := (Below.refl _ _).alloc (Nat.le_refl _) _
  have hK := blk_new w (frV id ext rem n data) 30 w.heap.size rfl
  obtain ⟨H, hH⟩ : ∃ H, H = B.headL ⟨id, ext, rem, n, data.data.toList⟩ := ⟨_, rfl⟩
  rw [← hH] at CH CS ⊢
  clear h hI hH
  go_enter Try.func65, Try.ntmps65
  go_wp2_with (first
    | (go_at_call 20; (with_reducible refine CR.out.mono ?_); rintro e w1 ⟨rfl, hb⟩; have hW := hA.trans (hb.mono (by simp)); have hB := (hK.keep hb).alloc (.cells #[.pointer none, .slice none 0 0] 103); have hz := hB.lt; clear hA hK hb; have c0 := hB.cell 0 _ rfl; have c1 := hB.cell 1 _ rfl; have c2 := hB.cell 2 _ rfl; have c3 := hB.cell 3 _ rfl; have c4 := hB.cell 4 _ rfl)
    | (go_at_call 78; (with_reducible refine (CH.out _ (wr_new _)).mono ?_); rintro e w2 ⟨rfl, h2, hb2⟩)
    | (go_at_call 79; (with_reducible refine (CS.out _ _ _ h2).mono ?_); rintro e w3 ⟨rfl, hb3⟩))
  go_ret2
  refine ⟨rfl, ?_⟩
  have hsz : w.heap.size ≤ w1.heap.size := hW.size
  exact ((hW.alloc hsz _).trans (hb2.mono hsz)).trans (hb3.mono hsz)

set_option maxRecDepth 100000 in
set_option maxHeartbeats 1000000 in
theorem bits4_no (id : Nat) (ext rem : Bool) (dlc : Int) (data : ByteArray) (w : World) (h : B.frI id ext rem dlc data.size = false) :
    Calls Try.prog 46 #[.agg (frV id ext rem dlc data)] w fun e w' => e = .returned (.tuple #[.string ⟨#[]⟩, .int .i64 1]) ∧ Below w.heap.size w w' := by
  have CH := Lib.hid (head4_no id ext rem dlc data (w.alloc (.cells (frV id ext rem dlc data) 30)) h)
  have hA : Below w.heap.size w (w.alloc (.cells (frV id ext rem dlc data) 30)) := (Below.refl _ _).alloc (Nat.le_refl _) _
  clear h
  go_enter Try.func46, Try.ntmps46
  go_wp2_with (go_at_call 65; (with_reducible refine CH.out.mono ?_); rintro e w1 ⟨rfl, hb⟩)
  go_ret2
  exact ⟨rfl, hA.trans (hb.mono (by simp))⟩

set_option maxRecDepth 100000 in
set_option maxHeartbeats 1000000 in
theorem bits4_yes (id n : Nat) (ext rem : Bool) (data : ByteArray) (w : World) (h : B.FrR ⟨id, ext, rem, n, data.data.toList⟩) :
    Calls Try.prog 46 #[.agg (frV id ext rem n data)] w fun e w' => e = .returned (.tuple #[.string ⟨(B.bitsL ⟨id, ext, rem, n, data.data.toList⟩).toArray⟩, .int .i64 0]) ∧ Below w.heap.size w w' := by
  have hhr := head_right h
  have hbl := B.bits_length h
  have hbits := Lib.hid (bits_ones ⟨id, ext, rem, n, data.data.toList⟩)
  have hsz : (⟨(B.stf (B.framed ⟨(B.headL ⟨id, ext, rem, n, data.data.toList⟩).toArray⟩).data.toList).2.toArray⟩ : ByteArray).size ≤ 160 := by
    rw [size_of, framed_list, list_of]; unfold B.bitsL at hbl; rw [List.length_append] at hbl; omega
  have hhz : (⟨(B.headL ⟨id, ext, rem, n, data.data.toList⟩).toArray⟩ : ByteArray).size ≤ 160 := by
    have hl := B.stf_length (B.sumL_all (B.headL_all ⟨id, ext, rem, n, data.data.toList⟩))
    rw [size_of]; unfold B.bitsL at hbl; rw [List.length_append] at hbl; rw [B.sumL_length] at hl; omega
  have CH := Lib.hid (fun w => head4_yes id n ext rem data w h)
  obtain ⟨u, hu⟩ : ∃ u : ByteArray, u = ⟨(B.headL ⟨id, ext, rem, n, data.data.toList⟩).toArray⟩ := ⟨_, rfl⟩
  rw [← hu] at CH hhr hhz hsz hbits
  have CS := Lib.hid (fun w => frame_yes u w hhr (by omega))
  have hfz := B.framed_size u
  have CT := Lib.hid (fun w => stuff_yes (B.framed u) w (B.framed_right hhr (by omega)) (by unfold B.stfS; omega))
  obtain ⟨v, hv⟩ : ∃ v, v = B.framed u := ⟨_, rfl⟩
  rw [← hv] at CS CT hsz hbits
  obtain ⟨x, hx⟩ : ∃ x : ByteArray, x = ⟨(B.stf v.data.toList).2.toArray⟩ := ⟨_, rfl⟩
  rw [show B.stfS v = x from hx.symm] at CT
  rw [← hx] at hsz hbits
  clear hu hv hx hfz hhr hbl h
  have hB : Below w.heap.size w (w.alloc (.cells (frV id ext rem n data) 30)) := (Below.refl _ _).alloc (Nat.le_refl _) _
  go_enter Try.func46, Try.ntmps46
  go_wp2_with (first
    | (go_at_call 65; (with_reducible refine (CH.out _).mono ?_); rintro e w' ⟨rfl, hb⟩; replace hB := hB.trans (hb.mono hB.size))
    | (go_at_call 66; (with_reducible refine (CS.out _).mono ?_); rintro e w' ⟨rfl, hb⟩; replace hB := hB.trans (hb.mono hB.size))
    | (go_at_call 67; (with_reducible refine (CT.out _).mono ?_); rintro e w' ⟨rfl, hb⟩; replace hB := hB.trans (hb.mono hB.size)))
  go_ret2
  exact ⟨ret_str hbits.out, hB⟩

/-- alive: the law's own trial -/
theorem B.alive_head : (⟨(headL ⟨5, false, false, 0, []⟩).toArray⟩ : ByteArray) = ⟨#[48, 48, 48, 48, 48, 48, 48, 48, 48, 49, 48, 49, 48, 48, 48, 48, 48, 48, 48]⟩ := by decide +kernel
end Go.Proofs.Ytcaeobkaoebndaa
