/- Package prio's Field. -/
import Derived.Test.YthgbfidghhlldabPrioB
import Derived.Test.YthgbfidghhlldabHead5
namespace Go.Proofs.Ythgbfidghhlldab
open Go.RowKit Go.Lib
attribute [local go_sem ↓] Go.wp_at_zero Go.wp_at_succ

set_option maxRecDepth 100000 in
set_option maxHeartbeats 1000000 in
theorem field_no (f : FX) (w : World) (h : f.may = false) :
    Calls Try.prog 5 #[.agg f.v] w fun e w' => e = .returned (.tuple #[.string ⟨#[]⟩, .int .i64 1]) ∧ Below w.heap.size w w' := by
  obtain ⟨id, ext, rem, dlc, data⟩ := f
  have CH := Lib.hid (fun w => head4_no id ext rem dlc data w h)
  have hB : Below w.heap.size w (w.alloc (.cells (frV id ext rem dlc data) 25)) := (Below.refl _ _).alloc (Nat.le_refl _) _
  clear h
  go_enter Try.func5, Try.ntmps5
  go_wp2_with (go_at_call 17; (with_reducible refine (CH.out _).mono ?_); rintro e w1 ⟨rfl, hb⟩)
  go_ret2
  exact ⟨rfl, hB.trans (hb.mono hB.size)⟩

set_option maxRecDepth 100000 in
set_option maxHeartbeats 1000000 in
theorem field_yes (f : FX) (w : World) (h : f.may = true) :
    Calls Try.prog 5 #[.agg f.v] w fun e w' => e = .returned (.tuple #[.string f.field, .int .i64 0]) ∧ Below w.heap.size w w' := by
  obtain ⟨hf, hd⟩ := FX.may_fr h
  obtain ⟨id, ext, rem, dlc, data⟩ := f
  show Calls Try.prog 5 #[.agg (frV id ext rem dlc data)] w fun e w' => e = .returned (.tuple #[.string (FX.field ⟨id, ext, rem, dlc, data⟩), .int .i64 0]) ∧ Below w.heap.size w w'
  have CH0 := fun w => head4_yes id (FX.fr ⟨id, ext, rem, dlc, data⟩).dlc ext rem data w hf
  rw [← hd] at CH0
  have hl := B.headL_length (FX.fr ⟨id, ext, rem, dlc, data⟩)
  have hF : FX.field ⟨id, ext, rem, dlc, data⟩ = (⟨(B.headL (FX.fr ⟨id, ext, rem, dlc, data⟩)).toArray⟩ : ByteArray).extract 1 (if ext then 33 else 14) := by
    have e := cutL_of (⟨(B.headL (FX.fr ⟨id, ext, rem, dlc, data⟩)).toArray⟩ : ByteArray) 1 (if ext then 33 else 14)
    rw [list_of] at e
    exact bytes_same ((FX.field_list _).trans e)
  obtain ⟨hh, hhh⟩ : ∃ hh : ByteArray, hh = ⟨(B.headL (FX.fr ⟨id, ext, rem, dlc, data⟩)).toArray⟩ := ⟨_, rfl⟩
  have hs : hh.size = B.base (FX.fr ⟨id, ext, rem, dlc, data⟩) + 8 * (FX.fr ⟨id, ext, rem, dlc, data⟩).data.length := by rw [hhh, size_of, hl]
  have CH : Hid (∀ w, Calls Try.prog 17 #[.agg (frV id ext rem dlc data)] w fun e w' => e = .returned (.tuple #[.string hh, .int .i64 0]) ∧ Below w.heap.size w w') := Lib.hid (fun w => by rw [hhh]; exact CH0 w)
  rw [← hhh] at hF
  have HF := Lib.hid hF
  have hB : Below w.heap.size w (w.alloc (.cells (frV id ext rem dlc data) 25)) := (Below.refl _ _).alloc (Nat.le_refl _) _
  clear hhh CH0 hF hl hd hf h
  unfold B.base at hs
  cases ext
  · have hsz : (14 : Int) ≤ hh.size := by
      have : (19 : Nat) ≤ hh.size := by rw [hs]; show 19 ≤ 19 + _; omega
      omega
    clear hs
    have HG := Lib.hid (show hh.extract 1 14 = FX.field ⟨id, false, rem, dlc, data⟩ from HF.out.symm)
    clear HF
    go_enter Try.func5, Try.ntmps5
    go_wp2_with (go_at_call 17; (with_reducible refine (CH.out _).mono ?_); rintro e w1 ⟨rfl, hb⟩; have hc := ((blk_new w (frV id false rem dlc data) 25 w.heap.size rfl).keep hb).cell 1 (.bool false) rfl)
    go_ret2
    exact ⟨ret_str HG.out, hB.trans (hb.mono hB.size)⟩
  · have hsz : (33 : Int) ≤ hh.size := by
      have : (39 : Nat) ≤ hh.size := by rw [hs]; show 39 ≤ 39 + _; omega
      omega
    clear hs
    have HG := Lib.hid (show hh.extract 1 33 = FX.field ⟨id, true, rem, dlc, data⟩ from HF.out.symm)
    clear HF
    go_enter Try.func5, Try.ntmps5
    go_wp2_with (go_at_call 17; (with_reducible refine (CH.out _).mono ?_); rintro e w1 ⟨rfl, hb⟩; have hc := ((blk_new w (frV id true rem dlc data) 25 w.heap.size rfl).keep hb).cell 1 (.bool true) rfl)
    go_ret2
    exact ⟨ret_str HG.out, hB.trans (hb.mono hB.size)⟩
end Go.Proofs.Ythgbfidghhlldab
