/- Own texts joined: PrioA PrioB PField. -/
import Derived.Test.YtcaeobkaoebndaaGreatJ2
import Derived.Test.YtcaeobkaoebndaaGreatPlain
import Derived.Test.YtcaeobkaoebndaaGreatRef4b
import Derived.Test.YtcaeobkaoebndaaGreatJ4
import Derived.Deep.RegionHeld3
import Derived.Deep.DrawnRows
import Derived.Test.YtcaeobkaoebndaaGreatJ8
/- PrioA -/
namespace Go.Proofs.YtcaeobkaoebndaaGreat
open Go.RowKit Go.Lib

/-- a frame, as it comes -/
structure FX where
  id : Nat
  ext : Bool
  rem : Bool
  dlc : Int
  data : ByteArray
abbrev FX.v (f : FX) : Array Value := frV f.id f.ext f.rem f.dlc f.data
def FX.may (f : FX) : Bool := B.frI f.id f.ext f.rem f.dlc f.data.size
/-- a row of frames lies from cell o of block g on -/
def RowF (w : World) (g o : Nat) (fs : List FX) : Prop := ∀ (i : Nat) (h : i < fs.length),
  w.cell? ⟨g, o + i * 5, none⟩ = some (.int .u32 fs[i].id) ∧ w.cell? ⟨g, o + i * 5 + 1, none⟩ = some (.bool fs[i].ext) ∧ w.cell? ⟨g, o + i * 5 + 2, none⟩ = some (.bool fs[i].rem) ∧ w.cell? ⟨g, o + i * 5 + 3, none⟩ = some (.int .i64 fs[i].dlc) ∧ w.cell? ⟨g, o + i * 5 + 4, none⟩ = some (.string fs[i].data)
theorem RowF.below {w w' : World} {g o B0 : Nat} {fs : List FX} (h : RowF w g o fs) (hb : Below B0 w w') (hg : g < B0) : RowF w' g o fs := fun i hi => by
  obtain ⟨h0, h1, h2, h3, h4⟩ := h i hi
  refine ⟨?_, ?_, ?_, ?_, ?_⟩
  · rw [hb.cell (p := ⟨g, o + i * 5, none⟩) hg]; exact h0
  · rw [hb.cell (p := ⟨g, o + i * 5 + 1, none⟩) hg]; exact h1
  · rw [hb.cell (p := ⟨g, o + i * 5 + 2, none⟩) hg]; exact h2
  · rw [hb.cell (p := ⟨g, o + i * 5 + 3, none⟩) hg]; exact h3
  · rw [hb.cell (p := ⟨g, o + i * 5 + 4, none⟩) hg]; exact h4

end Go.Proofs.YtcaeobkaoebndaaGreat

/- PrioB -/
namespace Go.Proofs.YtcaeobkaoebndaaGreat
open Go.RowKit Go.Lib
attribute [local go_sem ↓] Go.wp_at_zero Go.wp_at_succ

/-- a frame, as plain -/
def FX.fr (f : FX) : B.Fr := ⟨f.id, f.ext, f.rem, f.dlc.toNat, f.data.data.toList⟩
theorem bytes_same {a b : ByteArray} (h : a.data.toList = b.data.toList) : a = b := ByteArray.ext (Array.toList_inj.1 h)
theorem FX.may_fr {f : FX} (h : f.may = true) : B.FrR f.fr ∧ f.dlc = (f.fr.dlc : Int) := by
  unfold FX.may B.frI at h
  rw [Bool.and_eq_true, Bool.and_eq_true, decide_eq_true_eq, decide_eq_true_eq] at h
  obtain ⟨⟨⟨h0, h8⟩, hd⟩, hi⟩ := h
  refine ⟨⟨by show f.dlc.toNat ≤ 8; omega, ?_, hi⟩, by show f.dlc = (f.dlc.toNat : Int); omega⟩
  show if f.rem = true then f.data.data.toList = [] else f.data.data.toList.length = f.dlc.toNat
  cases hr : f.rem
  · rw [hr] at hd
    simp only [Bool.false_eq_true, if_false, decide_eq_true_eq] at hd ⊢
    rw [B.size_len]; omega
  · rw [hr] at hd
    simp only [if_true, decide_eq_true_eq] at hd ⊢
    rw [← List.length_eq_zero_iff, B.size_len]; exact hd
/-- a frame's field, as a text -/
def FX.field (f : FX) : ByteArray := ⟨(B.fieldL f.fr).toArray⟩
theorem FX.field_list (f : FX) : f.field.data.toList = B.fieldL f.fr := by unfold FX.field; rw [list_of]
theorem FX.field_size (f : FX) : f.field.size ≤ 32 := by unfold FX.field; rw [size_of, B.fieldL_length]; split <;> omega

set_option maxRecDepth 100000 in
set_option maxHeartbeats 1000000 in
theorem reffield_any (f : FX) (w : World) (h : f.may = true) :
    Calls Tryz.prog 28 #[.agg f.v] w fun e w' => e = .returned (.string f.field) ∧ Below w.heap.size w w' := by
  obtain ⟨hf, hd⟩ := FX.may_fr h
  obtain ⟨id, ext, rem, dlc, data⟩ := f
  show Calls Tryz.prog 28 #[.agg (frV id ext rem dlc data)] w fun e w' => e = .returned (.string (FX.field ⟨id, ext, rem, dlc, data⟩)) ∧ Below w.heap.size w w'
  have CH0 := fun w => refhead_any id (FX.fr ⟨id, ext, rem, dlc, data⟩).dlc ext rem data w hf
  rw [← hd] at CH0
  have hl := B.headL_length (FX.fr ⟨id, ext, rem, dlc, data⟩)
  have hF : FX.field ⟨id, ext, rem, dlc, data⟩ = (⟨(B.headL (FX.fr ⟨id, ext, rem, dlc, data⟩)).toArray⟩ : ByteArray).extract 1 (if ext then 33 else 14) := by
    have e := cutL_of (⟨(B.headL (FX.fr ⟨id, ext, rem, dlc, data⟩)).toArray⟩ : ByteArray) 1 (if ext then 33 else 14)
    rw [list_of] at e
    exact bytes_same ((FX.field_list _).trans e)
  obtain ⟨hh, hhh⟩ : ∃ hh : ByteArray, hh = ⟨(B.headL (FX.fr ⟨id, ext, rem, dlc, data⟩)).toArray⟩ := ⟨_, rfl⟩
  have hs : hh.size = B.base (FX.fr ⟨id, ext, rem, dlc, data⟩) + 8 * (FX.fr ⟨id, ext, rem, dlc, data⟩).data.length := by rw [hhh, size_of, hl]
  have CH : Hid (∀ w, Calls Tryz.prog 24 #[.agg (frV id ext rem dlc data)] w fun e w' => e = .returned (.string hh) ∧ Below w.heap.size w w') := Lib.hid (fun w => by rw [hhh]; exact CH0 w)
  rw [← hhh] at hF
  have HF := Lib.hid hF
  have hB : Below w.heap.size w (w.alloc (.cells (frV id ext rem dlc data) 24)) := (Below.refl _ _).alloc (Nat.le_refl _) _
  clear hhh CH0 hF hl hd hf h
  unfold B.base at hs
  cases ext
  · have hsz : (14 : Int) ≤ hh.size := by
      have : (19 : Nat) ≤ hh.size := by rw [hs]; show 19 ≤ 19 + _; omega
      omega
    clear hs
    have HG := Lib.hid (show hh.extract 1 14 = FX.field ⟨id, false, rem, dlc, data⟩ from HF.out.symm)
    clear HF
    go_enter Tryz.func28, Tryz.ntmps28
    go_wp2_with (go_at_call 24; (with_reducible refine (CH.out _).mono ?_); rintro e w1 ⟨rfl, hb⟩; have hc := ((blk_new w (frV id false rem dlc data) 24 w.heap.size rfl).keep hb).cell 1 (.bool false) rfl)
    go_ret
    exact ⟨ret_str1 HG.out, hB.trans (hb.mono hB.size)⟩
  · have hsz : (33 : Int) ≤ hh.size := by
      have : (39 : Nat) ≤ hh.size := by rw [hs]; show 39 ≤ 39 + _; omega
      omega
    clear hs
    have HG := Lib.hid (show hh.extract 1 33 = FX.field ⟨id, true, rem, dlc, data⟩ from HF.out.symm)
    clear HF
    go_enter Tryz.func28, Tryz.ntmps28
    go_wp2_with (go_at_call 24; (with_reducible refine (CH.out _).mono ?_); rintro e w1 ⟨rfl, hb⟩; have hc := ((blk_new w (frV id true rem dlc data) 24 w.heap.size rfl).keep hb).cell 1 (.bool true) rfl)
    go_ret
    exact ⟨ret_str1 HG.out, hB.trans (hb.mono hB.size)⟩
end Go.Proofs.YtcaeobkaoebndaaGreat

/- PField -/
namespace Go.Proofs.YtcaeobkaoebndaaGreat
open Go.RowKit Go.Lib
attribute [local go_sem ↓] Go.wp_at_zero Go.wp_at_succ

set_option maxRecDepth 100000 in
set_option maxHeartbeats 1000000 in
theorem field_no (f : FX) (w : World) (h : f.may = false) :
    Calls Tryz.prog 107 #[.agg f.v] w fun e w' => e = .returned (.tuple #[.string ⟨#[]⟩, .int .i64 1]) ∧ Below w.heap.size w w' := by
  obtain ⟨id, ext, rem, dlc, data⟩ := f
  have CH := Lib.hid (fun w => head4_no id ext rem dlc data w h)
  have hB : Below w.heap.size w (w.alloc (.cells (frV id ext rem dlc data) 24)) := (Below.refl _ _).alloc (Nat.le_refl _) _
  clear h
  go_enter Tryz.func107, Tryz.ntmps107
  go_wp2_with (go_at_call 88; (with_reducible refine (CH.out _).mono ?_); rintro e w1 ⟨rfl, hb⟩)
  go_ret2
  exact ⟨rfl, hB.trans (hb.mono hB.size)⟩

set_option maxRecDepth 100000 in
set_option maxHeartbeats 1000000 in
theorem field_yes (f : FX) (w : World) (h : f.may = true) :
    Calls Tryz.prog 107 #[.agg f.v] w fun e w' => e = .returned (.tuple #[.string f.field, .int .i64 0]) ∧ Below w.heap.size w w' := by
  obtain ⟨hf, hd⟩ := FX.may_fr h
  obtain ⟨id, ext, rem, dlc, data⟩ := f
  show Calls Tryz.prog 107 #[.agg (frV id ext rem dlc data)] w fun e w' => e = .returned (.tuple #[.string (FX.field ⟨id, ext, rem, dlc, data⟩), .int .i64 0]) ∧ Below w.heap.size w w'
  have CH0 := fun w => head4_yes id (FX.fr ⟨id, ext, rem, dlc, data⟩).dlc ext rem data w hf
  rw [← hd] at CH0
  have hl := B.headL_length (FX.fr ⟨id, ext, rem, dlc, data⟩)
  have hF : FX.field ⟨id, ext, rem, dlc, data⟩ = (⟨(B.headL (FX.fr ⟨id, ext, rem, dlc, data⟩)).toArray⟩ : ByteArray).extract 1 (if ext then 33 else 14) := by
    have e := cutL_of (⟨(B.headL (FX.fr ⟨id, ext, rem, dlc, data⟩)).toArray⟩ : ByteArray) 1 (if ext then 33 else 14)
    rw [list_of] at e
    exact bytes_same ((FX.field_list _).trans e)
  obtain ⟨hh, hhh⟩ : ∃ hh : ByteArray, hh = ⟨(B.headL (FX.fr ⟨id, ext, rem, dlc, data⟩)).toArray⟩ := ⟨_, rfl⟩
  have hs : hh.size = B.base (FX.fr ⟨id, ext, rem, dlc, data⟩) + 8 * (FX.fr ⟨id, ext, rem, dlc, data⟩).data.length := by rw [hhh, size_of, hl]
  have CH : Hid (∀ w, Calls Tryz.prog 88 #[.agg (frV id ext rem dlc data)] w fun e w' => e = .returned (.tuple #[.string hh, .int .i64 0]) ∧ Below w.heap.size w w') := Lib.hid (fun w => by rw [hhh]; exact CH0 w)
  rw [← hhh] at hF
  have HF := Lib.hid hF
  have hB : Below w.heap.size w (w.alloc (.cells (frV id ext rem dlc data) 24)) := (Below.refl _ _).alloc (Nat.le_refl _) _
  clear hhh CH0 hF hl hd hf h
  unfold B.base at hs
  cases ext
  · have hsz : (14 : Int) ≤ hh.size := by
      have : (19 : Nat) ≤ hh.size := by rw [hs]; show 19 ≤ 19 + _; omega
      omega
    clear hs
    have HG := Lib.hid (show hh.extract 1 14 = FX.field ⟨id, false, rem, dlc, data⟩ from HF.out.symm)
    clear HF
    go_enter Tryz.func107, Tryz.ntmps107
    go_wp2_with (go_at_call 88; (with_reducible refine (CH.out _).mono ?_); rintro e w1 ⟨rfl, hb⟩; have hc := ((blk_new w (frV id false rem dlc data) 24 w.heap.size rfl).keep hb).cell 1 (.bool false) rfl)
    go_ret2
    exact ⟨ret_str HG.out, hB.trans (hb.mono hB.size)⟩
  · have hsz : (33 : Int) ≤ hh.size := by
      have : (39 : Nat) ≤ hh.size := by rw [hs]; show 39 ≤ 39 + _; omega
      omega
    clear hs
    have HG := Lib.hid (show hh.extract 1 33 = FX.field ⟨id, true, rem, dlc, data⟩ from HF.out.symm)
    clear HF
    go_enter Tryz.func107, Tryz.ntmps107
    go_wp2_with (go_at_call 88; (with_reducible refine (CH.out _).mono ?_); rintro e w1 ⟨rfl, hb⟩; have hc := ((blk_new w (frV id true rem dlc data) 24 w.heap.size rfl).keep hb).cell 1 (.bool true) rfl)
    go_ret2
    exact ⟨ret_str HG.out, hB.trans (hb.mono hB.size)⟩
end Go.Proofs.YtcaeobkaoebndaaGreat
