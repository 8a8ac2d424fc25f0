/- Layer 4's law FrameBits, of whatever frame. -/
import Derived.Test.YtdpfmpbnahhjmaaFBits
import Derived.Test.YtdpfmpbnahhjmaaHead5
namespace Go.Proofs.Ytdpfmpbnahhjmaa
open Go.RowKit Go.Lib

/-- a frame that may be, as plain -/
theorem frI_back {id : Nat} {ext rem : Bool} {dlc : Int} {t : ByteArray} (h : B.frI id ext rem dlc t.size = true) : ∃ n : Nat, dlc = n ∧ B.FrR ⟨id, ext, rem, n, t.data.toList⟩ := by
  unfold B.frI at h
  rw [Bool.and_eq_true, Bool.and_eq_true, decide_eq_true_eq, decide_eq_true_eq] at h
  obtain ⟨⟨⟨h0, h8⟩, hd⟩, hi⟩ := h
  obtain ⟨n, rfl⟩ := Int.eq_ofNat_of_zero_le h0
  refine ⟨n, rfl, by simp only; omega, ?_, hi⟩
  cases rem
  · simp only [Bool.false_eq_true, if_false, decide_eq_true_eq] at hd ⊢
    rw [B.size_len]; omega
  · simp only [if_true, decide_eq_true_eq] at hd ⊢
    rw [← List.length_eq_zero_iff, B.size_len]; exact hd

theorem framebitsLaw (id : Nat) (ext rem : Bool) (dlc : Int) (data : ByteArray) (w : World) :
    Calls Try.prog 3 #[.agg (frV id ext rem dlc data)] w fun e w' => e = .returned (.bool true) ∧ Below w.heap.size w w' := by
  obtain ⟨t, ht, hc⟩ := cut_at data 12
  have CFew := Lib.hid (fun w => few_any id ext rem dlc data t w hc)
  cases hI : B.frI id ext rem dlc t.size
  · exact framebits_false id ext rem dlc data t w CFew (Lib.hid fun w => head4_no id ext rem dlc t w hI) (Lib.hid fun w => bits4_no id ext rem dlc t w hI)
      (Lib.hid fun w => (by have := refright4_any id ext rem dlc t w; rw [hI] at this; exact this.mono fun _ _ ⟨he, hw⟩ => ⟨he, hw ▸ (Below.refl _ _).alloc (Nat.le_refl _) _⟩))
      (Lib.hid alive4_any) (Lib.hid fun w => by have := right4_any id ext rem dlc t w; rwa [hI] at this)
  · obtain ⟨n, rfl, hf⟩ := frI_back hI
    exact framebits_true id ext rem n data t _ _ w CFew (Lib.hid fun w => head4_yes id n ext rem t w hf) (Lib.hid fun w => bits4_yes id n ext rem t w hf)
      (Lib.hid fun w => (by have := refright4_any id ext rem n t w; rw [hI] at this; exact this.mono fun _ _ ⟨he, hw⟩ => ⟨he, hw ▸ (Below.refl _ _).alloc (Nat.le_refl _) _⟩))
      (Lib.hid alive4_any) (Lib.hid fun w => by have := right4_any id ext rem n t w; rwa [hI] at this)
      (Lib.hid fun w => refhead_any id n ext rem t w hf) (Lib.hid fun w => refbits_any id n ext rem t w hf)
end Go.Proofs.Ytdpfmpbnahhjmaa
