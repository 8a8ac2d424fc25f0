/- The walk of the reference's equal (layer 3). -/
import Derived.Test.YtdpfmpbnahhjmaaTwo
import Derived.Test.YtdpfmpbnahhjmaaStuff1
namespace Go.Proofs.Ytdpfmpbnahhjmaa
open Go.RowKit Go.Lib

set_option maxHeartbeats 400000 in
theorem equal_short (s : ByteArray) (fr : Nat) (w : World) (_hs : s.size ≤ 8000) (_hf : fr ≤ s.size) (h : s.size < fr + 5) :
    Calls Try.prog 51 #[.string s, .int .i64 fr] w fun e w' => e = .returned (.bool false) ∧ Below w.heap.size w w' := by
  have h' : (s.size : Int) - fr < 5 := by omega
  go_enter Try.func51, Try.ntmps51
  go_wp2
  go_ret
  exact ⟨rfl, Below.refl _ _⟩

set_option maxHeartbeats 1000000 in
theorem equal_yes (s : ByteArray) (fr : Nat) (c : UInt8) (w : World) (hs : s.size ≤ 8000) (h : fr + 5 ≤ s.size) (hall : ∀ i (h : i < s.size), s.size - 5 ≤ i → s[i] = c) :
    Calls Try.prog 51 #[.string s, .int .i64 fr] w fun e w' => e = .returned (.bool true) ∧ Below w.heap.size w w' := by
  have h' : ¬ (s.size : Int) - fr < 5 := by omega
  have h5 : (5 : Int) ≤ s.size := by omega
  have HL := Lib.hid hall
  clear hall
  go_enter Try.func51, Try.ntmps51
  go_wp2
  clear h'
  go_loopw [6] (fun i wr => ∃ k : Nat, s.size - 5 ≤ k ∧ k ≤ s.size ∧ i = .int .i64 k ∧ Below w.heap.size w wr) (fun i _ => s.size - (intOf i).toNat)
  case atStart => exact ⟨s.size - 5, Nat.le_refl _, by omega, by go_num, Below.refl _ _⟩
  case round =>
    obtain ⟨k, hk5, hk, rfl, hb⟩ := hrel
    by_cases hlt : k < s.size
    · have hc1 : s[k] = c := HL.out k hlt hk5
      have hc2 : s[s.size - 1] = c := HL.out (s.size - 1) (by omega) (by omega)
      have q1 : IntKind.i64.wrap ((s.size : Int) - 1) = (s.size : Int) - 1 := IntWalk.i64_in _ (by omega)
      have q2 : ((s.size : Int) - 1).toNat = s.size - 1 := by omega
      have q3 : 0 ≤ (s.size : Int) - 1 := by omega
      have q4 : (s.size : Int) - 1 < s.size := by omega
      have q5 : (1 : Int) ≤ s.size := by omega
      have q6 : (0 : Int) ≤ k := by omega
      have q7 : (k : Int) < s.size := by omega
      go_wp2_with fail
      go_quiet (fail)
      rename_i nq
      clear hc1 hc2 q1 q2
      replace hb := below_drewN hb nq
      generalize wr.drewN nq = wq at *
      go_wp2
      go_roundw
      case rel => exact ⟨k + 1, by omega, by omega, by go_num, hb⟩
      case measure => simp [intOf]; omega
    · go_wp2
      go_ret
      exact ⟨rfl, hb⟩

set_option maxHeartbeats 1000000 in
theorem equal_no (s : ByteArray) (fr j : Nat) (c : UInt8) (w : World) (hs : s.size ≤ 8000) (h : fr + 5 ≤ s.size) (hj5 : s.size - 5 ≤ j) (hj : j < s.size) (hc : s[s.size - 1] = c) (hd : s[j].toNat ≠ c.toNat) :
    Calls Try.prog 51 #[.string s, .int .i64 fr] w fun e w' => e = .returned (.bool false) ∧ Below w.heap.size w w' := by
  have h' : ¬ (s.size : Int) - fr < 5 := by omega
  have h5 : (5 : Int) ≤ s.size := by omega
  have HC := Lib.hid hc
  clear hc
  go_enter Try.func51, Try.ntmps51
  go_wp2
  clear h'
  go_loopw [6] (fun i wr => ∃ k : Nat, s.size - 5 ≤ k ∧ k ≤ j ∧ i = .int .i64 k ∧ Below w.heap.size w wr) (fun i _ => s.size - (intOf i).toNat)
  case atStart => exact ⟨s.size - 5, Nat.le_refl _, by omega, by go_num, Below.refl _ _⟩
  case round =>
    obtain ⟨k, hk5, hk, rfl, hb⟩ := hrel
    have hlt : k < s.size := by omega
    have hc2 : s[s.size - 1] = c := HC.out
    have q1 : IntKind.i64.wrap ((s.size : Int) - 1) = (s.size : Int) - 1 := IntWalk.i64_in _ (by omega)
    have q2 : ((s.size : Int) - 1).toNat = s.size - 1 := by omega
    have q3 : 0 ≤ (s.size : Int) - 1 := by omega
    have q4 : (s.size : Int) - 1 < s.size := by omega
    have q5 : (1 : Int) ≤ s.size := by omega
    have q6 : (0 : Int) ≤ k := by omega
    have q7 : (k : Int) < s.size := by omega
    have hkj : s[k].toNat = c.toNat → k < j := by
      intro e
      rcases Nat.lt_or_ge k j with h1 | h1
      · exact h1
      · have : k = j := by omega
        subst this; exact absurd e hd
    have HKJ := Lib.hid hkj
    clear hkj hd
    obtain ⟨ck, hck⟩ : ∃ x : UInt8, s[k] = x := ⟨_, rfl⟩
    rw [hck] at HKJ
    by_cases he : ck.toNat = c.toNat
    · have hlt2 := HKJ.out he
      have he' : ((ck.toNat : Int) != c.toNat) = false := by simp; omega
      go_wp2_with fail
      go_quiet (fail)
      rename_i nq
      clear hck hc2 q1 q2
      replace hb := below_drewN hb nq
      generalize wr.drewN nq = wq at *
      go_wp2
      go_roundw
      case rel => exact ⟨k + 1, by omega, by omega, by go_num, hb⟩
      case measure => simp [intOf]; omega
    · have he' : ((ck.toNat : Int) != c.toNat) = true := by simp; omega
      go_wp2_with fail
      go_quiet (fail)
      rename_i nq
      clear hck hc2 q1 q2
      replace hb := below_drewN hb nq
      generalize wr.drewN nq = wq at *
      go_wp2
      go_ret
      exact ⟨rfl, hb⟩
end Go.Proofs.Ytdpfmpbnahhjmaa
