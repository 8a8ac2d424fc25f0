/- Own texts joined: Equal RefStuff. -/
import Derived.Test.YtcaeobkaoebndaaGreatJ2
import Derived.Test.YtcaeobkaoebndaaGreatPlain
/- Equal -/
namespace Go.Proofs.YtcaeobkaoebndaaGreat
open Go.RowKit Go.Lib

set_option maxHeartbeats 400000 in
theorem equal_short (s : ByteArray) (fr : Nat) (w : World) (_hs : s.size ≤ 8000) (_hf : fr ≤ s.size) (h : s.size < fr + 5) :
    Calls Tryz.prog 43 #[.string s, .int .i64 fr] w fun e w' => e = .returned (.bool false) ∧ Below w.heap.size w w' := by
  have h' : (s.size : Int) - fr < 5 := by omega
  go_enter Tryz.func43, Tryz.ntmps43
  go_wp2
  go_ret
  exact ⟨rfl, Below.refl _ _⟩

set_option maxHeartbeats 1000000 in
theorem equal_yes (s : ByteArray) (fr : Nat) (c : UInt8) (w : World) (hs : s.size ≤ 8000) (h : fr + 5 ≤ s.size) (hall : ∀ i (h : i < s.size), s.size - 5 ≤ i → s[i] = c) :
    Calls Tryz.prog 43 #[.string s, .int .i64 fr] w fun e w' => e = .returned (.bool true) ∧ Below w.heap.size w w' := by
  have h' : ¬ (s.size : Int) - fr < 5 := by omega
  have h5 : (5 : Int) ≤ s.size := by omega
  have HL := Lib.hid hall
  clear hall
  go_enter Tryz.func43, Tryz.ntmps43
  go_wp2
  clear h'
  go_loopw [6] (fun i wr => ∃ k : Nat, s.size - 5 ≤ k ∧ k ≤ s.size ∧ i = .int .i64 k ∧ Below w.heap.size w wr) (fun i _ => s.size - (intOf i).toNat)
  case atStart => exact ⟨s.size - 5, Nat.le_refl _, by omega, by go_num, Below.refl _ _⟩
  case round =>
    obtain ⟨k, hk5, hk, rfl, hb⟩ := hrel
    by_cases hlt : k < s.size
    · have hc1 : s[k] = c := HL.out k hlt hk5
      have hc2 : s[s.size - 1] = c := HL.out (s.size - 1) (by omega) (by omega)
      have q1 : IntKind.i64.wrap ((s.size : Int) - 1) = (s.size : Int) - 1 := IntWalk.i64_in _ (by omega)
      have q2 : ((s.size : Int) - 1).toNat = s.size - 1 := by omega
      have q3 : 0 ≤ (s.size : Int) - 1 := by omega
      have q4 : (s.size : Int) - 1 < s.size := by omega
      have q5 : (1 : Int) ≤ s.size := by omega
      have q6 : (0 : Int) ≤ k := by omega
      have q7 : (k : Int) < s.size := by omega
      go_wp2_with fail
      go_quiet (fail)
      rename_i nq
      clear hc1 hc2 q1 q2
      replace hb := below_drewN hb nq
      generalize wr.drewN nq = wq at *
      go_wp2
      go_roundw
      case rel => exact ⟨k + 1, by omega, by omega, by go_num, hb⟩
      case measure => simp [intOf]; omega
    · go_wp2
      go_ret
      exact ⟨rfl, hb⟩

set_option maxHeartbeats 1000000 in
theorem equal_no (s : ByteArray) (fr j : Nat) (c : UInt8) (w : World) (hs : s.size ≤ 8000) (h : fr + 5 ≤ s.size) (hj5 : s.size - 5 ≤ j) (hj : j < s.size) (hc : s[s.size - 1] = c) (hd : s[j].toNat ≠ c.toNat) :
    Calls Tryz.prog 43 #[.string s, .int .i64 fr] w fun e w' => e = .returned (.bool false) ∧ Below w.heap.size w w' := by
  have h' : ¬ (s.size : Int) - fr < 5 := by omega
  have h5 : (5 : Int) ≤ s.size := by omega
  have HC := Lib.hid hc
  clear hc
  go_enter Tryz.func43, Tryz.ntmps43
  go_wp2
  clear h'
  go_loopw [6] (fun i wr => ∃ k : Nat, s.size - 5 ≤ k ∧ k ≤ j ∧ i = .int .i64 k ∧ Below w.heap.size w wr) (fun i _ => s.size - (intOf i).toNat)
  case atStart => exact ⟨s.size - 5, Nat.le_refl _, by omega, by go_num, Below.refl _ _⟩
  case round =>
    obtain ⟨k, hk5, hk, rfl, hb⟩ := hrel
    have hlt : k < s.size := by omega
    have hc2 : s[s.size - 1] = c := HC.out
    have q1 : IntKind.i64.wrap ((s.size : Int) - 1) = (s.size : Int) - 1 := IntWalk.i64_in _ (by omega)
    have q2 : ((s.size : Int) - 1).toNat = s.size - 1 := by omega
    have q3 : 0 ≤ (s.size : Int) - 1 := by omega
    have q4 : (s.size : Int) - 1 < s.size := by omega
    have q5 : (1 : Int) ≤ s.size := by omega
    have q6 : (0 : Int) ≤ k := by omega
    have q7 : (k : Int) < s.size := by omega
    have hkj : s[k].toNat = c.toNat → k < j := by
      intro e
      rcases Nat.lt_or_ge k j with h1 | h1
      · exact h1
      · have : k = j := by omega
        subst this; exact absurd e hd
    have HKJ := Lib.hid hkj
    clear hkj hd
    obtain ⟨ck, hck⟩ : ∃ x : UInt8, s[k] = x := ⟨_, rfl⟩
    rw [hck] at HKJ
    by_cases he : ck.toNat = c.toNat
    · have hlt2 := HKJ.out he
      have he' : ((ck.toNat : Int) != c.toNat) = false := by simp; omega
      go_wp2_with fail
      go_quiet (fail)
      rename_i nq
      clear hck hc2 q1 q2
      replace hb := below_drewN hb nq
      generalize wr.drewN nq = wq at *
      go_wp2
      go_roundw
      case rel => exact ⟨k + 1, by omega, by omega, by go_num, hb⟩
      case measure => simp [intOf]; omega
    · have he' : ((ck.toNat : Int) != c.toNat) = true := by simp; omega
      go_wp2_with fail
      go_quiet (fail)
      rename_i nq
      clear hck hc2 q1 q2
      replace hb := below_drewN hb nq
      generalize wr.drewN nq = wq at *
      go_wp2
      go_ret
      exact ⟨rfl, hb⟩
end Go.Proofs.YtcaeobkaoebndaaGreat

/- RefStuff -/
namespace Go.Proofs.YtcaeobkaoebndaaGreat
open Go.RowKit Go.Lib

theorem equal_any (l : List UInt8) (fr : Nat) (x : B.St) (c : UInt8) (w : World) (h : B.RInv l fr x) (h4 : x.2 ≤ 4) (hc : B.okc c = true) (hl : l.length < 8000) :
    Calls Tryz.prog 43 #[.string ⟨(l ++ [c]).toArray⟩, .int .i64 fr] w fun e w' => e = .returned (.bool (decide ((B.kn x c.toNat).2 = 5))) ∧ Below w.heap.size w w' := by
  obtain ⟨_, h1, h5, hr⟩ := B.rinv_step h h4 hc
  have hz : (⟨(l ++ [c]).toArray⟩ : ByteArray).size = l.length + 1 := by rw [size_of]; simp
  by_cases hn : (B.kn x c.toNat).2 = 5
  · rw [hn] at hr ⊢
    obtain ⟨ha, hb⟩ := B.run_yes hr
    rw [decide_eq_true rfl]
    have := equal_yes ⟨(l ++ [c]).toArray⟩ fr c w (by omega) (by rw [size_of]; exact ha) (fun i hi h => by
      rw [getElem_of]; exact hb i (by rwa [size_of] at hi) (by rwa [size_of] at h))
    exact this
  · rw [decide_eq_false hn]
    rcases B.run_no hr h1 (by omega) with ⟨hf, ha⟩ | ⟨ha, j, hj, hl1, hj5, hlast, hd⟩
    · exact equal_short _ fr w (by omega) (by rw [size_of]; exact hf) (by rw [size_of]; exact ha)
    · exact equal_no ⟨(l ++ [c]).toArray⟩ fr j c w (by omega) (by rw [size_of]; exact ha) (by rw [size_of]; exact hj5) (by rw [size_of]; exact hj) (by rw [getElem_of]; simpa only [size_of] using hlast) (by rw [getElem_of]; exact hd)

set_option maxRecDepth 100000 in
set_option maxHeartbeats 2000000 in
theorem refstuff_any (s : ByteArray) (w : World) (hs : s.size ≤ 3100) (hr : s.data.toList.all B.okc = true) :
    Calls Tryz.prog 22 #[.string s] w fun e w' => e = .returned (.string ⟨(B.stf s.data.toList).2.toArray⟩) ∧ Below w.heap.size w w' := by
  go_enter Tryz.func22, Tryz.ntmps22
  go_wp2
  go_loopw [3, 4, 5] (fun o f i wr => ∃ k fr : Nat, k ≤ s.size ∧ i = .int .i64 k ∧ f = .int .i64 fr ∧ o = .string ⟨(B.stf (s.data.toList.take k)).2.toArray⟩ ∧ B.RInv (B.stf (s.data.toList.take k)).2 fr (B.stf (s.data.toList.take k)).1 ∧ Below w.heap.size w wr) (fun _ _ i _ => s.size - (intOf i).toNat)
  case atStart => exact ⟨0, 0, Nat.zero_le _, rfl, rfl, rfl, B.rinv_zero, Below.refl _ _⟩
  case round =>
    obtain ⟨k, fr, hk, rfl, rfl, rfl, hi, hb⟩ := hrel
    by_cases hlt : k < s.size
    · have hall := B.all_take hr k
      have h4 := B.stf_le hall
      have hlen := B.stf_length hall
      rw [List.length_take, B.size_len] at hlen
      have hc : B.okc s[k] = true := List.all_eq_true.1 hr s[k] (by show s.data[k] ∈ _; simp)
      have q0 : (0 : Int) ≤ (k : Int) := by omega
      have q1 : (k : Int) < (s.size : Int) := by omega
      have CE0 := fun w => equal_any (B.stf (s.data.toList.take k)).2 fr (B.stf (s.data.toList.take k)).1 s[k] w hi h4 hc (by omega)
      obtain ⟨u, hu⟩ : ∃ u : ByteArray, u = ⟨((B.stf (s.data.toList.take k)).2 ++ [s[k]]).toArray⟩ := ⟨_, rfl⟩
      have huz : u.size = (B.stf (s.data.toList.take k)).2.length + 1 := by rw [hu, size_of]; simp
      have hcat := B.out_snoc (B.stf (s.data.toList.take k)).2 s k hlt
      rw [← hu] at hcat
      simp only [← hu] at CE0
      by_cases h5 : (B.kn (B.stf (s.data.toList.take k)).1 s[k].toNat).2 = 5
      · have hS := B.stf_full h5
        rw [← B.take_snoc s k hlt] at hS
        have hkn : (B.kn (B.stf (s.data.toList.take k)).1 s[k].toNat).1 = s[k].toNat := (B.rinv_step hi h4 hc).1
        have hI := B.rinv_full (l := (B.stf (s.data.toList.take k)).2) hc hkn
        simp only [decide_eq_true h5] at CE0
        have CE := Lib.hid CE0
        have HS := Lib.hid hS
        have HU := Lib.hid hu
        have HI : Hid (B.RInv (B.stf (s.data.toList.take (k + 1))).2 u.size (B.stf (s.data.toList.take (k + 1))).1) := Lib.hid (by rw [hS, huz]; simpa using hI)
        clear CE0 h5 hS hI hi hall h4 hkn hu
        rcases (B.okc_iff _).1 hc with h8 | h8
        · have HO := Lib.hid (show B.other s[k] = 49 from by rw [show s[k] = 48 from UInt8.toNat_inj.1 h8]; rfl)
          clear hc
          go_wp2_with (go_at_call 43; (with_reducible refine (CE.out _).mono ?_); rintro e w' ⟨rfl, hb'⟩; replace hb := hb.trans (hb'.mono hb.size))
          go_roundw
          case rel => exact ⟨k + 1, u.size, by omega, by go_num, val_i64 (by omega), val_str (by rw [HS.out, HU.out, HO.out]; exact (cat_one _ _).trans (by simp)), HI.out, hb⟩
          case measure => simp [intOf]; omega
        · have HO := Lib.hid (show B.other s[k] = 48 from by rw [show s[k] = 49 from UInt8.toNat_inj.1 h8]; rfl)
          clear hc
          go_wp2_with (go_at_call 43; (with_reducible refine (CE.out _).mono ?_); rintro e w' ⟨rfl, hb'⟩; replace hb := hb.trans (hb'.mono hb.size))
          go_roundw
          case rel => exact ⟨k + 1, u.size, by omega, by go_num, val_i64 (by omega), val_str (by rw [HS.out, HU.out, HO.out]; exact (cat_one _ _).trans (by simp)), HI.out, hb⟩
          case measure => simp [intOf]; omega
      · have hS := B.stf_plain h5
        rw [← B.take_snoc s k hlt] at hS
        have hI := B.rinv_plain hi h4 hc
        simp only [decide_eq_false h5] at CE0
        have CE := Lib.hid CE0
        have HS := Lib.hid hS
        have HU := Lib.hid hu
        have HI : Hid (B.RInv (B.stf (s.data.toList.take (k + 1))).2 fr (B.stf (s.data.toList.take (k + 1))).1) := Lib.hid (by rw [hS]; exact hI)
        clear CE0 h5 hS hI hi hall h4 hu hc
        go_wp2_with (go_at_call 43; (with_reducible refine (CE.out _).mono ?_); rintro e w' ⟨rfl, hb'⟩; replace hb := hb.trans (hb'.mono hb.size))
        go_roundw
        case rel => exact ⟨k + 1, fr, by omega, by go_num, rfl, val_str (by rw [HS.out, HU.out]), HI.out, hb⟩
        case measure => simp [intOf]; omega
    · have hks : k = s.size := by omega
      subst hks
      have hE := Lib.hid (show s.data.toList.take s.size = s.data.toList from List.take_of_length_le (by rw [B.size_len]; omega))
      rw [hE.out]
      go_wp2
      go_ret
      exact ⟨rfl, hb⟩
end Go.Proofs.YtcaeobkaoebndaaGreat
