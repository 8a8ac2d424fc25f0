/- The walk of layer 2's law CrcTurned. -/
import Derived.Test.YtdgobggepcmojaaLaw02
import Derived.Test.YtdgobggepcmojaaRefTurn
import Derived.Test.YtdgobggepcmojaaBurst
namespace Go.Proofs.Ytdgobggepcmojaa
open Go.RowKit Go.Lib

theorem same_str (a b : ByteArray) : (decide (a = b) == (a.toList == b.toList)) = true := by
  rw [ByteArray.toList_eq, ByteArray.toList_eq]
  have : (a.data.toList == b.data.toList) = decide (a = b) := by
    rw [Bool.eq_iff_iff, beq_iff_eq, decide_eq_true_iff]
    exact ⟨fun h => ByteArray.ext (Array.toList_inj.mp h), fun h => by rw [h]⟩
  rw [this]; simp

set_option maxHeartbeats 1000000 in
theorem turned_no (s t : ByteArray) (at' : Int) (pat : Nat) (w : World) (htz : t.size ≤ 500) (ht : (500 < s.size ∧ s.extract 0 500 = t) ∨ (s.size ≤ 500 ∧ s = t)) (hr : B.right t = false) :
    Calls Try.prog 4 #[.string s, .int .i64 at', .int .u32 pat] w fun e w' => e = .returned (.bool true) ∧ Below w.heap.size w w' := by
  have CF := Lib.hid (fun w => frame_no t w (by unfold maxLen; omega) (.inl hr))
  have hB : Below w.heap.size w w := Below.refl _ _
  rcases ht with ⟨h1, ht⟩ | ⟨h1, rfl⟩
  all_goals
    go_enter Try.func4, Try.ntmps4
    go_wp2_with (first | (go_at_call 9; (with_reducible refine (CF.out _).mono ?_); rintro e w' ⟨rfl, rfl⟩) | (go_at_call 15; (with_reducible refine (alive_any _).mono ?_); rintro e w' ⟨rfl, hb⟩; replace hB := hB.trans (hb.mono hB.size)))
    go_ret
    exact ⟨rfl, hB⟩

set_option maxHeartbeats 1000000 in
theorem turned_yes (s t : ByteArray) (at' : Int) (pat : Nat) (w : World) (htz : t.size ≤ 500) (ht : (500 < s.size ∧ s.extract 0 500 = t) ∨ (s.size ≤ 500 ∧ s = t)) (hr : B.right t = true)
    (hpp : pat < 4294967296) :
    Calls Try.prog 4 #[.string s, .int .i64 at', .int .u32 pat] w fun e w' => e = .returned (.bool true) ∧ Below w.heap.size w w' := by
  have hB : Below w.heap.size w w := Below.refl _ _
  have hur := B.framed_right hr (by omega)
  have hu0 := B.sum_framed t
  have huc := B.framed_check hr (by omega)
  have huz := B.framed_size t
  have CF0 := fun w => frame_yes t w hr (by omega)
  obtain ⟨u, hu⟩ : ∃ u, u = B.framed t := ⟨_, rfl⟩
  rw [← hu] at hur hu0 huc huz
  simp only [← hu] at CF0
  have CF := Lib.hid CF0
  clear CF0 hu
  have CC0 : ∀ w, Calls Try.prog 13 #[.string u] w fun e w' => e = .returned (.bool true) ∧ Below w.heap.size w w' := fun w => huc ▸ check_any u w (by unfold maxLen; omega)
  have CC := Lib.hid CC0
  clear CC0
  have hz1 : 15 ≤ u.size := by omega
  have hz2 : u.size ≤ 515 := by omega
  have hz3 : (15 : Int) ≤ u.size := by omega
  have hm1 := Int.tmod_lt_of_pos at' (show (0 : Int) < u.size by omega)
  have hm2 := Int.lt_tmod_of_pos at' (show (0 : Int) < u.size by omega)
  obtain ⟨p, hp⟩ : ∃ p : Nat, (at'.tmod u.size + u.size) % u.size = p := ⟨((at'.tmod u.size + u.size) % u.size).toNat, by rw [Int.toNat_of_nonneg (Int.emod_nonneg _ (by omega))]⟩
  have hpl : p < u.size := by
    have := Int.emod_lt_of_pos (at'.tmod u.size + u.size) (show (0 : Int) < u.size by omega)
    omega
  have HP := Lib.hid hp
  clear huz htz hp
  rcases ht with ⟨h1, ht⟩ | ⟨h1, rfl⟩
  all_goals
    go_enter Try.func4, Try.ntmps4
    go_wp2_with (first | (go_at_call 9; (with_reducible refine (CF.out _).mono ?_); rintro e w' ⟨rfl, hb⟩; replace hB := hB.trans (hb.mono hB.size)) | (go_at_call 13; (with_reducible refine (CC.out _).mono ?_); rintro e w' ⟨rfl, hb⟩; replace hB := hB.trans (hb.mono hB.size)) | (go_at_call 15; (with_reducible refine (alive_any _).mono ?_); rintro e w' ⟨rfl, hb⟩; replace hB := hB.trans (hb.mono hB.size)))
    rw [HP.out]
    go_loopw [10, 45] (fun v i wr => ∃ k : Nat, k ≤ 15 ∧ i = .int .i64 k ∧ v = .string (B.hit u p pat k) ∧ Below w.heap.size w wr) (fun _ i _ => 15 - (intOf i).toNat)
    case atStart => exact ⟨0, Nat.zero_le _, rfl, rfl, hB⟩
    case round =>
      clear hB
      obtain ⟨k, hk, rfl, rfl, hB⟩ := hrel
      by_cases hlt : k < 15
      · have hpat := B.pat_bit pat k hpp
        by_cases hc : p + k < u.size
        · cases hb : pat.testBit k
          · have hn := Lib.hid (B.hit_no (t := u) (p := p) (pat := pat) (i := k) (fun h => by rw [h.2] at hb; cases hb))
            rw [hb] at hpat
            clear hb
            go_wp2
            go_roundw
            case rel => exact ⟨k + 1, by omega, by go_num, val_str hn.out.symm, hB⟩
            case measure => simp [intOf]; omega
          · have hn := Lib.hid (B.hit_yes (t := u) (p := p) (pat := pat) (i := k) hc hb)
            have CT0 : ∀ w, Calls Try.prog 17 #[.string (B.hit u p pat k), .int .i64 ((p : Int) + (k : Int))] w fun e w' => e = .returned (.string (B.turnB (B.hit u p pat k) (p + k))) ∧ Below w.heap.size w w' := fun w => by
              have := refturn_any (B.hit u p pat k) (p + k) w (by rw [B.hit_size]; exact hc) (by rw [B.hit_size]; omega) (B.hit_right p pat k hur)
              rwa [Int.natCast_add] at this
            have CT := Lib.hid CT0
            rw [hb] at hpat
            clear hb CT0
            go_wp2_with (go_at_call 17; (with_reducible refine (CT.out _).mono ?_); rintro e w' ⟨rfl, hb⟩; replace hB := hB.trans (hb.mono hB.size))
            go_roundw
            case rel => exact ⟨k + 1, by omega, by go_num, val_str hn.out.symm, hB⟩
            case measure => simp [intOf]; omega
        · have hn := Lib.hid (B.hit_no (t := u) (p := p) (pat := pat) (i := k) (fun h => hc h.1))
          have hc' : (u.size : Int) ≤ p + k := by omega
          clear hpat
          go_wp2
          go_roundw
          case rel => exact ⟨k + 1, by omega, by go_num, val_str hn.out.symm, hB⟩
          case measure => simp [intOf]; omega
      · have hk15 : k = 15 := by omega
        subst hk15
        have hcz := B.hit_size u p pat 15
        have CE := Lib.hid (fun w => check_any (B.hit u p pat 15) w (by unfold maxLen; omega))
        have hE := Lib.hid (B.burst_check p pat hur hu0 hz1 (Nat.le_of_lt hpl))
        clear hcz
        go_wp2_with (go_at_call 13; (with_reducible refine (CE.out _).mono ?_); rintro e w' ⟨rfl, hb⟩; replace hB := hB.trans (hb.mono hB.size))
        go_ret
        exact ⟨ret_bool (by rw [hE.out]; exact same_str _ _), hB⟩

theorem turned_any (s : ByteArray) (at' : Int) (pat : Nat) (w : World) (hpp : pat < 4294967296) :
    Calls Try.prog 4 #[.string s, .int .i64 at', .int .u32 pat] w fun e w' => e = .returned (.bool true) ∧ Below w.heap.size w w' := by
  obtain ⟨t, htz, ht⟩ := cut_at s 500
  cases hr : B.right t
  · exact turned_no s t at' pat w htz ht hr
  · exact turned_yes s t at' pat w htz ht hr hpp
end Go.Proofs.Ytdgobggepcmojaa
