/- Package frame's reader: tail. -/
import Derived.Test.YtdpfmpbnahhjmaaRHead
namespace Go.Proofs.Ytdpfmpbnahhjmaa
open Go.RowKit Go.Lib
attribute [local go_sem ↓] Go.wp_at_zero Go.wp_at_succ

theorem ones_at (j : Nat) (h : j < (⟨#[49, 49, 49, 49, 49, 49, 49, 49, 49, 49]⟩ : ByteArray).size) : (⟨#[49, 49, 49, 49, 49, 49, 49, 49, 49, 49]⟩ : ByteArray)[j].toNat = 49 := by
  have h10 : j < 10 := h
  rcases j with _ | _ | _ | _ | _ | _ | _ | _ | _ | _ | j
  all_goals first | rfl | omega
theorem B.tail_end (i : Nat) (r : List UInt8) (h : 10 ≤ i) : tailL i r = 0 := by
  cases r <;> unfold tailL <;> rw [if_neg (by omega)]
theorem B.tail_none (i : Nat) (h : i < 10) : tailL i [] = 3 := by unfold tailL; rw [if_pos h]
theorem B.tail_bad {i : Nat} {c : UInt8} {r : List UInt8} (h : i < 10) (h1 : i ≠ 1) (hc : c ≠ 49) : tailL i (c :: r) = 12 := by unfold tailL; rw [if_pos h, if_pos ⟨h1, hc⟩]
theorem B.tail_go {i : Nat} {c : UInt8} {r : List UInt8} (h : i < 10) (hc : i = 1 ∨ c = 49) : tailL i (c :: r) = tailL (i + 1) r := by
  rw [tailL, if_pos h, if_neg (by rcases hc with h1 | h1 <;> simp [h1])]

set_option maxRecDepth 100000 in
set_option maxHeartbeats 8000000 in
theorem rtail_any (row got : ByteArray) (m : Nat) (b n : Int) (g : Nat) (w : World) (h4 : row.size ≤ 4000) (hm : m ≤ row.size) (hB : Blk w g (rdV row m b n got) 67) :
    Calls Try.prog 40 #[.pointer (some ⟨g, 0, none⟩)] w fun e w' => e = .returned (.int .i64 (B.tailL 0 (row.data.toList.drop m))) ∧ Below g w w' ∧ (B.tailL 0 (row.data.toList.drop m) = 0 → Blk w' g (rdV row (m + 10 : Nat) b n got) 67) := by
  have hlen : row.data.toList.length = row.size := B.size_len row
  obtain ⟨R, hR⟩ : ∃ R, R = B.tailL 0 (row.data.toList.drop m) := ⟨_, rfl⟩
  rw [← hR]
  have HR := Lib.hid hR
  clear hR
  go_enter Try.func40, Try.ntmps40
  go_wp2
  go_loopw [4] (fun i wr => ∃ (j k : Nat), j ≤ 10 ∧ k ≤ row.size ∧ Hid (k = m + j) ∧ i = .int .i64 j ∧ Hid (B.tailL 0 (row.data.toList.drop m) = B.tailL j (row.data.toList.drop k)) ∧ Blk wr g (rdV row k b n got) 67 ∧ Below g w wr) (fun i _ => 10 - (intOf i).toNat)
  case atStart => exact ⟨0, m, by omega, hm, Lib.hid rfl, rfl, Lib.hid rfl, hB, Below.refl _ _⟩
  case round =>
    clear hB
    obtain ⟨j, k, hj, hk, HK, rfl, HT, hB, hW⟩ := hrel
    by_cases hj10 : j < 10
    · have c0 := hB.cell 0 _ rfl
      have c1 := hB.cell 1 _ rfl
      by_cases hlt : k < row.size
      · have hkq : ((k : Int) == row.size) = false := by simp; omega
        have q0 : (0 : Int) ≤ (k : Int) := by omega
        have q1 : (k : Int) < (row.size : Int) := by omega
        have q2 : (k : Int) ≤ 4000 := by omega
        have hD : row.data.toList.drop k = row[k] :: row.data.toList.drop (k + 1) := List.drop_eq_getElem_cons (by omega)
        have hl10 : j < (⟨#[49, 49, 49, 49, 49, 49, 49, 49, 49, 49]⟩ : ByteArray).size := hj10
        have hone := ones_at j hl10
        by_cases hbad : j ≠ 1 ∧ row[k] ≠ 49
        · have hE := HT.out
          rw [hD, B.tail_bad hj10 hbad.1 hbad.2, ← HR.out] at hE
          have HE := Lib.hid hE
          have x1 : ((j : Int) != 1) = true := by have := hbad.1; simp; omega
          have x2 : ((row[k].toNat : Int) != ((⟨#[49, 49, 49, 49, 49, 49, 49, 49, 49, 49]⟩ : ByteArray)[j].toNat : Int)) = true := by
            rw [hone]; simp only [bne_iff_ne, ne_eq]
            intro e; exact hbad.2 (UInt8.toNat_inj.1 (show row[k].toNat = 49 by omega))
          clear hE hbad hone hD
          go_wp2
          go_quiet (fail)
          have hB' : Blk (wr.drewN nq) g (rdV row k b n got) 67 := hB
          have hW' : Below g w (wr.drewN nq) := below_drewN hW _
          clear c0 c1 hB hW
          generalize wr.drewN nq = wr2 at *
          have c0 := hB'.cell 0 _ rfl
          have c1 := hB'.cell 1 _ rfl
          go_wp2
          go_quiet (fail)
          go_wp2
          go_ret
          refine ⟨?_, below_drewN hW' _, fun h => ?_⟩
          · rw [HE.out]; rfl
          · rw [HE.out] at h; cases h
        · have hE := HT.out
          have hor : j = 1 ∨ row[k] = 49 := by
            by_cases h1 : j = 1
            · exact .inl h1
            · exact .inr (by simp only [not_and, ne_eq, Decidable.not_not] at hbad; exact hbad h1)
          rw [hD, B.tail_go hj10 hor] at hE
          have HE := Lib.hid hE
          have HB := Lib.hid hB
          have HW := Lib.hid hW
          by_cases h1 : j = 1
          · have x1 : ((j : Int) != 1) = false := by simp; omega
            clear hE hbad hone hD hor h1
            go_wp2
            go_quiet (fail)
            have hB' : Blk (wr.drewN nq) g (rdV row k b n got) 67 := hB
            have hW' : Below g w (wr.drewN nq) := below_drewN hW _
            clear c0 c1 hB hW HB HW
            generalize wr.drewN nq = wr2 at *
            have c0 := hB'.cell 0 _ rfl
            have c1 := hB'.cell 1 _ rfl
            go_wp2
            go_quiet (fail)
            have hB2 : Blk (wr2.drewN nq) g (rdV row k b n got) 67 := hB'
            have hW2 : Below g w (wr2.drewN nq) := below_drewN hW' _
            clear c0 c1 hB' hW'
            generalize wr2.drewN nq = wr3 at *
            have c1 := hB2.cell 1 _ rfl
            have z1 := hB2.free 1
            go_wp2
            go_roundw
            case rel => exact ⟨j + 1, k + 1, by omega, hlt, Lib.hid (by have := HK.out; omega), by go_num, HE, blk_set1 hB2 _, hW2.setCell (show g ≤ g from Nat.le_refl _) _⟩
            case measure => simp [intOf]; omega
          · have hc49 : row[k] = 49 := by rcases hor with h | h; exact absurd h h1; exact h
            have x1 : ((j : Int) != 1) = true := by simp; omega
            have x2 : ((row[k].toNat : Int) != ((⟨#[49, 49, 49, 49, 49, 49, 49, 49, 49, 49]⟩ : ByteArray)[j].toNat : Int)) = false := by rw [hone, hc49] <;> rfl
            clear hE hbad hone hD hor h1 hc49
            go_wp2
            go_quiet (fail)
            have hB' : Blk (wr.drewN nq) g (rdV row k b n got) 67 := hB
            have hW' : Below g w (wr.drewN nq) := below_drewN hW _
            clear c0 c1 hB hW HB HW
            generalize wr.drewN nq = wr2 at *
            have c0 := hB'.cell 0 _ rfl
            have c1 := hB'.cell 1 _ rfl
            go_wp2
            go_quiet (fail)
            have hB2 : Blk (wr2.drewN nq) g (rdV row k b n got) 67 := hB'
            have hW2 : Below g w (wr2.drewN nq) := below_drewN hW' _
            clear c0 c1 hB' hW'
            generalize wr2.drewN nq = wr3 at *
            have c1 := hB2.cell 1 _ rfl
            have z1 := hB2.free 1
            go_wp2
            go_roundw
            case rel => exact ⟨j + 1, k + 1, by omega, hlt, Lib.hid (by have := HK.out; omega), by go_num, HE, blk_set1 hB2 _, hW2.setCell (show g ≤ g from Nat.le_refl _) _⟩
            case measure => simp [intOf]; omega
      · have hks : k = row.size := by omega
        have hE := HT.out
        rw [List.drop_of_length_le (i := k) (by omega), B.tail_none j hj10, ← HR.out] at hE
        have HE := Lib.hid hE
        have hkq : ((k : Int) == row.size) = true := by simp; omega
        clear hE hks hlt
        go_wp2
        go_quiet (fail)
        go_wp2
        go_ret
        refine ⟨?_, below_drewN hW _, fun h => ?_⟩
        · rw [HE.out]; rfl
        · rw [HE.out] at h; cases h
    · have hj' : j = 10 := by omega
      subst hj'
      have hE := HT.out
      rw [B.tail_end 10 _ (by omega), ← HR.out] at hE
      have HE := Lib.hid hE
      clear hE
      go_wp2
      go_ret
      refine ⟨?_, hW, fun _ => by rw [← HK.out]; exact hB⟩
      rw [HE.out]; rfl
end Go.Proofs.Ytdpfmpbnahhjmaa
