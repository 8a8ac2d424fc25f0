/- The walks of package bits' alike, pull and And. -/
import Derived.Test.YthgbfidghhlldabRows
import Derived.WalkKit
import Derived.WalkSpells
import Derived.WalkLawsBesides
import Derived.Deep.QuietTactic
import Derived.BigQuiet
import Derived.WalkSmall
import Derived.Deep.AppendLies
import Derived.Test.YthgbfidghhlldabJ4
import Derived.Test.YthgbfidghhlldabPlain
namespace Go.Proofs.Ythgbfidghhlldab
open Go.RowKit Go.Lib

/-- block g holds the texts ss from its first cell on -/
def RowS (w : World) (g : Nat) (ss : List ByteArray) : Prop := ∀ i, i < ss.length → w.cell? ⟨g, i, none⟩ = some (.string (B.at_ ss i))

theorem RowS.below {w w' : World} {g B : Nat} {ss : List ByteArray} (h : RowS w g ss) (hb : Below B w w') (hg : g < B) : RowS w' g ss :=
  fun i hi => by rw [hb.cell (by exact hg)]; exact h i hi

set_option maxHeartbeats 400000 in
theorem alike_any (g cap : Nat) (ss : List ByteArray) (w : World) (hn : ss.length ≤ maxLen) (hz : ∀ s ∈ ss, s.size ≤ maxLen) (hc : RowS w g ss) :
    Calls Try.prog 50 #[.slice (some ⟨g, 0, none⟩) ss.length cap] w fun e w' => e = .returned (.bool (B.alike ss)) ∧ w = w' := by
  unfold maxLen at hn
  go_enter Try.func50, Try.ntmps50
  obtain ⟨n, hln⟩ : ∃ n, ss.length = n := ⟨_, rfl⟩
  rw [hln] at hn ⊢
  have HL := Lib.hid hln
  go_wp2
  go_loop [7] (fun i => ∃ k : Nat, k ≤ n ∧ i = .int .i64 k ∧ B.preA ss k) (fun i => n - (intOf i).toNat)
  case atStart => exact ⟨0, Nat.zero_le _, rfl, B.preA_zero ss⟩
  case round =>
    obtain ⟨k, hk, rfl, hp⟩ := hrel
    by_cases hlt : k < n
    · have hk0 := hc k (by omega)
      have h00 := hc 0 (by omega)
      have hm := hz _ (B.at_mem (ss := ss) (k := k) (by omega))
      obtain ⟨s, hs⟩ : ∃ s, B.at_ ss k = s := ⟨_, rfl⟩
      obtain ⟨s0, hs0⟩ : ∃ s, B.at_ ss 0 = s := ⟨_, rfl⟩
      rw [hs] at hk0 hm
      rw [hs0] at h00
      have HS := Lib.hid hs
      have HS0 := Lib.hid hs0
      have HC := Lib.hid hc
      clear hs hs0 hc hln hz
      by_cases hr : B.right s = true
      · by_cases he : s.size = s0.size
        · have hp' := B.preA_succ hp (by rw [HS.out]; exact hr) (by rw [HS.out, HS0.out]; exact he)
          have hx : ((s.size : Int) != s0.size) = false := by simp; omega
          clear hp he
          go_wp2_with (go_at_call 54; (with_reducible refine (right_any _ _ hm).mono ?_); rintro e w' ⟨rfl, rfl⟩)
          go_round
          case rel => exact ⟨k + 1, by omega, by go_num, hp'⟩
          case measure => simp [intOf]; omega
        · have hb := Lib.hid (B.alike_bad (ss := ss) (k := k) (by rw [HL.out]; exact hlt) (.inr (by rw [HS.out, HS0.out]; exact he)))
          have hx : ((s.size : Int) != s0.size) = true := by simp; omega
          go_wp2_with (go_at_call 54; (with_reducible refine (right_any _ _ hm).mono ?_); rintro e w' ⟨rfl, rfl⟩)
          go_ret
          exact ⟨ret_bool hb.out.symm, rfl⟩
      · have hr' : B.right s = false := by simpa using hr
        have hb := Lib.hid (B.alike_bad (ss := ss) (k := k) (by rw [HL.out]; exact hlt) (.inl (by rw [HS.out]; exact hr')))
        clear hr
        go_wp2_with (go_at_call 54; (with_reducible refine (right_any _ _ hm).mono ?_); rintro e w' ⟨rfl, rfl⟩)
        go_ret
        exact ⟨ret_bool hb.out.symm, rfl⟩
    · have hb := Lib.hid (B.alike_of (ss := ss) (by rw [HL.out, show n = k from by omega]; exact hp))
      clear hln
      go_wp2
      go_ret
      exact ⟨ret_bool (by rw [hb.out, HL.out]), rfl⟩

set_option maxHeartbeats 400000 in
theorem pull_any (g cap : Nat) (l : List UInt8) (s : ByteArray) (w : World) (hn : s.size ≤ maxLen) (hl : l.length = s.size) (hc : RowB w g l) :
    Calls Try.prog 51 #[.slice (some ⟨g, 0, none⟩) s.size cap, .string s] w fun e w' => e = .returned (.tuple #[]) ∧ RowB w' g (B.pull l s.data.toList) ∧ Below g w w' := by
  unfold maxLen at hn
  go_enter Try.func51, Try.ntmps51
  have HL := Lib.hid hl
  clear hl
  go_wp2
  go_loopw [7] (fun i wr => ∃ k : Nat, k ≤ s.size ∧ i = .int .i64 k ∧ RowB wr g (B.pullTo l s.data.toList k) ∧ Below g w wr) (fun i _ => s.size - (intOf i).toNat)
  case atStart => exact ⟨0, Nat.zero_le _, rfl, by rw [B.pullTo_zero]; exact hc, Below.refl _ _⟩
  case round =>
    obtain ⟨k, hk, rfl, hr, hb⟩ := hrel
    have hlen : s.data.toList.length = l.length := by rw [B.size_len]; exact HL.out.symm
    by_cases hlt : k < s.size
    · have hgk : s.data.toList[k]? = some s[k] := by rw [List.getElem?_eq_getElem (by rw [B.size_len]; exact hlt)]; rfl
      by_cases h48 : s[k].toNat = 48
      · have e48 : s[k] = 48 := by apply UInt8.toNat_inj.1; rw [h48]; rfl
        have hset := Lib.hid (B.pullTo_set (l := l) (s := s.data.toList) (k := k) hlen (by rw [HL.out]; exact hlt) (by rw [hgk, e48]))
        have hlk : k < (B.pullTo l s.data.toList k).length := by rw [B.pullTo_length _ _ _ hlen, HL.out]; exact hlt
        have hfr := hr.free k hlk
        have hce := hr.cell k _ (List.getElem?_eq_getElem hlk)
        obtain ⟨v0, hv0⟩ : ∃ v, v = (B.pullTo l s.data.toList k)[k].toNat := ⟨_, rfl⟩
        rw [← hv0] at hce
        have HLEN := Lib.hid hlen
        have HLK := Lib.hid hlk
        clear hv0 hgk e48 hlen hlk
        go_wp2
        go_roundw
        case rel =>
          refine ⟨k + 1, by omega, by go_num, ?_, hb.setCell (Nat.le_refl _) _⟩
          rw [hset.out]
          exact hr.set k HLK.out 48
        case measure => simp [intOf]; omega
      · have hset := Lib.hid (B.pullTo_same (l := l) (s := s.data.toList) (k := k) hlen (by rw [HL.out]; exact hlt) (by rw [hgk]; intro e; simp at e; rw [e] at h48; exact h48 rfl))
        clear hlen hgk
        go_wp2
        go_roundw
        case rel => exact ⟨k + 1, by omega, by go_num, by rw [hset.out]; exact hr, hb⟩
        case measure => simp [intOf]; omega
    · have hfin : RowB wr g (B.pull l s.data.toList) := by
        rw [← B.pullTo_full, HL.out, show s.size = k from by omega]; exact hr
      clear hlen
      go_wp2
      go_end0
      exact ⟨rfl, hfin, hb⟩

set_option maxHeartbeats 400000 in
theorem and_no (g cap : Nat) (ss : List ByteArray) (w : World) (hn : ss.length ≤ maxLen) (hz : ∀ s ∈ ss, s.size ≤ maxLen) (hc : RowS w g ss) (ha : B.alike ss = false) :
    Calls Try.prog 44 #[.slice (some ⟨g, 0, none⟩) ss.length cap] w fun e w' => e = .returned (.tuple #[.string ⟨#[]⟩, .int .i64 1]) ∧ w = w' := by
  have C := Lib.hid (alike_any g cap ss w hn hz hc)
  clear hn hz hc
  go_enter Try.func44, Try.ntmps44
  go_wp2_with (go_at_call 50; (with_reducible refine C.out.mono ?_); rintro e w' ⟨rfl, rfl⟩)
  go_ret2
  exact ⟨rfl, rfl⟩

set_option maxHeartbeats 400000 in
theorem and_yes (g cap : Nat) (ss : List ByteArray) (w : World) (hn : ss.length ≤ maxLen) (hz : ∀ s ∈ ss, s.size ≤ maxLen) (hc : RowS w g ss) (ha : B.alike ss = true) (hcap : ss.length ≤ cap) (hg : g < w.heap.size) :
    Calls Try.prog 44 #[.slice (some ⟨g, 0, none⟩) ss.length cap] w fun e w' => e = .returned (.tuple #[.string ⟨(B.andL ss).toArray⟩, .int .i64 0]) ∧ Below w.heap.size w w' := by
  have C := Lib.hid (alike_any g cap ss w hn hz hc)
  have hp := B.alike_pos ha
  have h0 := hc 0 hp
  obtain ⟨s0, hs0⟩ : ∃ s, B.at_ ss 0 = s := ⟨_, rfl⟩
  rw [hs0] at h0
  have hconv := Lib.run_convert_string_bytes (P := Try.prog) w 9 58 5 s0 Try.underlying9 Try.underlying58 Try.underlying5
  have hrow := bytesWorld_row w 5 s0
  have hbel := bytesWorld_below w 5 s0
  obtain ⟨n, hln⟩ : ∃ n, ss.length = n := ⟨_, rfl⟩
  unfold maxLen at hn
  rw [hln] at hn hcap hp C ⊢
  have HL := Lib.hid hln
  have HS0 := Lib.hid hs0
  have HC := Lib.hid hc
  have HZ := Lib.hid hz
  clear hc hz hln hs0
  have hn1 : 1 ≤ n := hp
  by_cases hc1 : cap = 1
  · have hn2 : n = 1 := by omega
    subst hn2
    subst hc1
    have hfin := RowB.back (P := Try.prog) (cap := grownCap w s0.size 0 5) (k := s0.size) 58 9 (l := B.andL ss) (by unfold B.andL; rw [B.andTo_length ha _ (by rw [HL.out]; omega), HS0.out]) Try.underlying58 Try.underlying5 Try.underlying9 (by unfold B.andL; rw [HL.out, B.andTo_zero, HS0.out]; exact hrow)
    go_enter Try.func44, Try.ntmps44
    go_wp2_with (go_at_call 50; (with_reducible refine C.out.mono ?_); rintro e w' ⟨rfl, rfl⟩)
    refine wp_loop_rounds 1 ?_
    rw [rounds_succ]
    go_wp2
    go_ret2
    exact ⟨rfl, hbel⟩
  · go_enter Try.func44, Try.ntmps44
    go_wp2_with (go_at_call 50; (with_reducible refine C.out.mono ?_); rintro e w' ⟨rfl, rfl⟩)
    go_loopw [17] (fun i wr => ∃ k : Nat, k ≤ n - 1 ∧ i = .int .i64 k ∧ RowB wr w.heap.size (B.andTo ss k) ∧ Below w.heap.size w wr) (fun i _ => n - 1 - (intOf i).toNat)
    case atStart => exact ⟨0, Nat.zero_le _, rfl, by rw [B.andTo_zero, HS0.out]; exact hrow, hbel⟩
    case round =>
      obtain ⟨k, hk, rfl, hr, hb⟩ := hrel
      clear hconv h0 hrow hbel
      by_cases hlt : k < n - 1
      · have hx := HC.out (1 + k) (by rw [HL.out]; omega)
        rw [← hb.cell (p := ⟨g, 1 + k, none⟩) hg] at hx
        have hs1 := (B.alike_row ha (1 + k) (by rw [HL.out]; omega)).2
        rw [HS0.out] at hs1
        have CP := pull_any w.heap.size (grownCap w s0.size 0 5) (B.andTo ss k) (B.at_ ss (1 + k)) wr (HZ.out _ (B.at_mem (by rw [HL.out]; omega))) (by rw [B.andTo_length ha k (by rw [HL.out]; omega), HS0.out, hs1]) hr
        have hnx := Lib.hid (B.andTo_succ (ss := ss) (k := k) (by rw [HL.out]; omega))
        rw [hs1] at CP
        have CP := Lib.hid CP
        obtain ⟨s1, hs1'⟩ : ∃ s, B.at_ ss (1 + k) = s := ⟨_, rfl⟩
        rw [hs1'] at hx CP
        rw [Nat.add_comm k 1, hs1'] at hnx
        clear hs1 hs1' hr
        go_wp2_with (go_at_call 51; (with_reducible refine CP.out.mono ?_); rintro e w' ⟨rfl, hr2, hb2⟩)
        go_roundw
        case rel => exact ⟨1 + k, by omega, by go_num, by rw [hnx.out]; exact hr2, hb.trans hb2⟩
        case measure => simp [intOf]; omega
      · have hfin := RowB.back (P := Try.prog) (cap := grownCap w s0.size 0 5) (k := s0.size) 58 9 (l := B.andL ss) (by unfold B.andL; rw [B.andTo_length ha _ (by rw [HL.out]; omega), HS0.out]) Try.underlying58 Try.underlying5 Try.underlying9 (by unfold B.andL; rw [HL.out, show n - 1 = k from by omega]; exact hr)
        clear hr
        go_wp2
        go_ret2
        exact ⟨rfl, hb⟩

/-! ### And, called with rows written out -/

theorem rowS_lit (ss : List ByteArray) (w : World) : RowS (w.alloc (.cells (ss.map Value.string).toArray 9)) w.heap.size ss := by
  intro i hi
  rw [World.cell?_alloc_at _ _ _ _ rfl]
  simp [B.at_, List.getD_eq_getElem?_getD, hi]

theorem and_lit_yes (ss : List ByteArray) (w : World) (hn : ss.length ≤ maxLen) (hz : ∀ s ∈ ss, s.size ≤ maxLen) (ha : B.alike ss = true) :
    Calls Try.prog 44 #[.slice (some ⟨w.heap.size, 0, none⟩) ss.length ss.length] (w.alloc (.cells (ss.map Value.string).toArray 9)) fun e w' => e = .returned (.tuple #[.string ⟨(B.andL ss).toArray⟩, .int .i64 0]) ∧ Below w.heap.size w w' := by
  refine (and_yes w.heap.size ss.length ss _ hn hz (rowS_lit ss w) ha (Nat.le_refl _) (by simp)).mono ?_
  rintro e w' ⟨rfl, hb⟩
  exact ⟨rfl, ((Below.refl _ _).alloc (Nat.le_refl _) _).trans (hb.mono (by simp))⟩

theorem and_lit_no (ss : List ByteArray) (w : World) (hn : ss.length ≤ maxLen) (hz : ∀ s ∈ ss, s.size ≤ maxLen) (ha : B.alike ss = false) :
    Calls Try.prog 44 #[.slice (some ⟨w.heap.size, 0, none⟩) ss.length ss.length] (w.alloc (.cells (ss.map Value.string).toArray 9)) fun e w' => e = .returned (.tuple #[.string ⟨#[]⟩, .int .i64 1]) ∧ Below w.heap.size w w' := by
  refine (and_no w.heap.size ss.length ss _ hn hz (rowS_lit ss w) ha).mono ?_
  rintro e w' ⟨rfl, rfl⟩
  exact ⟨rfl, (Below.refl _ _).alloc (Nat.le_refl _) _⟩
end Go.Proofs.Ythgbfidghhlldab
