/- The walk of the reference's Same. -/
import Derived.Test.YtfnofajglbjgjaaRefA
import Derived.Test.YtfnofajglbjgjaaRowR
namespace Go.Proofs.Ytfnofajglbjgjaa
open Go.RowKit Go.Lib

set_option maxHeartbeats 400000 in
theorem same_none (A1 A2 : Option Addr) (c1 c2 : Nat) (w : World) :
    Calls Try.prog 23 #[.slice A1 0 c1, .slice A2 0 c2] w fun e w' => e = .returned (.bool true) ∧ Below w.heap.size w w' := by
  go_enter Try.func23, Try.ntmps23
  go_wp2
  refine wp_loop_rounds 1 ?_
  rw [rounds_succ]
  go_wp2
  go_ret
  exact ⟨rfl, Below.refl _ _⟩

set_option maxHeartbeats 1000000 in
theorem same_rows (g1 g2 c1 c2 n : Nat) (rs : List (UInt8 × Nat)) (w : World) (hn : n = rs.length) (hm : n ≤ 4000) (h1 : RowR w g1 rs) (h2 : RowR w g2 rs) (hg1 : g1 < w.heap.size) (hg2 : g2 < w.heap.size) :
    Calls Try.prog 23 #[.slice (some ⟨g1, 0, none⟩) n c1, .slice (some ⟨g2, 0, none⟩) n c2] w fun e w' => e = .returned (.bool true) ∧ Below w.heap.size w w' := by
  have HN := Lib.hid hn
  have H1 := Lib.hid h1
  have H2 := Lib.hid h2
  clear hn h1 h2
  go_enter Try.func23, Try.ntmps23
  go_wp2
  go_loopw [13] (fun i wr => ∃ k : Nat, k ≤ n ∧ i = .int .i64 k ∧ Below w.heap.size w wr) (fun i _ => n - (RowKit.intOf i).toNat)
  case atStart => exact ⟨0, Nat.zero_le _, rfl, Below.refl _ _⟩
  case round =>
    obtain ⟨k, hk, rfl, hb⟩ := hrel
    by_cases hlt : k < n
    · have hx := (H1.out.below hb hg1) k (by rw [← HN.out]; exact hlt)
      have hy := (H2.out.below hb hg2) k (by rw [← HN.out]; exact hlt)
      obtain ⟨⟨c, m⟩, hcm⟩ : ∃ r, B.runAt rs k = r := ⟨_, rfl⟩
      rw [hcm] at hx hy
      simp only at hx hy
      obtain ⟨hx1, hx2⟩ := hx
      obtain ⟨hy1, hy2⟩ := hy
      clear hcm
      go_wp2_with fail
      go_quiet (fail)
      rename_i nq
      go_wp2
      go_roundw
      case rel => exact ⟨k + 1, by omega, by go_num, below_drewN hb nq⟩
      case measure => simp [RowKit.intOf]; omega
    · go_wp2
      go_ret
      exact ⟨rfl, hb⟩

/-- a slice that holds these runs, an empty one of whatever address -/
def SameR (w : World) (A : Option Addr) (rs : List (UInt8 × Nat)) : Prop := rs.length = 0 ∨ ∃ g, A = some ⟨g, 0, none⟩ ∧ g < w.heap.size ∧ RowR w g rs
theorem SameR.below {w w' : World} {A : Option Addr} {rs : List (UInt8 × Nat)} (h : SameR w A rs) (hb : Below w.heap.size w w') : SameR w' A rs := by
  rcases h with h | ⟨g, rfl, hg, hr⟩
  · exact .inl h
  · exact .inr ⟨g, rfl, Nat.lt_of_lt_of_le hg hb.size, hr.below hb hg⟩
theorem own_runs {w : World} {base : Nat} {e : TypeId} {v : Value} {rs : List (UInt8 × Nat)} (h : w.ownsRow base e 2 v rs.length (B.runCells rs)) : ∃ A cap, v = .slice A rs.length cap ∧ SameR w A rs := by
  rcases Nat.eq_zero_or_pos rs.length with h0 | h0
  · have h' := h
    rw [h0] at h'
    obtain ⟨A, cap, rfl⟩ := ownsRow_zero h'
    exact ⟨A, cap, by rw [h0], .inl h0⟩
  · obtain ⟨g, cap, rfl, _, hg⟩ := h.form h0
    exact ⟨_, cap, rfl, .inr ⟨g, rfl, hg, RowR.of_own h rfl⟩⟩
theorem same_any (A1 A2 : Option Addr) (c1 c2 n : Nat) (rs : List (UInt8 × Nat)) (w : World) (hn : n = rs.length) (hm : n ≤ 4000) (h1 : SameR w A1 rs) (h2 : SameR w A2 rs) :
    Calls Try.prog 23 #[.slice A1 n c1, .slice A2 n c2] w fun e w' => e = .returned (.bool true) ∧ Below w.heap.size w w' := by
  rcases h1 with h1 | ⟨g1, rfl, hg1, hr1⟩
  · rw [hn, h1]; exact same_none A1 A2 c1 c2 w
  · rcases h2 with h2 | ⟨g2, rfl, hg2, hr2⟩
    · rw [hn, h2]; exact same_none _ A2 c1 c2 w
    · exact same_rows g1 g2 c1 c2 n rs w hn hm hr1 hr2 hg1 hg2
end Go.Proofs.Ytfnofajglbjgjaa
