/- Layer 7: each state's step is the chapter's. -/
import Derived.Test.YtcaeobkaoebndaaGreatCtX
namespace Go.Proofs.YtcaeobkaoebndaaGreat
open Go.RowKit Go.Lib

theorem bw {c : B.Cs} (h : B.BareM c) (k : B.Cn) (s n : Nat) (was hard : Bool) : ({ c with cnt := k, state := s, n := n, was := was, hard := hard } : B.Cs) = B.bareC k s n was hard c.has c.fr := by
  obtain ⟨a1, a2, a3, a4, a5, a6, a7, a8⟩ := h
  cases c
  simp only at a1 a2 a3 a4 a5 a6 a7 a8
  subst a1 a2 a3 a4 a5 a6 a7 a8
  rfl
theorem sample_0' {c : B.Cs} (h : c.state = 0) (b : UInt8) : c.sample b = if b = 48 then ({ c with n := 0 }, B.ev0) else if c.n + 1 = 11 then ({ c with state := 1, n := 0 }, B.ev0) else ({ c with n := c.n + 1 }, B.ev0) := by
  unfold B.Cs.sample; rw [if_pos h]
theorem st_join (c : B.Cs) (g : Nat) (b : UInt8) (w : World) (hR : rowAt w g = some (mA c B.ev0)) (h : B.RightM c) (hst : c.state = 0) (hb : B.okc b = true) :
    Calls Tryz.prog 46 #[.pointer (some ⟨g, 0, none⟩), .int .u8 (b.toNat : Nat)] w fun x w' => x = .returned (.tuple #[]) ∧ (rowAt w' g = some (mA (c.sample b).1 (c.sample b).2) ∧ Below g w w') := by
  have HB := h.bare (by omega)
  obtain ⟨n0, n1, n3, n4, n5, n6, n7⟩ := h.num
  rcases B.okc_cases hb with rfl | rfl
  · have e := show c.sample 48 = ({ c with n := 0 }, B.ev0) from by rw [sample_0' hst, if_pos (show (48 : UInt8) = 48 from rfl)]
    rw [e]
    exact join_a c B.ev0 g w hR
  · by_cases hn : c.n = 10
    · have e := show c.sample 49 = (B.bareC c.cnt 1 0 c.was c.hard c.has c.fr, B.ev0) from by rw [sample_0' hst, if_neg (show ¬ (49 : UInt8) = 48 by decide), if_pos (show c.n + 1 = 11 by omega)]; exact Prod.ext (bw HB c.cnt 1 0 c.was c.hard) rfl
      rw [e]
      exact join_c c B.ev0 g w hR hn
    · have e := show c.sample 49 = ({ c with n := c.n + 1 }, B.ev0) from by rw [sample_0' hst, if_neg (show ¬ (49 : UInt8) = 48 by decide), if_neg (show ¬ c.n + 1 = 11 by omega)]
      rw [e]
      exact join_b c B.ev0 g w hR hn (by omega)
theorem st_idle (c : B.Cs) (g : Nat) (b : UInt8) (w : World) (hR : rowAt w g = some (mA c B.ev0)) (h : B.RightM c) (hst : c.state = 1) (hb : B.okc b = true) :
    Calls Tryz.prog 47 #[.pointer (some ⟨g, 0, none⟩), .int .u8 (b.toNat : Nat)] w fun x w' => x = .returned (.tuple #[]) ∧ (rowAt w' g = some (mA (c.sample b).1 (c.sample b).2) ∧ Below g w w') := by
  rcases B.okc_cases hb with rfl | rfl
  · cases hh : c.has
    · have e := show c.sample 48 = (c.begin_ false, B.ev0) from by rw [B.sample_1 hst, if_pos (show (48 : UInt8) = 48 from rfl), hh]
      rw [e]
      exact idle_a c B.ev0 g w hR hh
    · have e := show c.sample 48 = (c.begin_ true, B.ev0) from by rw [B.sample_1 hst, if_pos (show (48 : UInt8) = 48 from rfl), hh]
      rw [e]
      exact idle_b c B.ev0 g w hR hh (h.has hh)
  · have e := show c.sample 49 = (c, B.ev0) from by rw [B.sample_1 hst, if_neg (show ¬ (49 : UInt8) = 48 by decide)]
    rw [e]
    exact idle_c c B.ev0 g w hR
theorem st_flag (c : B.Cs) (g : Nat) (b : UInt8) (w : World) (hR : rowAt w g = some (mA c B.ev0)) (h : B.RightM c) (hst : c.state = 3) (hb : B.okc b = true) :
    Calls Tryz.prog 49 #[.pointer (some ⟨g, 0, none⟩), .int .u8 (b.toNat : Nat)] w fun x w' => x = .returned (.tuple #[]) ∧ (rowAt w' g = some (mA (c.sample b).1 (c.sample b).2) ∧ Below g w w') := by
  have HB := h.bare (by omega)
  obtain ⟨n0, n1, n3, n4, n5, n6, n7⟩ := h.num
  by_cases hn : c.n = 5
  · have e : c.sample b = (B.bareC c.cnt 4 0 c.was c.hard c.has c.fr, B.ev0) := by rw [B.sample_3 hst, if_pos (show c.n + 1 = 6 by omega)]; exact Prod.ext (bw HB c.cnt 4 0 c.was c.hard) rfl
    rw [e]
    rcases B.okc_cases hb with rfl | rfl
    · exact flag_b48 c B.ev0 g w hR hn
    · exact flag_b49 c B.ev0 g w hR hn
  · have e : c.sample b = ({ c with n := c.n + 1 }, B.ev0) := by rw [B.sample_3 hst, if_neg (show ¬ c.n + 1 = 6 by omega)]
    rw [e]
    rcases B.okc_cases hb with rfl | rfl
    · exact flag_a48 c B.ev0 g w hR hn (by omega)
    · exact flag_a49 c B.ev0 g w hR hn (by omega)
theorem st_delim (c : B.Cs) (g : Nat) (b : UInt8) (w : World) (hR : rowAt w g = some (mA c B.ev0)) (h : B.RightM c) (hst : c.state = 5) (hb : B.okc b = true) :
    Calls Tryz.prog 51 #[.pointer (some ⟨g, 0, none⟩), .int .u8 (b.toNat : Nat)] w fun x w' => x = .returned (.tuple #[]) ∧ (rowAt w' g = some (mA (c.sample b).1 (c.sample b).2) ∧ Below g w w') := by
  have HB := h.bare (by omega)
  obtain ⟨n0, n1, n3, n4, n5, n6, n7⟩ := h.num
  rcases B.okc_cases hb with rfl | rfl
  · have e := show c.sample 48 = (B.bareC c.cnt 3 0 c.was c.hard c.has c.fr, B.ev0) from by rw [B.sample_5 hst, if_pos (show (48 : UInt8) = 48 from rfl)]; exact Prod.ext (bw HB c.cnt 3 0 c.was c.hard) rfl
    rw [e]
    exact delim_a c B.ev0 g w hR
  · by_cases hn : c.n = 7
    · have e := show c.sample 49 = (B.bareC c.cnt 6 0 c.was c.hard c.has c.fr, B.ev0) from by rw [B.sample_5 hst, if_neg (show ¬ (49 : UInt8) = 48 by decide), if_pos (show c.n + 1 = 8 by omega)]; exact Prod.ext (bw HB c.cnt 6 0 c.was c.hard) rfl
      rw [e]
      exact delim_c c B.ev0 g w hR hn
    · have e := show c.sample 49 = ({ c with n := c.n + 1 }, B.ev0) from by rw [B.sample_5 hst, if_neg (show ¬ (49 : UInt8) = 48 by decide), if_neg (show ¬ c.n + 1 = 8 by omega)]
      rw [e]
      exact delim_b c B.ev0 g w hR hn (by omega)
theorem st_hold (c : B.Cs) (g : Nat) (b : UInt8) (w : World) (hR : rowAt w g = some (mA c B.ev0)) (h : B.RightM c) (hst : c.state = 7) (hb : B.okc b = true) :
    Calls Tryz.prog 53 #[.pointer (some ⟨g, 0, none⟩), .int .u8 (b.toNat : Nat)] w fun x w' => x = .returned (.tuple #[]) ∧ (rowAt w' g = some (mA (c.sample b).1 (c.sample b).2) ∧ Below g w w') := by
  have HB := h.bare (by omega)
  obtain ⟨n0, n1, n3, n4, n5, n6, n7⟩ := h.num
  rcases B.okc_cases hb with rfl | rfl
  · have e := show c.sample 48 = (c.begin_ false, B.ev0) from by rw [B.sample_7 hst, if_pos (show (48 : UInt8) = 48 from rfl)]
    rw [e]
    exact hold_a c B.ev0 g w hR
  · by_cases hn : c.n = 7
    · have e := show c.sample 49 = (B.bareC c.cnt 1 0 c.was c.hard c.has c.fr, B.ev0) from by rw [B.sample_7 hst, if_neg (show ¬ (49 : UInt8) = 48 by decide), if_pos (show c.n + 1 = 8 by omega)]; exact Prod.ext (bw HB c.cnt 1 0 c.was c.hard) rfl
      rw [e]
      exact hold_c c B.ev0 g w hR hn
    · have e := show c.sample 49 = ({ c with n := c.n + 1 }, B.ev0) from by rw [B.sample_7 hst, if_neg (show ¬ (49 : UInt8) = 48 by decide), if_neg (show ¬ c.n + 1 = 8 by omega)]
      rw [e]
      exact hold_b c B.ev0 g w hR hn (by omega)
theorem st_gap (c : B.Cs) (g : Nat) (b : UInt8) (w : World) (hR : rowAt w g = some (mA c B.ev0)) (h : B.RightM c) (hst : c.state = 6) (hb : B.okc b = true) :
    Calls Tryz.prog 52 #[.pointer (some ⟨g, 0, none⟩), .int .u8 (b.toNat : Nat)] w fun x w' => x = .returned (.tuple #[]) ∧ (rowAt w' g = some (mA (c.sample b).1 (c.sample b).2) ∧ Below g w w') := by
  have HB := h.bare (by omega)
  obtain ⟨n0, n1, n3, n4, n5, n6, n7⟩ := h.num
  rcases B.okc_cases hb with rfl | rfl
  · by_cases hn : c.n = 2
    · have e := show c.sample 48 = (c.begin_ false, B.ev0) from by rw [B.sample_6 hst, if_pos (show (48 : UInt8) = 48 from rfl), if_pos (hn)]
      rw [e]
      exact gap_b c B.ev0 g w hR hn
    · have e := show c.sample 48 = (B.bareC c.cnt 3 0 c.was true c.has c.fr, B.ev0) from by rw [B.sample_6 hst, if_pos (show (48 : UInt8) = 48 from rfl), if_neg (hn)]; exact Prod.ext (bw HB c.cnt 3 0 c.was true) rfl
      rw [e]
      exact gap_a c B.ev0 g w hR (by omega)
  · by_cases hn : c.n = 2
    · cases hw : c.was
      · have e := show c.sample 49 = (B.bareC c.cnt 1 0 c.was c.hard c.has c.fr, B.ev0) from by rw [B.sample_6 hst, if_neg (show ¬ (49 : UInt8) = 48 by decide), if_pos (show c.n + 1 = 3 by omega), if_neg (show ¬ (c.was = true ∧ c.cnt.state = 2) by rw [hw]; simp)]; exact Prod.ext (bw HB c.cnt 1 0 c.was c.hard) rfl
        rw [e]
        exact gap_f c B.ev0 g w hR hn hw
      · by_cases hp : c.cnt.state = 2
        · have e := show c.sample 49 = (B.bareC c.cnt 7 0 c.was c.hard c.has c.fr, B.ev0) from by rw [B.sample_6 hst, if_neg (show ¬ (49 : UInt8) = 48 by decide), if_pos (show c.n + 1 = 3 by omega), if_pos (show c.was = true ∧ c.cnt.state = 2 from ⟨hw, hp⟩)]; exact Prod.ext (bw HB c.cnt 7 0 c.was c.hard) rfl
          rw [e]
          exact gap_d c B.ev0 g w hR hn hw h.cnt hp
        · have e := show c.sample 49 = (B.bareC c.cnt 1 0 c.was c.hard c.has c.fr, B.ev0) from by rw [B.sample_6 hst, if_neg (show ¬ (49 : UInt8) = 48 by decide), if_pos (show c.n + 1 = 3 by omega), if_neg (show ¬ (c.was = true ∧ c.cnt.state = 2) from fun e => hp e.2)]; exact Prod.ext (bw HB c.cnt 1 0 c.was c.hard) rfl
          rw [e]
          exact gap_e c B.ev0 g w hR hn hw h.cnt hp
    · have e := show c.sample 49 = ({ c with n := c.n + 1 }, B.ev0) from by rw [B.sample_6 hst, if_neg (show ¬ (49 : UInt8) = 48 by decide), if_neg (show ¬ c.n + 1 = 3 by omega)]
      rw [e]
      exact gap_c c B.ev0 g w hR (by omega)
theorem st_rest (c : B.Cs) (g : Nat) (b : UInt8) (w : World) (hR : rowAt w g = some (mA c B.ev0)) (h : B.RightM c) (hst : c.state = 8) (hb : B.okc b = true) :
    Calls Tryz.prog 54 #[.pointer (some ⟨g, 0, none⟩), .int .u8 (b.toNat : Nat)] w fun x w' => x = .returned (.tuple #[]) ∧ (rowAt w' g = some (mA (c.sample b).1 (c.sample b).2) ∧ Below g w w') := by
  have HB := h.bare (by omega)
  obtain ⟨n0, n1, n3, n4, n5, n6, n7⟩ := h.num
  rcases B.okc_cases hb with rfl | rfl
  · have e := show c.sample 48 = ({ c with n := 0 }, B.ev0) from by rw [B.sample_8 hst, if_pos (show (48 : UInt8) = 48 from rfl)]
    rw [e]
    exact rest_a c B.ev0 g w hR
  · by_cases hn : c.n = 10
    · cases ho : (c.cnt.step 7).o
      · have e := show c.sample 49 = (B.bareC (c.cnt.step 7) 1 0 c.was c.hard c.has c.fr, B.ev0) from by rw [B.sample_8 hst, if_neg (show ¬ (49 : UInt8) = 48 by decide), if_pos (show c.n + 1 = 11 by omega), if_neg (show ¬ (c.cnt.step 7).o = true by rw [ho]; simp)]; exact Prod.ext (bw HB (c.cnt.step 7) 1 0 c.was c.hard) rfl
        rw [e]
        exact rest_d c B.ev0 g w hR hn h.cnt ho
      · have e := show c.sample 49 = ({ c with cnt := c.cnt.step 7, n := 0 }, B.ev0) from by rw [B.sample_8 hst, if_neg (show ¬ (49 : UInt8) = 48 by decide), if_pos (show c.n + 1 = 11 by omega), if_pos ho]; exact Prod.ext (by rw [hst]) rfl
        rw [e]
        exact rest_c c B.ev0 g w hR hn h.cnt ho
    · have e := show c.sample 49 = ({ c with n := c.n + 1 }, B.ev0) from by rw [B.sample_8 hst, if_neg (show ¬ (49 : UInt8) = 48 by decide), if_neg (show ¬ c.n + 1 = 11 by omega)]
      rw [e]
      exact rest_b c B.ev0 g w hR hn (by omega)
end Go.Proofs.YtcaeobkaoebndaaGreat
