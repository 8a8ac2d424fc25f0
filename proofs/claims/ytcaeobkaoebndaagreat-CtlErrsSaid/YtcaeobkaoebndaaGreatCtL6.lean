/- Layer 7: one's own frame, that ends in an error (CtlErrs): plain facts. -/
import Derived.Test.YtcaeobkaoebndaaGreatCtL4
import Derived.Test.YtcaeobkaoebndaaGreatPlain
namespace Go.Proofs.YtcaeobkaoebndaaGreat
open Go.RowKit Go.Lib
def erPl (F : B.Fr) (a : Nat) : Nat := (B.stfF F).length + 1 + a
def flF (F : B.Fr) (j : Nat) : B.Cs := B.flagC ⟨8, 0, false, 0⟩ true true true F j
def erC (F : B.Fr) (a i : Nat) : B.Cs := if i ≤ erPl F a then B.sendC B.cn0 false false F i else flF F 0
def erB (F : B.Fr) (a i : Nat) : UInt8 := if i = erPl F a then (if a = 0 then 49 else 48) else (B.ackL F).getD i 49
theorem ackL_getD (F : B.Fr) (i : Nat) (hi : i < (B.stfF F).length + 10) : (B.ackL F).getD i 49 = (B.ackL F)[i]'(by rw [B.ackL_length]; exact hi) := by
  rw [List.getD_eq_getElem?_getD, List.getElem?_eq_getElem (by rw [B.ackL_length]; exact hi)]; rfl
theorem er_step {F : B.Fr} (hf : B.FrR F) {a : Nat} (ha : a ≤ 8) (i : Nat) (hi : i ≤ erPl F a) :
    (erC F a i).sample (erB F a i) = (erC F a (i + 1), if i = erPl F a then ⟨3, B.noFr, if a = 0 then 14 else 12⟩ else B.ev0) := by
  have hl := B.stfF_length hf
  unfold erC erB
  rw [if_pos hi]
  by_cases h : i = erPl F a
  · subst h
    rw [if_pos (rfl : erPl F a = erPl F a), if_neg (by omega : ¬ erPl F a + 1 ≤ erPl F a), if_pos (rfl : erPl F a = erPl F a)]
    unfold erPl
    rw [show (B.stfF F).length + 1 + a = (B.stfF F).length + (1 + a) by omega, B.sendC_tl hf (by omega)]
    by_cases h0 : a = 0
    · subst h0
      exact B.send_ack
    · rw [if_neg h0, if_neg h0]
      exact B.send_form (by omega) (by omega)
  · have h2 : i + 1 ≤ erPl F a := by omega
    rw [if_neg h, if_neg h, if_pos h2]
    unfold erPl at h2
    have hi10 : i < (B.stfF F).length + 10 := by omega
    rw [ackL_getD F i hi10, B.send_next hf hi10, if_neg (by omega)]
theorem er_okc {F : B.Fr} {a : Nat} (ha : a ≤ 8) (i : Nat) (hi : i ≤ erPl F a) : B.okc (erB F a i) = true := by
  unfold erB
  split
  · split <;> rfl
  · unfold erPl at hi
    rw [ackL_getD F i (by omega)]
    exact ackL_okc F i (by rw [B.ackL_length]; omega)
theorem er_right {F : B.Fr} (hf : B.FrR F) {a : Nat} (ha : a ≤ 8) : ∀ i, i ≤ erPl F a + 1 → B.RightM (erC F a i) := by
  intro i
  induction i with
  | zero => intro _; unfold erC; rw [if_pos (Nat.zero_le _)]; exact idleF_right hf
  | succ i ih =>
    intro hi
    have := (B.sample_right (ih (by omega)) (er_okc (F := F) ha i (by omega))).1
    rwa [er_step hf ha i (by omega)] at this
theorem er_end {F : B.Fr} {a : Nat} : erC F a (erPl F a + 1) = flF F 0 := by
  unfold erC; rw [if_neg (by omega)]
theorem fl_next (F : B.Fr) (j : Nat) (hj : j < 6) : (flF F j).sample 48 = (flF F (j + 1), B.ev0) := B.flag_next _ _ _ _ _ _ (by omega) _ (fun e => by omega)
theorem fl_drive (F : B.Fr) (j : Nat) (hj : j < 6) : (flF F j).drive = 48 := by
  unfold flF
  rw [B.flag_drive _ _ _ _ _ _ (by omega), if_pos ⟨hj, rfl⟩]
theorem fl_right {F : B.Fr} (h0 : B.RightM (flF F 0)) : ∀ j, j ≤ 6 → B.RightM (flF F j) := by
  intro j
  induction j with
  | zero => intro _; exact h0
  | succ j ih =>
    intro hj
    have := (B.sample_right (ih (by omega)) (show B.okc 48 = true from rfl)).1
    rwa [fl_next F j (by omega)] at this
theorem fl_rest (F : B.Fr) : B.runC (flF F 6) (List.replicate 11 49) = B.idleC ⟨8, 0, false, 0⟩ true true true F := B.err_rest F
theorem er_bs (F : B.Fr) (i : Nat) (hi : i ≤ erPl F 0) : (bsA F)[i]'(by rw [bsA_size]; unfold erPl at hi; omega) = erB F 0 i := by
  unfold erPl at hi
  have h := ak_bs F i (by omega)
  unfold erB erPl
  by_cases e : i = (B.stfF F).length + 1
  · rw [if_pos (by omega), if_pos rfl, bsA_at, B.bitsL_late (by omega)]
  · rw [if_neg e] at h
    rw [if_neg (by omega), ackL_getD F i (by omega), ← h, akA_at]
theorem er_ak {F : B.Fr} {a : Nat} (h0 : 0 < a) (ha : a ≤ 8) (i : Nat) (hi : i ≤ erPl F a) : erB F a i = if i = erPl F a then 48 else (akA F)[i]'(by rw [akA_size]; unfold erPl at hi; omega) := by
  unfold erB
  by_cases e : i = erPl F a
  · rw [if_pos e, if_pos e, if_neg (by omega)]
  · rw [if_neg e, if_neg e, ackL_getD F i (by unfold erPl at hi; omega), akA_at]
theorem rng9 (z : Int) : ∃ p : Nat, (wrap64 (z.tmod 9 + 9)).tmod 9 = p ∧ p ≤ 8 := by
  obtain ⟨p, h1, h2⟩ := rng7 z 9 (by omega) (by omega)
  exact ⟨p, h1, by omega⟩
end Go.Proofs.YtcaeobkaoebndaaGreat
