/- Layer 7: a frame's bits as strings, as they come from the reference. -/
import Derived.Test.YtcaeobkaoebndaaGreatJ13
import Derived.Test.YtcaeobkaoebndaaGreatPlain
import Derived.Test.YtcaeobkaoebndaaGreatRef4b
namespace Go.Proofs.YtcaeobkaoebndaaGreat
open Go.RowKit Go.Lib
def bsA (F : B.Fr) : ByteArray := ⟨(B.bitsL F).toArray⟩
/-- .. told that they came -/
def akA (F : B.Fr) : ByteArray := ⟨(B.ackL F).toArray⟩
theorem bitsL_len (F : B.Fr) : (B.bitsL F).length = (B.stfF F).length + 10 := by rw [B.bitsL_stf, List.length_append, List.length_replicate]
theorem bsA_size (F : B.Fr) : (bsA F).size = (B.stfF F).length + 10 := by unfold bsA; rw [size_of, bitsL_len]
theorem akA_size (F : B.Fr) : (akA F).size = (B.stfF F).length + 10 := by unfold akA; rw [size_of, B.ackL_length]
theorem ofL_at (l : List UInt8) (i : Nat) (h : i < (⟨l.toArray⟩ : ByteArray).size) : (⟨l.toArray⟩ : ByteArray)[i] = l[i]'(by rwa [size_of] at h) := rfl
theorem bsA_at (F : B.Fr) (i : Nat) (h : i < (bsA F).size) : (bsA F)[i] = (B.bitsL F).getD i 49 := by
  have h' : i < (B.bitsL F).length := by rw [bitsL_len, ← bsA_size]; exact h
  rw [List.getD_eq_getElem?_getD, List.getElem?_eq_getElem h']
  rfl
theorem akA_at (F : B.Fr) (i : Nat) (h : i < (akA F).size) : (akA F)[i] = (B.ackL F)[i]'(by rw [B.ackL_length, ← akA_size]; exact h) := rfl
theorem bs_ext (l m : List UInt8) (a b : ByteArray) (ha : a.data.toList = l) (hb : b.data.toList = m) (h : l = m) : a = b := bytes_same (by rw [ha, hb, h])
theorem app_list (a b : ByteArray) : (a ++ b).data.toList = a.data.toList ++ b.data.toList := by simp
/-- the bits, one of which is turned, as the laws write it -/
theorem ack_cut (F : B.Fr) : (bsA F).extract 0 ((B.stfF F).length + 1) ++ (⟨#[48]⟩ : ByteArray) ++ (bsA F).extract ((B.stfF F).length + 2) ((B.stfF F).length + 10) = akA F := by
  refine bytes_same ?_
  rw [app_list, app_list, extract_data, extract_data]
  show ((B.bitsL F).drop 0).take ((B.stfF F).length + 1 - 0) ++ [48] ++ ((B.bitsL F).drop ((B.stfF F).length + 2)).take ((B.stfF F).length + 10 - ((B.stfF F).length + 2)) = B.ackL F
  rw [List.drop_zero, Nat.sub_zero, B.bitsL_stf, List.take_append, List.drop_append, show (B.stfF F).length + 1 - (B.stfF F).length = 1 by omega, show (B.stfF F).length + 2 - (B.stfF F).length = 2 by omega, List.take_of_length_le (by omega), List.drop_of_length_le (by omega), show (B.stfF F).length + 10 - ((B.stfF F).length + 2) = 8 by omega]
  unfold B.ackL
  rw [List.append_assoc, List.append_assoc]
  rfl
theorem stfF_all (F : B.Fr) : (B.stfF F).all B.okc = true := B.stf_all (B.sumL_all (B.headL_all F))
theorem ackL_all (F : B.Fr) : (B.ackL F).all B.okc = true := by unfold B.ackL; rw [List.all_append, stfF_all]; rfl
theorem ackL_okc (F : B.Fr) (i : Nat) (h : i < (B.ackL F).length) : B.okc (B.ackL F)[i] = true := List.all_eq_true.1 (ackL_all F) _ (List.getElem_mem h)
theorem sendC_right {k : B.Cn} {was hard : Bool} {F : B.Fr} (hf : B.FrR F) (h0 : B.RightM (B.idleC k was hard true F)) : ∀ i, i ≤ (B.stfF F).length + 10 → B.RightM (B.sendC k was hard F i) := by
  intro i
  induction i with
  | zero => intro _; exact h0
  | succ i ih =>
    intro hi
    have := (B.sample_right (ih (by omega)) (ackL_okc F i (by rw [B.ackL_length]; omega))).1
    rwa [B.send_next hf (by omega)] at this
theorem idleF_right {F : B.Fr} (hf : B.FrR F) : B.RightM (B.idleC B.cn0 false false true F) := B.submit_right rdy_right hf rfl
/-- a round of a frame that is sent: the bit that is driven, and what Sample makes of the bus's -/
theorem send_rd (F : B.Fr) (hf : B.FrR F) (i : Nat) (hi : i < (B.stfF F).length + 10) :
    (B.sendC B.cn0 false false F i).drive = (bsA F)[i]'(by rw [bsA_size]; exact hi) ∧ B.okc ((akA F)[i]'(by rw [akA_size]; exact hi)) = true ∧
    (B.sendC B.cn0 false false F i).sample ((akA F)[i]'(by rw [akA_size]; exact hi)) = (B.sendC B.cn0 false false F (i + 1), if i = (B.stfF F).length + 9 then ⟨1, F, 0⟩ else B.ev0) :=
  ⟨by rw [B.send_drive hf hi, bsA_at], ackL_okc F i (by rw [B.ackL_length]; exact hi), B.send_next hf hi⟩
theorem ak_bs (F : B.Fr) (i : Nat) (hi : i < (B.stfF F).length + 10) : (akA F)[i]'(by rw [akA_size]; exact hi) = if i = (B.stfF F).length + 1 then 48 else (bsA F)[i]'(by rw [bsA_size]; exact hi) := by
  rw [bsA_at, akA_at]
  by_cases h : i < (B.stfF F).length
  · rw [if_neg (by omega), B.bitsL_at h, B.ackL_at h]
  · obtain ⟨t, rfl⟩ : ∃ t, i = (B.stfF F).length + t := ⟨i - (B.stfF F).length, by omega⟩
    rw [B.ackL_tail (by omega), B.bitsL_late (by omega)]
    by_cases e : t = 1
    · rw [if_pos e, if_pos (by omega)]
    · rw [if_neg e, if_neg (by omega)]
theorem Kept.drewN {w : World} {L : List (Nat × Array Value)} {W : World} (h : Kept w L W) (n : Nat) : Kept w L (W.drewN n) := ⟨fun p hp => (rowAt_drewN W p.1 n).trans (h.1 p hp), bel_drewN h.2 n⟩
/-- the row of CtlTurned: one bit turned, eleven recessive ones behind -/
def tnL (F : B.Fr) (a : Nat) : List UInt8 := (B.ackL F).modify a B.turn ++ List.replicate 11 49
theorem tnL_length (F : B.Fr) (a : Nat) : (tnL F a).length = (B.stfF F).length + 21 := by unfold tnL; rw [List.length_append, List.length_modify, B.ackL_length, List.length_replicate]
theorem tnL_all (F : B.Fr) (a : Nat) : (tnL F a).all B.okc = true := by unfold tnL; rw [List.all_append, B.all_modify (ackL_all F) a]; rfl
theorem tnL_at (F : B.Fr) (a i : Nat) (hi : i < (B.stfF F).length) : (tnL F a)[i]? = some (if a = i then B.turn ((B.stfF F)[i]) else (B.stfF F)[i]) := by
  unfold tnL
  rw [List.getElem?_append_left (by rw [List.length_modify, B.ackL_length]; omega), List.getElem?_modify]
  unfold B.ackL
  rw [List.getElem?_append_left hi, List.getElem?_eq_getElem hi]
  split <;> rfl
theorem tnL_head (F : B.Fr) (hf : B.FrR F) (a : Nat) (h1 : 1 ≤ a) : (tnL F a).head? = some 48 := by
  have hl := B.stfF_length hf
  rw [List.head?_eq_getElem?, tnL_at F a 0 (by omega), if_neg (by omega), B.stfF_zero F (by omega)]
theorem tnL_ne (F : B.Fr) (a : Nat) (ha : a < (B.stfF F).length) : (tnL F a).take (B.stfF F).length ≠ B.stfF F := by
  intro e
  have h := congrArg (fun l : List UInt8 => l[a]?) e
  simp only [List.getElem?_take, if_pos ha] at h
  rw [tnL_at F a a ha, if_pos rfl, List.getElem?_eq_getElem ha] at h
  exact B.turn_ne _ (Option.some.inj h)
theorem rng7 (a : Int) (k : Nat) (h : 1 ≤ k) (hk : k ≤ 160) : ∃ p : Nat, (wrap64 (a.tmod (k : Int) + (k : Int))).tmod (k : Int) = p ∧ p < k := by
  have hm1 := Int.tmod_lt_of_pos a (show (0 : Int) < k by omega)
  have hm2 := Int.lt_tmod_of_pos a (show (0 : Int) < k by omega)
  rw [IntWalk.wrap64_in _ (by omega), Int.tmod_eq_emod_of_nonneg (by omega)]
  have h1 := Int.emod_nonneg (a.tmod (k : Int) + (k : Int)) (show (k : Int) ≠ 0 by omega)
  have h2 := Int.emod_lt_of_pos (a.tmod (k : Int) + (k : Int)) (show (0 : Int) < k by omega)
  exact ⟨((a.tmod (k : Int) + (k : Int)) % (k : Int)).toNat, by omega, by omega⟩
theorem refbits7 {F : B.Fr} (hf : B.FrR F) (w : World) : Calls Tryz.prog 12 #[.agg (frA (FXo F))] w fun e w' => e = .returned (.string (bsA F)) ∧ Below w.heap.size w w' := by
  obtain ⟨id, ext, rem, dlc, data⟩ := F
  exact refbits_any id dlc ext rem (strB data) w hf
end Go.Proofs.YtcaeobkaoebndaaGreat
