/- Plain facts on frames: a frame's bits, and what a row is as a frame on a bus. No Go, no program. -/
import Derived.Test.YtdpfmpbnahhjmaaFrame2
import Derived.Test.YtdpfmpbnahhjmaaBurst
namespace Go.Proofs.Ytdpfmpbnahhjmaa.B

def frB (f : Fr) : Bool := decide (f.dlc ≤ 8) && (if f.remote then f.data.isEmpty else f.data.length == f.dlc) && decide (f.id < if f.ext then 536870912 else 2048)
theorem frB_iff (f : Fr) : frB f = true ↔ FrR f := by
  unfold frB FrR
  rw [Bool.and_eq_true, Bool.and_eq_true, decide_eq_true_eq, decide_eq_true_eq, and_assoc]
  cases f.remote <;> simp
def sumL (h : List UInt8) : List UInt8 := h ++ ofl (crc 0 h) 15
def bitsL (f : Fr) : List UInt8 := (stf (sumL (headL f))).2 ++ List.replicate 10 49
theorem sumL_length (h : List UInt8) : (sumL h).length = h.length + 15 := by unfold sumL; rw [List.length_append, ofl_length]
theorem sumL_all {h : List UInt8} (ha : h.all okc = true) : (sumL h).all okc = true := by unfold sumL; rw [List.all_append, ha, ofl_all]; rfl
theorem good_sum {f : Fr} (h : FrR f) : Good (sumL (headL f)) := by
  refine ⟨sumL_all (headL_all f), by rw [sumL_length]; omega, ?_, rfl⟩
  rw [sumL_length, show (headL f).length + 15 - 15 = (headL f).length from by omega]
  exact head_size h _
theorem base_or (f : Fr) : base f = 19 ∨ base f = 39 := by unfold base; split <;> simp
/-- a frame has at least 44 bits, at most 160 -/
theorem bits_length {f : Fr} (h : FrR f) : 44 ≤ (bitsL f).length ∧ (bitsL f).length ≤ 160 := by
  have hl := stf_length (sumL_all (headL_all f))
  have hb := base_or f
  have hd : f.data.length ≤ 8 := by
    obtain ⟨h8, hd, _⟩ := h
    split at hd
    · rw [hd]; simp
    · omega
  rw [sumL_length, headL_length] at hl
  unfold bitsL
  rw [List.length_append, List.length_replicate]
  omega

/-- fifteen bits are a head's sum just if the whole is left without rest -/
theorem crc_check {h t : List UInt8} (_hh : h.all okc = true) (ht : t.all okc = true) (hl : t.length = 15) : crc 0 (h ++ t) = 0 ↔ t = ofl (crc 0 h) 15 := by
  have hs := crc_lt h
  have hself : crc (crc 0 h) (ofl (crc 0 h) 15) = 0 := by
    have := crc_self (crc 0 h) 15 (Nat.le_refl _)
    rwa [Nat.sub_self, Nat.pow_zero, Nat.mul_one, Nat.mod_eq_of_lt (by omega)] at this
  rw [crc_append]
  constructor
  · intro h0
    apply map_one_inj ht (ofl_all _ _)
    have hlen : (t.map one).length = ((ofl (crc 0 h) 15).map one).length := by simp [hl, ofl_length]
    have hx := sumB_xor (crc 0 h) (crc 0 h) (t.map one) ((ofl (crc 0 h) 15).map one) hlen
    rw [Nat.xor_self] at hx
    have h1 : sumB (crc 0 h) (t.map one) = 0 := h0
    have h2 : sumB (crc 0 h) ((ofl (crc 0 h) 15).map one) = 0 := hself
    rw [h1, h2, Nat.xor_self] at hx
    have hno : ¬ true ∈ xorB (t.map one) ((ofl (crc 0 h) 15).map one) := by
      intro hm
      exact burst_ne _ (by unfold xorB; simp [hl, ofl_length]) hm hx
    apply List.ext_getElem hlen
    intro i h1 h2
    have hi : i < (xorB (t.map one) ((ofl (crc 0 h) 15).map one)).length := by unfold xorB; rw [List.length_zipWith]; omega
    have hg : (xorB (t.map one) ((ofl (crc 0 h) 15).map one))[i] = ((t.map one)[i] != ((ofl (crc 0 h) 15).map one)[i]) := by unfold xorB; simp
    have hf : ((t.map one)[i] != ((ofl (crc 0 h) 15).map one)[i]) = false := by
      rw [Bool.eq_false_iff]; intro e
      exact hno (by rw [← e, ← hg]; exact List.getElem_mem hi)
    simpa using hf
  · intro e; rw [e]; exact hself

/-- what stands behind the sum: a one, any bit, eight ones -/
def tailL (i : Nat) : List UInt8 → Nat
  | [] => if i < 10 then 3 else 0
  | c :: r => if i < 10 then (if i ≠ 1 ∧ c ≠ 49 then 12 else tailL (i + 1) r) else 0
/-- what a row is as a frame: the frame, how many bits, the error -/
def noFr : Fr := ⟨0, false, false, 0, []⟩
def parseL (s : List UInt8) : Fr × Nat × Nat :=
  if (goL (0, 0) [] 0 s).2.2 ≠ 0 then (noFr, 0, (goL (0, 0) [] 0 s).2.2)
  else if crc 0 (goL (0, 0) [] 0 s).1 ≠ 0 then (noFr, 0, 11)
  else if tailL 0 (s.drop (goL (0, 0) [] 0 s).2.1) ≠ 0 then (noFr, 0, tailL 0 (s.drop (goL (0, 0) [] 0 s).2.1))
  else if frB (decode ((goL (0, 0) [] 0 s).1.take ((goL (0, 0) [] 0 s).1.length - 15))) = true ∧ headL (decode ((goL (0, 0) [] 0 s).1.take ((goL (0, 0) [] 0 s).1.length - 15))) = (goL (0, 0) [] 0 s).1.take ((goL (0, 0) [] 0 s).1.length - 15) then
    (decode ((goL (0, 0) [] 0 s).1.take ((goL (0, 0) [] 0 s).1.length - 15)), (goL (0, 0) [] 0 s).2.1 + 10, 0)
  else (noFr, 0, 12)

theorem crc_sumL (h : List UInt8) (ha : h.all okc = true) : crc 0 (sumL h) = 0 := (crc_check ha (ofl_all _ _) (ofl_length _ _)).2 rfl
theorem sumL_head (h : List UInt8) : (sumL h).take ((sumL h).length - 15) = h := by
  rw [sumL_length, show h.length + 15 - 15 = h.length from by omega]
  unfold sumL; rw [List.take_left]
/-- a row that begins with a frame's stuffed bits -/
theorem parse_front {f : Fr} (h : FrR f) (r : List UInt8) :
    parseL ((stf (sumL (headL f))).2 ++ r) = if tailL 0 r ≠ 0 then (noFr, 0, tailL 0 r) else (f, (stf (sumL (headL f))).2.length + 10, 0) := by
  have hg := go_good (good_sum h) r
  unfold parseL
  rw [hg]
  simp only [ne_eq, not_true_eq_false, if_false]
  rw [crc_sumL _ (headL_all f), List.drop_left, sumL_head, decode_head h]
  simp only [not_true_eq_false, if_false, (frB_iff f).2 h, and_self, if_true]
theorem tail_good (b : UInt8) (r : List UInt8) : tailL 0 ([49, b, 49, 49, 49, 49, 49, 49, 49, 49] ++ r) = 0 := by
  simp only [List.cons_append, List.nil_append, tailL]
  cases r <;> simp [tailL]
/-- frames and their bits lead to one another, whatever stands behind, whichever bit stands where it is told that they came -/
theorem parse_bits {f : Fr} (h : FrR f) (b : UInt8) (r : List UInt8) :
    parseL ((stf (sumL (headL f))).2 ++ ([49, b, 49, 49, 49, 49, 49, 49, 49, 49] ++ r)) = (f, (stf (sumL (headL f))).2.length + 10, 0) := by
  rw [parse_front h, tail_good]; simp
theorem tail_short : ∀ (r : List UInt8) (i : Nat), i + r.length < 10 → (∀ c ∈ r, c = 49) → tailL i r = 3 := by
  intro r
  induction r with
  | nil => intro i h _; unfold tailL; rw [if_pos (by simpa using h)]
  | cons c r ih =>
    intro i h ho
    simp only [List.length_cons] at h
    have hc := ho c (by simp)
    unfold tailL
    rw [if_pos (by omega), if_neg (by rw [hc]; simp)]
    exact ih (i + 1) (by omega) (fun d hd => ho d (List.mem_cons_of_mem _ hd))
/-- a frame that breaks off is too short -/
theorem parse_short {f : Fr} (h : FrR f) (cut : Nat) (hc : cut < (bitsL f).length) : parseL ((bitsL f).take cut) = (noFr, 0, 3) := by
  unfold bitsL at hc ⊢
  rw [List.length_append, List.length_replicate] at hc
  by_cases h1 : cut < (stf (sumL (headL f))).2.length
  · have hg := go_good (good_sum h) []
    rw [List.append_nil, ← List.take_append_drop cut (stf (sumL (headL f))).2] at hg
    have := go_short _ hg (by simp; omega)
    rw [List.take_append_of_le_length (by omega)]
    unfold parseL
    rw [this]; rfl
  · rw [List.take_append, List.take_of_length_le (by omega), parse_front h]
    have := tail_short ((List.replicate 10 (49 : UInt8)).take (cut - (stf (sumL (headL f))).2.length)) 0 (by simp; omega) (fun c hc => by
      have := List.mem_of_mem_take hc
      exact (List.mem_replicate.1 this).2)
    rw [this]; simp
/-- a row that is read as the frame begins with the frame's stuffed bits -/
theorem parse_back {f : Fr} {s : List UInt8} {n : Nat} (hs : s.all okc = true) (h : parseL s = (f, n, 0)) :
    FrR f ∧ n = (stf (sumL (headL f))).2.length + 10 ∧ s.take (stf (sumL (headL f))).2.length = (stf (sumL (headL f))).2 := by
  unfold parseL at h
  rcases hg : goL (0, 0) [] 0 s with ⟨bits, m, e⟩
  rw [hg] at h
  simp only at h
  split at h
  · rename_i he
    simp only [Prod.mk.injEq] at h
    exact absurd h.2.2 he
  · rename_i he
    have he0 : e = 0 := by omega
    subst he0
    split at h
    · simp at h
    · rename_i hcrc
      split at h
      · rename_i ht
        simp only [Prod.mk.injEq] at h
        exact absurd h.2.2 ht
      · split at h
        · rename_i hd
          simp only [Prod.mk.injEq] at h
          obtain ⟨rfl, rfl, _⟩ := h
          obtain ⟨hfr, hhd⟩ := hd
          have hcrc0 : crc 0 bits = 0 := by omega
          obtain ⟨_, hm, y, hy, hst⟩ := go_ok s (p := []) ust_nil hg
          simp only [List.nil_append] at hy hm
          have hall : (s.take m).all okc = true := all_take hs m
          obtain ⟨hba, _⟩ := ust_all hall _ _ hy
          unfold stopB at hst
          rw [decide_eq_true_eq] at hst
          obtain ⟨_, hbl, hy5⟩ := hst
          have h15 : 15 ≤ bits.length := by omega
          have hb := (List.take_append_drop (bits.length - 15) bits).symm
          have hsum : bits = sumL (bits.take (bits.length - 15)) := by
            have hba' := hba
            rw [hb, List.all_append, Bool.and_eq_true] at hba'
            have hc := hcrc0
            rw [hb] at hc
            have := (crc_check hba'.1 hba'.2 (by rw [List.length_drop]; omega)).1 hc
            unfold sumL
            rw [← this]; exact hb
          rw [hhd, ← hsum]
          have hss := (stf_ust hall _ _ hy).1 (by omega)
          rw [hss]
          have hml : (s.take m).length = m := by rw [List.length_take]; simp at hm; omega
          exact ⟨(frB_iff _).1 hfr, by rw [hml], by rw [hml]⟩
        · simp at h
end Go.Proofs.Ytdpfmpbnahhjmaa.B
