/- Plain facts: how a frame's reader goes through a row, beside goL. No Go, no program. -/
import Derived.Test.YtdpfmpbnahhjmaaFrame3
namespace Go.Proofs.Ytdpfmpbnahhjmaa.B

theorem kind_two {x : St} {c : Nat} (h : x.2 ≠ 5) : kind x c = 1 := by
  unfold kind; simp [h]
theorem kind_five {x : St} {c : Nat} (h : x.2 = 5) : kind x c ≠ 1 := by
  unfold kind; simp only [h, if_true]; split <;> omega
theorem size_ge {b : List UInt8} (h : (sizeL b).2 = 0) : 14 ≤ b.length ∧ baseL b ≤ b.length ∧ baseL b ≤ (sizeL b).1 := by
  unfold sizeL at h ⊢
  split at h
  · simp at h
  · split at h
    · simp at h
    · split at h
      · simp at h
      · rename_i h1 h2 h3
        rw [if_neg h1, if_neg h2, if_neg h3]
        exact ⟨by omega, by omega, by simp⟩
theorem size_le (q : List UInt8) : (sizeL q).1 ≤ 103 := by
  have hb := baseL_or q
  unfold sizeL
  split
  · simp
  · split
    · simp
    · split
      · simp
      · simp only; split <;> omega
theorem size_lt {b : List UInt8} (h : (sizeL b).2 = 3) : b.length < 14 ∨ b.length < baseL b := by
  unfold sizeL at h
  split at h
  · left; assumption
  · split at h
    · right; assumption
    · split at h <;> simp at h

/-- the reader stands at place k of the row L, knows x, has b -/
structure At4 (L : List UInt8) (k : Nat) (x : St) (b : List UInt8) : Prop where
  go : goL (0, 0) [] 0 L = goL x b k (L.drop k)
  us : ust (L.take k) = some (x, b)
  no : stopB x b = false
  bad : (sizeL b).2 ≠ 12
  zero : b = [] → x = (0, 0)
  fit : (sizeL b).2 = 0 → b.length ≤ (sizeL b).1 + 15 ∧ (b.length = (sizeL b).1 + 15 → x.2 = 5)
theorem at_start (L : List UInt8) : At4 L 0 (0, 0) [] :=
  ⟨by simp, ust_nil, by unfold stopB sizeL; simp, by unfold sizeL; simp, fun _ => rfl, fun h => by unfold sizeL at h; simp at h⟩

variable {L : List UInt8} {k : Nat} {x : St} {b : List UInt8}
theorem At4.short (h : At4 L k x b) (hk : L.length ≤ k) : goL (0, 0) [] 0 L = ([], 0, 3) := by
  rw [h.go, List.drop_of_length_le hk]
  unfold goL; rw [if_neg (by rw [h.no]; simp)]
theorem At4.cons (h : At4 L k x b) (hk : k < L.length) : goL (0, 0) [] 0 L = if kind x L[k].toNat = 3 then ([], 0, 10) else if badB (nextB x b L[k]) then ([], 0, 12) else goL (kn x L[k].toNat) (nextB x b L[k]) (k + 1) (L.drop (k + 1)) := by
  rw [h.go, List.drop_eq_getElem_cons hk]
  rw [goL, if_neg (by rw [h.no]; simp)]
theorem At4.err (h : At4 L k x b) (hk : k < L.length) (h3 : kind x L[k].toNat = 3) : goL (0, 0) [] 0 L = ([], 0, 10) := by
  rw [h.cons hk, if_pos h3]
theorem At4.isBad (h : At4 L k x b) (hk : k < L.length) (h3 : kind x L[k].toNat ≠ 3) (hb : badB (nextB x b L[k]) = true) : goL (0, 0) [] 0 L = ([], 0, 12) := by
  rw [h.cons hk, if_neg h3, if_pos hb]
theorem At4.stop (h : At4 L k x b) (hk : k < L.length) (h3 : kind x L[k].toNat ≠ 3) (hb : badB (nextB x b L[k]) = false) (hs : stopB (kn x L[k].toNat) (nextB x b L[k]) = true) :
    goL (0, 0) [] 0 L = (nextB x b L[k], k + 1, 0) := by
  rw [h.cons hk, if_neg h3, if_neg (by rw [hb]; simp), go_stop hs]
theorem At4.ne (h : At4 L k x b) (c : UInt8) : nextB x b c ≠ [] := by
  by_cases hb : b = []
  · have hx := h.zero hb
    subst hx
    unfold nextB
    rw [if_pos (kind_two (by simp))]
    simp
  · unfold nextB; split
    · simp
    · exact hb
theorem nextB_all (hb : b.all okc = true) {c : UInt8} (hc : okc c = true) : (nextB x b c).all okc = true := by
  unfold nextB; split
  · rw [List.all_append, hb, List.all_cons, hc]; rfl
  · exact hb
theorem nextB_length (c : UInt8) : (nextB x b c).length ≤ b.length + 1 := by unfold nextB; split <;> simp
theorem badB_iff {q : List UInt8} (hq : q.all okc = true) (hn : 0 < q.length) : badB q = (decide (q[0] ≠ 48) || decide ((sizeL q).2 = 12)) := by
  have hc : okc q[0] = true := List.all_eq_true.1 hq _ (List.getElem_mem hn)
  have hh : q.head? = some q[0] := by rw [List.head?_eq_getElem?, List.getElem?_eq_getElem hn]
  unfold badB
  rw [hh, Bool.eq_iff_iff]
  simp only [decide_eq_true_eq, Option.some.injEq, Bool.or_eq_true, ne_eq]
  rcases okc_cases hc with e | e <;> rw [e] <;> simp
/-- what is known of the next state, when it is told how long the head is -/
theorem At4.fits (h : At4 L k x b) {c : UInt8} (hz : (sizeL (nextB x b c)).2 = 0) : (nextB x b c).length ≤ (sizeL (nextB x b c)).1 + 15 := by
  unfold nextB at hz ⊢
  split
  · rename_i h1
    rw [if_pos h1] at hz
    have hx5 : x.2 ≠ 5 := fun e => kind_five e h1
    rcases size_err b with e | e | e
    · rw [size_append (by omega)]
      have hf := h.fit e
      have : b.length ≠ (sizeL b).1 + 15 := fun e2 => hx5 (hf.2 e2)
      rw [List.length_append]; simp only [List.length_cons, List.length_nil]; omega
    · obtain ⟨g1, g2, g3⟩ := size_ge hz
      have hb := baseL_or (b ++ [c])
      rw [List.length_append] at *
      simp only [List.length_cons, List.length_nil] at *
      rcases size_lt (by rw [e]) with hl | hl
      · omega
      · by_cases h14 : b.length < 14
        · omega
        · rw [baseL_append (by omega)] at g2 g3; omega
    · exact absurd (by rw [e]) h.bad
  · rename_i h1
    rw [if_neg h1] at hz
    exact (h.fit hz).1
theorem stop_iff {y : St} {q : List UInt8} (hy : y.2 ≤ 5) (hf : (sizeL q).2 = 0 → q.length ≤ (sizeL q).1 + 15) : stopB y q = decide ((sizeL q).2 = 0 ∧ (sizeL q).1 + 15 ≤ q.length ∧ y.2 ≠ 5) := by
  unfold stopB
  rw [Bool.eq_iff_iff, decide_eq_true_eq, decide_eq_true_eq]
  constructor
  · rintro ⟨h1, h2, h3⟩; exact ⟨h1, by omega, by omega⟩
  · rintro ⟨h1, h2, h3⟩; have := hf h1; exact ⟨h1, by omega, by omega⟩
theorem At4.next (h : At4 L k x b) (hk : k < L.length) (h3 : kind x L[k].toNat ≠ 3) (hb : badB (nextB x b L[k]) = false) (hs : stopB (kn x L[k].toNat) (nextB x b L[k]) = false) (hx : x.2 ≤ 5) :
    At4 L (k + 1) (kn x L[k].toNat) (nextB x b L[k]) := by
  refine ⟨?_, ?_, hs, ?_, fun e => absurd e (h.ne _), ?_⟩
  · rw [h.cons hk, if_neg h3, if_neg (by rw [hb]; simp)]
  · have e : L.take (k + 1) = L.take k ++ [L[k]] := by simp
    rw [e, ust_snoc, h.us]
    unfold uStep nextB
    simp only
    rw [if_neg h3]
  · intro e
    unfold badB at hb
    simp [e] at hb
  · intro hz
    refine ⟨h.fits hz, fun e => ?_⟩
    unfold stopB at hs
    simp only [decide_eq_false_iff_not, not_and] at hs
    have := hs hz e
    have := kn_le (c := L[k].toNat) hx
    omega
end Go.Proofs.Ytdpfmpbnahhjmaa.B
