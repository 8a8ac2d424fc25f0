/- Plain facts: six equal bits, five equal bits. No Go, no program. -/
import Derived.Test.YtagboeejegbcgaaStuff1
import Derived.Lib.IndexMore
namespace Go.Proofs.Ytagboeejegbcgaa.B

theorem contains_of {s sub : List UInt8} (h : Lib.contains s sub = true) : ∃ p q, s = p ++ sub ++ q := by
  unfold Lib.contains at h
  rw [decide_eq_true_eq] at h
  rcases Lib.index_spec s sub with ⟨h1, _⟩ | ⟨i, _, _, h3, _⟩
  · omega
  · unfold Lib.occAt at h3
    rw [List.isPrefixOf_iff_prefix] at h3
    obtain ⟨q, hq⟩ := h3
    exact ⟨s.take i, q, by rw [List.append_assoc, hq, List.take_append_drop]⟩
theorem contains_not {s sub : List UInt8} (h : Lib.contains s sub = false) (p q : List UInt8) : s ≠ p ++ sub ++ q := by
  intro e
  unfold Lib.contains at h
  rw [decide_eq_false_iff_not] at h
  rcases Lib.index_spec s sub with ⟨_, h2⟩ | ⟨i, h1, _, _, _⟩
  · have := h2 p.length (by rw [e]; simp)
    unfold Lib.occAt at this
    rw [e, List.append_assoc, List.drop_left, Bool.eq_false_iff] at this
    exact this (List.isPrefixOf_iff_prefix.2 ⟨q, rfl⟩)
  · omega

/-- six equal bits are told, wherever they stand -/
theorem run_err (c : UInt8) : ∀ (j n : Nat) (d : List UInt8), 1 ≤ n → n ≤ 5 → 6 ≤ n + j → (List.replicate j c).foldl uStep (some ((c.toNat, n), d)) = none := by
  intro j
  induction j with
  | zero => intro n d h1 h2 h3; omega
  | succ j ih =>
    intro n d h1 h2 h3
    rw [List.replicate_succ, List.foldl_cons]
    by_cases h5 : n = 5
    · have : uStep (some ((c.toNat, n), d)) c = none := by unfold uStep; simp [kind, h5]
      rw [this, uStep_none]
    · have : uStep (some ((c.toNat, n), d)) c = some ((c.toNat, n + 1), d ++ [c]) := by unfold uStep; simp [kind, kn, h5]
      rw [this]
      exact ih (n + 1) _ (by omega) (by omega) (by omega)
theorem six_err {p q : List UInt8} {c : UInt8} (hp : p.all okc = true) (hc : okc c = true) : ust (p ++ List.replicate 6 c ++ q) = none := by
  unfold ust
  rw [List.foldl_append, List.foldl_append]
  show List.foldl uStep (List.foldl uStep (ust p) _) q = none
  have hc' := (okc_iff c).1 hc
  rcases hu : ust p with _ | ⟨⟨b, n⟩, d⟩
  · rw [uStep_none, uStep_none]
  · have hm := ust_may hp _ _ hu
    unfold may at hm
    simp only at hm
    suffices h : List.foldl uStep (some ((b, n), d)) (List.replicate 6 c) = none by rw [h, uStep_none]
    by_cases e : c.toNat = b
    · subst e
      exact run_err c 6 n d (by omega) (by omega) (by omega)
    · rw [List.replicate_succ, List.foldl_cons]
      have : ∃ d', uStep (some ((b, n), d)) c = some ((c.toNat, 1), d') := by
        unfold uStep
        by_cases h5 : n = 5
        · exact ⟨d, by simp [kind, kn, e, h5]⟩
        · exact ⟨d ++ [c], by simp [kind, kn, e, h5]⟩
      obtain ⟨d', h⟩ := this
      rw [h]
      exact run_err c 5 1 d' (by omega) (by omega) (by omega)
theorem stf_no_six {l p q : List UInt8} {c : UInt8} (h : l.all okc = true) : (stf l).2 ≠ p ++ List.replicate 6 c ++ q := by
  intro e
  have ha := stf_all h
  rw [e, List.all_append, List.all_append, Bool.and_eq_true, Bool.and_eq_true] at ha
  have hc : okc c = true := by have := ha.1.2; simpa using this
  have hu := ust_stf h
  rw [e, six_err ha.1.1 hc] at hu
  cases hu

/-- rows into which nothing is put -/
theorem bare_snoc {l : List UInt8} {c : UInt8} (h : (l ++ [c]).all okc = true) (hk : (stf (l ++ [c])).2.length = (l ++ [c]).length) : (stf l).2.length = l.length ∧ (kn (stf l).1 c.toNat).2 ≠ 5 := by
  obtain ⟨hl, hc⟩ := all_snoc.1 h
  have := (stf_length hl).1
  by_cases h5 : (kn (stf l).1 c.toNat).2 = 5
  · rw [stf_full h5] at hk; simp at hk; omega
  · rw [stf_plain h5] at hk; simp at hk; exact ⟨hk, h5⟩
theorem bare_run {p : List UInt8} {c : UInt8} : ∀ j, (p ++ List.replicate (j + 1) c).all okc = true → (stf (p ++ List.replicate (j + 1) c)).2.length = (p ++ List.replicate (j + 1) c).length →
    ∃ n, j + 1 ≤ n ∧ (stf (p ++ List.replicate (j + 1) c)).1 = (c.toNat, n) := by
  intro j
  induction j with
  | zero =>
    intro h hk
    have e : p ++ List.replicate (0 + 1) c = p ++ [c] := by simp
    rw [e] at h hk ⊢
    obtain ⟨_, h5⟩ := bare_snoc h hk
    have h4 := stf_le (all_snoc.1 h).1
    rw [stf_plain h5]
    refine ⟨(kn (stf p).1 c.toNat).2, ?_, Prod.ext (kn_first (by omega)) rfl⟩
    unfold kn; split
    · rw [if_neg (by omega)]; simp
    · simp
  | succ j ih =>
    intro h hk
    have e : p ++ List.replicate (j + 1 + 1) c = (p ++ List.replicate (j + 1) c) ++ [c] := by rw [List.replicate_succ', List.append_assoc]
    rw [e] at h hk ⊢
    obtain ⟨hk', h5⟩ := bare_snoc h hk
    obtain ⟨n, hn, hs⟩ := ih (all_snoc.1 h).1 hk'
    have h4 := stf_le (all_snoc.1 h).1
    rw [hs] at h4
    rw [stf_plain h5, hs, kn_more rfl (by simp only at h4; omega)]
    exact ⟨n + 1, by omega, rfl⟩
theorem stf_grows {l : List UInt8} : ∀ q : List UInt8, (l ++ q).all okc = true → (stf l).2.length - l.length ≤ (stf (l ++ q)).2.length - (l ++ q).length := by
  intro q
  induction q using snoc_ind with
  | h0 => intro _; simp
  | h1 q c ih =>
    intro h
    rw [← List.append_assoc] at h ⊢
    have hl := (all_snoc.1 h).1
    have i := ih hl
    by_cases h5 : (kn (stf (l ++ q)).1 c.toNat).2 = 5
    · rw [stf_full h5]; simp at i ⊢; omega
    · rw [stf_plain h5]; simp at i ⊢; omega
/-- five equal bits: something is put in -/
theorem five_yes {p q : List UInt8} {c : UInt8} (h : (p ++ List.replicate 5 c ++ q).all okc = true) : (stf (p ++ List.replicate 5 c ++ q)).2 ≠ p ++ List.replicate 5 c ++ q := by
  intro e
  have hl : (p ++ List.replicate 5 c).all okc = true := by rw [List.all_append, Bool.and_eq_true] at h; exact h.1
  have hg := stf_grows q h
  have hz := (stf_length hl).1
  have hk : (stf (p ++ List.replicate 5 c)).2.length = (p ++ List.replicate 5 c).length := by rw [e] at hg; omega
  obtain ⟨n, hn, hs⟩ := bare_run 4 hl hk
  have := stf_le hl
  rw [show (4 + 1) = 5 from rfl] at hs
  rw [hs] at this
  simp only at this
  omega
/-- no five equal bits: nothing is put in, and what is known is how the row ends -/
theorem five_no {l : List UInt8} : l.all okc = true → (∀ p q c, okc c = true → l ≠ p ++ List.replicate 5 c ++ q) →
    (stf l).2 = l ∧ ((l = [] ∧ (stf l).1 = (0, 0)) ∨ ∃ p c n, l = p ++ List.replicate n c ∧ 1 ≤ n ∧ okc c = true ∧ (stf l).1 = (c.toNat, n)) := by
  induction l using snoc_ind with
  | h0 => intro _ _; exact ⟨rfl, .inl ⟨rfl, rfl⟩⟩
  | h1 l c ih =>
    intro h hno
    obtain ⟨hl, hc⟩ := all_snoc.1 h
    have hc' := (okc_iff c).1 hc
    obtain ⟨i1, i2⟩ := ih hl (fun p q d hd e => hno p (q ++ [c]) d hd (by rw [e]; simp))
    have h4 := stf_le hl
    rcases i2 with ⟨rfl, hs⟩ | ⟨p, d, n, hp, hn, hd, hs⟩
    · have hk : kn (stf []).1 c.toNat = (c.toNat, 1) := kn_one (by omega)
      rw [stf_plain (by rw [hk]; simp), hk, i1]
      exact ⟨rfl, .inr ⟨[], c, 1, by simp, by omega, hc, rfl⟩⟩
    · rw [hs] at h4
      simp only at h4
      by_cases e : c.toNat = d.toNat
      · have ecd : c = d := UInt8.toNat_inj.1 e
        subst ecd
        have e2 : l ++ [c] = p ++ List.replicate (n + 1) c := by rw [hp, List.append_assoc, List.replicate_succ']
        have hk : kn (stf l).1 c.toNat = (c.toNat, n + 1) := by rw [hs]; exact kn_more rfl (by omega)
        by_cases h5 : n + 1 = 5
        · rw [h5] at e2
          exact absurd (e2.trans (List.append_nil _).symm) (hno p [] c hc)
        · rw [stf_plain (by rw [hk]; exact h5), hk, i1]
          exact ⟨rfl, .inr ⟨p, c, n + 1, e2, by omega, hc, rfl⟩⟩
      · have hk : kn (stf l).1 c.toNat = (c.toNat, 1) := by rw [hs]; exact kn_one e
        rw [stf_plain (by rw [hk]; simp), hk, i1]
        exact ⟨rfl, .inr ⟨l, c, 1, by simp, by omega, hc, rfl⟩⟩

/-- one bit, then four of the other kind, then one more -/
theorem one_more {l : List UInt8} {x y : UInt8} (hs : (stf l).2 = l) (hx : x.toNat ≠ (stf l).1.1) (hy : y.toNat ≠ x.toNat) (ho : other y = x) :
    (stf (l ++ [x, y, y, y, y])).2 = l ++ [x, y, y, y, y] ∧ (stf (l ++ [x, y, y, y, y, y])).2 = l ++ [x, y, y, y, y, y, x] := by
  have s1 : stf (l ++ [x]) = ((x.toNat, 1), l ++ [x]) := by
    have hk : kn (stf l).1 x.toNat = (x.toNat, 1) := kn_one hx
    rw [stf_plain (by rw [hk]; simp), hk, hs]
  have s2 : stf (l ++ [x] ++ [y]) = ((y.toNat, 1), l ++ [x] ++ [y]) := by
    have hk : kn (stf (l ++ [x])).1 y.toNat = (y.toNat, 1) := by rw [s1]; exact kn_one hy
    rw [stf_plain (by rw [hk]; simp), hk, s1]
  have s3 : stf (l ++ [x] ++ [y] ++ [y]) = ((y.toNat, 2), l ++ [x] ++ [y] ++ [y]) := by
    have hk : kn (stf (l ++ [x] ++ [y])).1 y.toNat = (y.toNat, 2) := by rw [s2]; exact kn_more rfl (by omega)
    rw [stf_plain (by rw [hk]; simp), hk, s2]
  have s4 : stf (l ++ [x] ++ [y] ++ [y] ++ [y]) = ((y.toNat, 3), l ++ [x] ++ [y] ++ [y] ++ [y]) := by
    have hk : kn (stf (l ++ [x] ++ [y] ++ [y])).1 y.toNat = (y.toNat, 3) := by rw [s3]; exact kn_more rfl (by omega)
    rw [stf_plain (by rw [hk]; simp), hk, s3]
  have s5 : stf (l ++ [x] ++ [y] ++ [y] ++ [y] ++ [y]) = ((y.toNat, 4), l ++ [x] ++ [y] ++ [y] ++ [y] ++ [y]) := by
    have hk : kn (stf (l ++ [x] ++ [y] ++ [y] ++ [y])).1 y.toNat = (y.toNat, 4) := by rw [s4]; exact kn_more rfl (by omega)
    rw [stf_plain (by rw [hk]; simp), hk, s4]
  have s6 : (stf (l ++ [x] ++ [y] ++ [y] ++ [y] ++ [y] ++ [y])).2 = l ++ [x] ++ [y] ++ [y] ++ [y] ++ [y] ++ [y, x] := by
    have hk : kn (stf (l ++ [x] ++ [y] ++ [y] ++ [y] ++ [y])).1 y.toNat = (y.toNat, 5) := by rw [s5]; exact kn_more rfl (by omega)
    rw [stf_full (by rw [hk]), s5, ho]
  constructor
  · have := congrArg Prod.snd s5; simpa using this
  · simpa using s6
end Go.Proofs.Ytagboeejegbcgaa.B
