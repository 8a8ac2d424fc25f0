/- Plain facts: what the reference's Stuff keeps (from where on the equal bits are counted). No Go, no program. -/
import Derived.Test.YtdpfmpbnahhjmaaStuff1
namespace Go.Proofs.Ytdpfmpbnahhjmaa.B

def runAt (l : List UInt8) (fr n : Nat) (c : UInt8) : Prop :=
  ∃ p : List UInt8, l = p ++ List.replicate n c ∧ fr ≤ p.length ∧ (fr = p.length ∨ ∃ q d, p = q ++ [d] ∧ d.toNat ≠ c.toNat)
def RInv (l : List UInt8) (fr : Nat) (x : St) : Prop :=
  (x = (0, 0) ∧ l = [] ∧ fr = 0) ∨ ∃ c : UInt8, x.1 = c.toNat ∧ okc c = true ∧ 1 ≤ x.2 ∧ runAt l fr x.2 c

theorem rinv_zero : RInv [] 0 (0, 0) := .inl ⟨rfl, rfl, rfl⟩
theorem rinv_step {l : List UInt8} {fr : Nat} {x : St} {c : UInt8} (h : RInv l fr x) (h4 : x.2 ≤ 4) (hc : okc c = true) :
    (kn x c.toNat).1 = c.toNat ∧ 1 ≤ (kn x c.toNat).2 ∧ (kn x c.toNat).2 ≤ 5 ∧ runAt (l ++ [c]) fr (kn x c.toNat).2 c := by
  obtain ⟨b, n⟩ := x
  simp only at h4
  have hc' := (okc_iff c).1 hc
  rcases h with ⟨he, rfl, rfl⟩ | ⟨d, hd, hdo, hn, p, hp, hfr, hor⟩
  · cases he
    rw [kn_one (by omega)]
    exact ⟨rfl, Nat.le_refl _, by omega, [], by simp, Nat.le_refl _, .inl rfl⟩
  · simp only at hd hn hp
    by_cases e : c.toNat = b
    · have ecd : c = d := UInt8.toNat_inj.1 (by omega)
      subst ecd
      rw [kn_more e (by omega)]
      refine ⟨rfl, by simp only; omega, by simp only; omega, p, ?_, hfr, hor⟩
      rw [hp, List.append_assoc, List.replicate_succ']
    · rw [kn_one e]
      refine ⟨rfl, Nat.le_refl _, by simp only; omega, l, by simp, ?_, .inr ⟨p ++ List.replicate (n - 1) d, d, ?_, by omega⟩⟩
      · rw [hp]; simp; omega
      · rw [hp, List.append_assoc, ← List.replicate_succ', show n - 1 + 1 = n from by omega]
theorem rinv_plain {l : List UInt8} {fr : Nat} {x : St} {c : UInt8} (h : RInv l fr x) (h4 : x.2 ≤ 4) (hc : okc c = true) : RInv (l ++ [c]) fr (kn x c.toNat) := by
  obtain ⟨h1, h2, _, h3⟩ := rinv_step h h4 hc
  exact .inr ⟨c, h1, hc, h2, h3⟩
theorem rinv_full {l : List UInt8} {x : St} {c : UInt8} (hc : okc c = true) (hx : x.1 = c.toNat) : RInv (l ++ [c] ++ [other c]) (l ++ [c]).length (kn x (other c).toNat) := by
  obtain ⟨b, n⟩ := x
  simp only at hx
  rw [kn_one (by rw [hx]; exact other_ne hc)]
  exact .inr ⟨other c, rfl, other_okc hc, Nat.le_refl _, l ++ [c], by simp, Nat.le_refl _, .inl rfl⟩

theorem run_yes {l : List UInt8} {fr : Nat} {c : UInt8} (h : runAt l fr 5 c) : fr + 5 ≤ l.length ∧ ∀ i (h : i < l.length), l.length - 5 ≤ i → l[i] = c := by
  obtain ⟨p, rfl, hfr, _⟩ := h
  simp only [List.length_append, List.length_replicate]
  refine ⟨by omega, fun i hi h5 => ?_⟩
  rw [List.getElem_append_right (by omega)]
  exact List.getElem_replicate _
theorem run_no {l : List UInt8} {fr n : Nat} {c : UInt8} (h : runAt l fr n c) (h1 : 1 ≤ n) (h4 : n ≤ 4) :
    (fr ≤ l.length ∧ l.length < fr + 5) ∨ (fr + 5 ≤ l.length ∧ ∃ j, ∃ (hj : j < l.length), ∃ (hl : l.length - 1 < l.length), l.length - 5 ≤ j ∧ l[l.length - 1] = c ∧ l[j].toNat ≠ c.toNat) := by
  obtain ⟨p, rfl, hfr, hor⟩ := h
  simp only [List.length_append, List.length_replicate]
  rcases hor with rfl | ⟨q, d, rfl, hd⟩
  · left; omega
  · by_cases hl : q.length + 1 + n < fr + 5
    · left; simp at hfr ⊢; omega
    · right
      simp only [List.length_append, List.length_cons, List.length_nil] at *
      refine ⟨by omega, q.length, by omega, by omega, by omega, ?_, ?_⟩
      · rw [List.getElem_append_right (by simp; omega)]; simp
      · rw [List.getElem_append_left (by simp), List.getElem_append_right (by simp)]; simpa using hd
end Go.Proofs.Ytdpfmpbnahhjmaa.B
