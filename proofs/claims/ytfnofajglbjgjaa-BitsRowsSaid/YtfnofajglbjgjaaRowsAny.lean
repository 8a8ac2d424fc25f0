/- The law BitsRows' walk, all cases together. -/
import Derived.Test.YtfnofajglbjgjaaRowsLawT
import Derived.Test.YtfnofajglbjgjaaRowsLawF
import Derived.Test.YtfnofajglbjgjaaRowsLawN
namespace Go.Proofs.Ytfnofajglbjgjaa
open Go.RowKit Go.Lib

theorem cell_lt {w : World} {a : Addr} {v : Value} (h : w.cell? a = some v) : a.block < w.heap.size := by
  rcases Nat.lt_or_ge a.block w.heap.size with h' | h'
  · exact h'
  · simp [World.cell?, Array.getElem?_eq_none h'] at h

/-- texts that came in -/
def InS (w : World) (A : Option Addr) (n cap : Nat) : Prop :=
  (A = none ∧ n = 0 ∧ cap = 0) ∨ ∃ (a : Addr) (ss : List ByteArray), A = some a ∧ n ≤ cap ∧ cap ≤ maxLen ∧ ss.length = n ∧ (0 < n → a.block < w.heap.size) ∧ ∀ i, i < n → w.cell? (a.add i) = some (.string (B.at_ ss i))
/-- numbers that came in -/
def InZ (w : World) (A : Option Addr) (n cap : Nat) : Prop :=
  (A = none ∧ n = 0 ∧ cap = 0) ∨ ∃ (a : Addr) (zs : List Int), A = some a ∧ n ≤ cap ∧ zs.length = n ∧ (0 < n → a.block < w.heap.size) ∧ ∀ i, i < n → w.cell? (a.add i) = some (.int .i64 (zs.getD i 0))

theorem InZ.first {w : World} {A : Option Addr} {n cap m : Nat} (h : InZ w A n cap) (hm : m ≤ n) : n ≤ cap ∧ ∃ zs, InI w A m zs := by
  rcases h with ⟨rfl, rfl, rfl⟩ | ⟨a, zs, rfl, hn, hl, hb, hc⟩
  · exact ⟨Nat.le_refl _, [], by simp; omega, fun h => by omega⟩
  · refine ⟨hn, zs.take m, by rw [List.length_take]; omega, fun h0 => ?_⟩
    have h00 := hc 0 (by omega)
    have hspot : a.spot = none := by
      have := World.cell?_spot h00
      simpa [Addr.add] using this
    obtain ⟨b, off, sp⟩ := a
    simp only at hspot
    subst hspot
    refine ⟨b, off, rfl, hb (by omega), fun i hi => ?_⟩
    rw [List.length_take] at hi
    have := hc i (by omega)
    have e : (⟨b, off, none⟩ : Addr).add i = ⟨b, off + i, none⟩ := by
      unfold Addr.add; split
      · rename_i h; subst h; rfl
      · rfl
    rw [e] at this
    rw [this]
    simp only [List.getD_eq_getElem?_getD, List.getElem?_take]
    rw [if_pos (by omega)]

theorem rows_any (A : Option Addr) (n cap : Nat) (A1 : Option Addr) (n1 c1 : Nat) (w : World) (hS : InS w A n cap) (hZ : InZ w A1 n1 c1) :
    Calls Try.prog 4 #[.slice A n cap, .slice A1 n1 c1] w fun e w' => e = .returned (.bool true) ∧ Below w.heap.size w w' := by
  obtain ⟨m1, hm1⟩ : ∃ m : Nat, min (n1 : Int) 20 = (m : Int) := ⟨min n1 20, by omega⟩
  obtain ⟨hn1, zs, hini⟩ := hZ.first (m := m1) (by omega)
  rcases hS with ⟨rfl, rfl, rfl⟩ | ⟨a, ss, rfl, hnc, hcap, hss, hab, hcell⟩
  · obtain ⟨s, hs⟩ : ∃ s, cutS ⟨(Lib.join (([] : List ByteArray).map (·.data.toList)) []).toArray⟩ 300 = s := ⟨_, rfl⟩
    cases hr : B.right s with
    | false =>
      rcases Nat.eq_zero_or_pos m1 with h | h
      · exact rowsLaw_nil_wrong0 A1 n1 c1 w [] rfl s hs m1 hm1 hn1 zs hini hr h
      · exact rowsLaw_nil_wrong1 A1 n1 c1 w [] rfl s hs m1 hm1 hn1 zs hini hr h
    | true =>
      rcases Nat.eq_zero_or_pos m1 with h | h
      · exact rowsLaw_nil_none A1 n1 c1 w [] rfl s hs m1 hm1 hn1 zs hini hr h
      · cases hp : B.places s.size zs with
        | true => exact rowsLaw_nil_yes A1 n1 c1 w [] rfl s hs m1 hm1 hn1 zs hini hr h hp
        | false => exact rowsLaw_nil_bad A1 n1 c1 w [] rfl s hs m1 hm1 hn1 zs hini hr h hp
  · obtain ⟨m, hm⟩ : ∃ m : Nat, min (n : Int) 8 = (m : Int) := ⟨min n 8, by omega⟩
    obtain ⟨cs, hcs⟩ : ∃ cs, B.cuts (ss.take m) = cs := ⟨_, rfl⟩
    obtain ⟨s, hs⟩ : ∃ s, cutS ⟨(Lib.join (cs.map (·.data.toList)) []).toArray⟩ 300 = s := ⟨_, rfl⟩
    cases ha : B.alike cs with
    | true =>
      cases hr : B.right s with
      | false =>
        rcases Nat.eq_zero_or_pos m1 with h | h
        · exact rowsLaw_true_wrong0 a n cap ss A1 n1 c1 w hnc hcap hss hab hcell m hm cs hcs ha s hs m1 hm1 hn1 zs hini hr h
        · exact rowsLaw_true_wrong1 a n cap ss A1 n1 c1 w hnc hcap hss hab hcell m hm cs hcs ha s hs m1 hm1 hn1 zs hini hr h
      | true =>
        rcases Nat.eq_zero_or_pos m1 with h | h
        · exact rowsLaw_true_none a n cap ss A1 n1 c1 w hnc hcap hss hab hcell m hm cs hcs ha s hs m1 hm1 hn1 zs hini hr h
        · cases hp : B.places s.size zs with
          | true => exact rowsLaw_true_yes a n cap ss A1 n1 c1 w hnc hcap hss hab hcell m hm cs hcs ha s hs m1 hm1 hn1 zs hini hr h hp
          | false => exact rowsLaw_true_bad a n cap ss A1 n1 c1 w hnc hcap hss hab hcell m hm cs hcs ha s hs m1 hm1 hn1 zs hini hr h hp
    | false =>
      cases hr : B.right s with
      | false =>
        rcases Nat.eq_zero_or_pos m1 with h | h
        · exact rowsLaw_false_wrong0 a n cap ss A1 n1 c1 w hnc hcap hss hab hcell m hm cs hcs ha s hs m1 hm1 hn1 zs hini hr h
        · exact rowsLaw_false_wrong1 a n cap ss A1 n1 c1 w hnc hcap hss hab hcell m hm cs hcs ha s hs m1 hm1 hn1 zs hini hr h
      | true =>
        rcases Nat.eq_zero_or_pos m1 with h | h
        · exact rowsLaw_false_none a n cap ss A1 n1 c1 w hnc hcap hss hab hcell m hm cs hcs ha s hs m1 hm1 hn1 zs hini hr h
        · cases hp : B.places s.size zs with
          | true => exact rowsLaw_false_yes a n cap ss A1 n1 c1 w hnc hcap hss hab hcell m hm cs hcs ha s hs m1 hm1 hn1 zs hini hr h hp
          | false => exact rowsLaw_false_bad a n cap ss A1 n1 c1 w hnc hcap hss hab hcell m hm cs hcs ha s hs m1 hm1 hn1 zs hini hr h hp
end Go.Proofs.Ytfnofajglbjgjaa
