/- A row of runs in a block of the call's own. -/
import Derived.Test.YtfnofajglbjgjaaRuns2
import Derived.Deep.AppendLies
namespace Go.Proofs.Ytfnofajglbjgjaa
open Go.RowKit Go.Lib

/-- block g holds these runs from its first cell on -/
def RowR (w : World) (g : Nat) (rs : List (UInt8 × Nat)) : Prop := ∀ k, k < rs.length → w.cell? ⟨g, k * 2, none⟩ = some (.int .u8 (B.runAt rs k).1.toNat) ∧ w.cell? ⟨g, k * 2 + 1, none⟩ = some (.int .i64 (B.runAt rs k).2)
theorem RowR.below {w w' : World} {g B0 : Nat} {rs : List (UInt8 × Nat)} (h : RowR w g rs) (hb : Below B0 w w') (hg : g < B0) : RowR w' g rs :=
  fun k hk => ⟨by rw [hb.cell (by exact hg)]; exact (h k hk).1, by rw [hb.cell (by exact hg)]; exact (h k hk).2⟩

theorem ownsRow_zero {w : World} {base : Nat} {e : TypeId} {size : Nat} {v : Value} {xs : List Value} (h : w.ownsRow base e size v 0 xs) : ∃ A cap, v = .slice A 0 cap := by
  rcases h.2 with ⟨rfl, _⟩ | ⟨g, cap, cur, rfl, _⟩
  · exact ⟨_, _, rfl⟩
  · exact ⟨_, _, rfl⟩


theorem RowR.of_own {w : World} {base : Nat} {e : TypeId} {g cap n : Nat} {rs : List (UInt8 × Nat)} (ho : w.ownsRow base e 2 (.slice (some ⟨g, 0, none⟩) n cap) n (B.runCells rs)) (hn : n = rs.length) : RowR w g rs := by
  subst hn
  exact fun k hk => ⟨(ho.cellAt (k * 2) (by omega)).trans (B.runCells_fst hk).1, (ho.cellAt (k * 2 + 1) (by omega)).trans (B.runCells_fst hk).2⟩
end Go.Proofs.Ytfnofajglbjgjaa
