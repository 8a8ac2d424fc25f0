/- Small facts for the walk of the law BitsRows. -/
import Derived.Test.YtfnofajglbjgjaaRL1
import Derived.Test.YtfnofajglbjgjaaSame
import Derived.Test.YtfnofajglbjgjaaFlip
import Derived.Laws.AppendOwnNone
import Derived.Test.YtfnofajglbjgjaaShelf
namespace Go.Proofs.Ytfnofajglbjgjaa
open Go.RowKit Go.Lib

theorem Try.info9 : (Try.prog.info? 9).map (fun i => (i.zero, i.size, i.bytes)) = some (some (.string ⟨#[]⟩), 1, 16) := by kernel_rfl

theorem addr_block (a : Addr) (i : Nat) : (a.add i).block = a.block := by unfold Addr.add; split <;> rfl

theorem val_bool {a b : Bool} (h : a = b) : Value.bool b = .bool a := by rw [h]
/-- a callee that only computes, inside a region whose order is open -/
theorem quiet_mine {P : Program} {f : FuncId} {args : Array Value} {w : World} {n : Nat} {v : Value} (h : Calls P f args (w.drewN n) fun e w' => e = .returned v ∧ w.drewN n = w') :
    Calls P f args (w.drewN n) fun e w' => e = .returned v ∧ ∃ m, w' = w.drewN m := h.mono fun _ _ ⟨he, hm⟩ => ⟨he, n, hm.symm⟩
theorem own_form {w : World} {base : Nat} {e : TypeId} {size : Nat} {v : Value} {n : Nat} {xs : List Value} (h : w.ownsRow base e size v n xs) (hn : ¬ v = .slice none 0 0) :
    ∃ g cap, v = .slice (some ⟨g, 0, none⟩) n cap ∧ base ≤ g ∧ g < w.heap.size := by
  rcases h.2 with ⟨hv, _⟩ | ⟨g, cap, cur, hv, hb, hg, _⟩
  · exact absurd hv hn
  · refine ⟨g, cap, hv, hb, ?_⟩
    rcases Nat.lt_or_ge g w.heap.size with h' | h'
    · exact h'
    · rw [Array.getElem?_eq_none h'] at hg; cases hg

/-- the numbers that came in: their first m -/
def InI (w : World) (A : Option Addr) (m : Nat) (zs : List Int) : Prop := zs.length = m ∧ (0 < m → ∃ b off, A = some ⟨b, off, none⟩ ∧ b < w.heap.size ∧ RowI w b off zs)

/-- a row with its first k places turned -/
def turned (s : ByteArray) (zs : List Int) (k : Nat) : ByteArray := ⟨(B.flips s.data.toList (zs.take k)).toArray⟩
theorem turned_zero (s : ByteArray) (zs : List Int) : turned s zs 0 = s := rfl
theorem turned_size (s : ByteArray) (zs : List Int) (k : Nat) : (turned s zs k).size = s.size := by
  show (B.flips s.data.toList (zs.take k)).length = s.size
  rw [B.flips_length, B.size_len]
theorem turned_right {s : ByteArray} (zs : List Int) (k : Nat) (h : B.right s = true) : B.right (turned s zs k) = true := by
  unfold B.right
  rw [turned_size, show (turned s zs k).data.toList = B.flips s.data.toList (zs.take k) from rfl, B.flips_all (B.right_all h)]
  have := B.right_size h
  simp [this]
theorem turned_succ {s : ByteArray} {zs : List Int} {k j : Nat} (h : k < zs.length) (hj : zs.getD k 0 = j) : B.turnB (turned s zs k) j = turned s zs (k + 1) := by
  unfold B.turnB turned
  rw [B.flips_succ _ _ _ h, hj]; rfl
theorem own_cap {w : World} {base : Nat} {e : TypeId} {size : Nat} {g n cap : Nat} {xs : List Value} (h : w.ownsRow base e size (.slice (some ⟨g, 0, none⟩) n cap) n xs) : n ≤ cap := by
  rcases h.2 with ⟨h', _⟩ | ⟨g', cap', cur, h', _, _, hnc, _⟩
  · simp at h'
  · simp only [Value.slice.injEq, true_and] at h'
    omega
/-- strings.Join, called with rows of the call's own -/
theorem join_any (g cg : Nat) (cs : List ByteArray) (w : World) (h1 : RowS w g cs) (h2 : g < w.heap.size) (h3 : cs.length ≤ cg) (hz : ∀ s ∈ cs, s.size ≤ 300) (hn : cs.length ≤ 8) :
    Calls Try.prog 19 #[.slice (some ⟨g, 0, none⟩) cs.length cg, .string ⟨#[]⟩] w fun e w' => e = .returned (.string ⟨(Lib.join (cs.map (·.data.toList)) []).toArray⟩) ∧ Below w.heap.size w w' :=
  Try.strings_Join g 0 cg cs ⟨#[]⟩ w (fun j x hx => by
    rw [Nat.zero_add, h1 j (List.getElem?_eq_some_iff.1 hx).1]
    unfold B.at_
    rw [List.getD_eq_getElem?_getD, hx]; rfl) h2 (by omega) h3 (by have := B.join_le cs hz hn; show (Lib.join (cs.map (·.data.toList)) []).length ≤ _; omega)

end Go.Proofs.Ytfnofajglbjgjaa
