/- Plain facts on turned bits. No Go, no program. -/
import Derived.Test.YtdpfmpbnahhjmaaBits
namespace Go.Proofs.Ytdpfmpbnahhjmaa.B

/-- a bit turned -/
def turn (c : UInt8) : UInt8 := c ^^^ 1
theorem okc_turn {c : UInt8} (h : okc c = true) : okc (turn c) = true := by
  rcases (okc_iff c).1 h with e | e
  · rw [UInt8.toNat_inj.1 (show c.toNat = (48 : UInt8).toNat from e)]; rfl
  · rw [UInt8.toNat_inj.1 (show c.toNat = (49 : UInt8).toNat from e)]; rfl
theorem turn_turn (c : UInt8) : turn (turn c) = c := by
  unfold turn; rw [UInt8.xor_assoc, UInt8.xor_self, UInt8.xor_zero]
theorem turn_ne (c : UInt8) : turn c ≠ c := by
  intro h
  have : c ^^^ (c ^^^ 1) = c ^^^ c := congrArg (c ^^^ ·) h
  rw [← UInt8.xor_assoc, UInt8.xor_self, UInt8.zero_xor] at this
  exact absurd this (by decide)
theorem turn_step {c : UInt8} (h : okc c = true) : bits BinOp.xor IntKind.u8 (c.toNat : Int) 1 = ((turn c).toNat : Int) := by
  rcases (okc_iff c).1 h with e | e
  · rw [UInt8.toNat_inj.1 (show c.toNat = (48 : UInt8).toNat from e)]; decide
  · rw [UInt8.toNat_inj.1 (show c.toNat = (49 : UInt8).toNat from e)]; decide

/-- a row with the bits at these places turned, one behind the other -/
def flips (l : List UInt8) (zs : List Int) : List UInt8 := zs.foldl (fun l z => l.modify z.toNat turn) l
theorem flips_snoc (l : List UInt8) (zs : List Int) (z : Int) : flips l (zs ++ [z]) = (flips l zs).modify z.toNat turn := by simp [flips]
theorem flips_length (l : List UInt8) (zs : List Int) : (flips l zs).length = l.length := by
  unfold flips
  induction zs generalizing l with
  | nil => rfl
  | cons z zs ih => rw [List.foldl_cons, ih, List.length_modify]
theorem all_modify {l : List UInt8} (h : l.all okc = true) (i : Nat) : (l.modify i turn).all okc = true := by
  rw [List.all_eq_true] at *
  intro c hc
  obtain ⟨j, hj, rfl⟩ := List.getElem_of_mem hc
  rw [List.getElem_modify]
  split
  · exact okc_turn (h _ (List.getElem_mem _))
  · exact h _ (List.getElem_mem _)
theorem flips_all {l : List UInt8} (h : l.all okc = true) (zs : List Int) : (flips l zs).all okc = true := by
  unfold flips
  induction zs generalizing l with
  | nil => exact h
  | cons z zs ih => rw [List.foldl_cons]; exact ih (all_modify h _)
/-- are all of these places of a row of n bits -/
def places (n : Nat) (zs : List Int) : Bool := zs.all fun z => decide (0 ≤ z ∧ z < n)
theorem take_succ_getD (zs : List Int) (k : Nat) (h : k < zs.length) : zs.take (k + 1) = zs.take k ++ [zs.getD k 0] := by
  rw [List.take_succ_eq_append_getElem h, List.getD_eq_getElem?_getD, List.getElem?_eq_getElem h]; rfl
theorem places_bad {n : Nat} {zs : List Int} {k : Nat} (h : k < zs.length) (hb : ¬ (0 ≤ zs.getD k 0 ∧ zs.getD k 0 < n)) : places n zs = false := by
  rw [Bool.eq_false_iff]; intro e
  have := List.all_eq_true.1 e zs[k] (List.getElem_mem _)
  rw [List.getD_eq_getElem?_getD, List.getElem?_eq_getElem h] at hb
  simp at this hb
  omega
def preP (n : Nat) (zs : List Int) (k : Nat) : Prop := places n (zs.take k) = true
theorem preP_zero (n : Nat) (zs : List Int) : preP n zs 0 := by simp [preP, places]
theorem preP_succ {n : Nat} {zs : List Int} {k : Nat} (hk : k < zs.length) (h : preP n zs k) (h1 : 0 ≤ zs.getD k 0) (h2 : zs.getD k 0 < n) : preP n zs (k + 1) := by
  unfold preP places at *
  rw [take_succ_getD _ _ hk, List.all_append, h]
  generalize zs.getD k 0 = z at *
  simp; omega
theorem preP_full {n : Nat} {zs : List Int} (h : preP n zs zs.length) : places n zs = true := by
  unfold preP at h; rwa [List.take_length] at h
theorem flips_succ (l : List UInt8) (zs : List Int) (k : Nat) (h : k < zs.length) : flips l (zs.take (k + 1)) = (flips l (zs.take k)).modify (zs.getD k 0).toNat turn := by
  rw [take_succ_getD _ _ h, flips_snoc]
theorem modify_set {l : List UInt8} {i : Nat} (h : i < l.length) : l.modify i turn = l.set i (turn l[i]) := by
  apply List.ext_getElem?
  intro j
  rw [List.getElem?_modify, List.getElem?_set]
  by_cases e : i = j
  · subst e; simp [h]
  · simp [e]
theorem flips_two (l : List UInt8) (i : Nat) : flips l [(i : Int), (i : Int)] = l := by
  apply List.ext_getElem?
  intro j
  simp only [flips, List.foldl_cons, List.foldl_nil, Int.toNat_natCast, List.getElem?_modify]
  by_cases e : i = j
  · subst e; simp; cases l[i]? <;> simp [turn_turn]
  · simp [e]
theorem flips_one_ne (l : List UInt8) (i : Nat) (h : i < l.length) : flips l [(i : Int)] ≠ l := by
  intro e
  have := congrArg (·[i]?) e
  simp [flips, h] at this
  exact turn_ne _ this

end Go.Proofs.Ytdpfmpbnahhjmaa.B
