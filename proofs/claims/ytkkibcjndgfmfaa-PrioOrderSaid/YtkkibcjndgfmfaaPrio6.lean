/- Plain facts on putting rows in order: insertion, and that a stable order is unique. No program. -/
import Derived.Test.YtkkibcjndgfmfaaPlain
namespace Go.Proofs.Ytkkibcjndgfmfaa.B

/-- what orders: rows of bits, none the beginning of another one -/
structure Keys {α : Type} (key : α → List UInt8) : Prop where
  all : ∀ x, (key x).all okc = true
  pre : ∀ x y, firstD (key x) (key y) = none → key x = key y
section
variable {α : Type} {key : α → List UInt8}
def lt (key : α → List UInt8) (x y : α) : Bool := lessL (key x) (key y)
theorem lt_self (x : α) : lt key x x = false := lessL_self _
theorem lt_trans (hk : Keys key) {x y z : α} (h1 : lt key x y = true) (h2 : lt key y z = true) : lt key x z = true := lessL_trans (hk.all y) h1 h2
theorem lt_same (hk : Keys key) {x y : α} (h1 : lt key x y = false) (h2 : lt key y x = false) : key x = key y := by
  cases hd : firstD (key x) (key y) with
  | none => exact hk.pre x y hd
  | some d =>
    have := lessL_or (hk.all x) (hk.all y) hd
    unfold lt at h1 h2
    rw [h1, h2] at this; cases this
theorem lt_asymm (hk : Keys key) {x y : α} (h : lt key x y = true) : lt key y x = false := by
  cases h2 : lt key y x
  · rfl
  · have := lt_trans hk h h2; rw [lt_self] at this; cases this
theorem lt_lt (hk : Keys key) {x a b : α} (h1 : lt key x a = true) (h2 : lt key b a = false) : lt key x b = true := by
  cases h3 : lt key a b
  · have := lt_same hk h3 h2
    unfold lt at h1 ⊢
    rw [← this]; exact h1
  · exact lt_trans hk h1 h3
theorem lt_key {x y : α} (h : key x = key y) (z : α) : lt key x z = lt key y z := by unfold lt; rw [h]
theorem lt_key' {x y : α} (h : key x = key y) (z : α) : lt key z x = lt key z y := by unfold lt; rw [h]
def Srt (key : α → List UInt8) (l : List α) : Prop := l.Pairwise (fun a b => lt key b a = false)
def ins (key : α → List UInt8) (x : α) : List α → List α
  | [] => [x]
  | y :: l => if lt key x y then x :: y :: l else y :: ins key x l
def isort (key : α → List UInt8) (l : List α) : List α := l.foldl (fun acc x => ins key x acc) []
theorem isort_snoc (l : List α) (x : α) : isort key (l ++ [x]) = ins key x (isort key l) := by unfold isort; rw [List.foldl_append]; rfl
theorem ins_length (x : α) : ∀ l : List α, (ins key x l).length = l.length + 1 := by
  intro l
  induction l with
  | nil => rfl
  | cons y l ih => rw [ins]; split <;> simp [ih]
theorem ins_mem (x : α) : ∀ (l : List α) (z : α), z ∈ ins key x l ↔ z = x ∨ z ∈ l := by
  intro l
  induction l with
  | nil => intro z; simp [ins]
  | cons y l ih =>
    intro z
    rw [ins]
    split
    · simp
    · rw [List.mem_cons, ih, List.mem_cons]
      constructor
      · rintro (h | h | h) <;> simp [h]
      · rintro (h | h | h) <;> simp [h]
theorem ins_srt (hk : Keys key) (x : α) : ∀ (l : List α), Srt key l → Srt key (ins key x l) := by
  intro l
  induction l with
  | nil => intro _; exact List.pairwise_singleton _ _
  | cons y l ih =>
    intro h
    have h' := List.pairwise_cons.1 h
    rw [ins]
    split
    · rename_i hx
      refine List.pairwise_cons.2 ⟨fun z hz => ?_, h⟩
      rcases List.mem_cons.1 hz with rfl | hz
      · exact lt_asymm hk hx
      · exact lt_asymm hk (lt_lt hk hx (h'.1 z hz))
    · rename_i hx
      refine List.pairwise_cons.2 ⟨fun z hz => ?_, ih h'.2⟩
      rcases (ins_mem x l z).1 hz with rfl | hz
      · simpa using hx
      · exact h'.1 z hz
theorem isort_srt (hk : Keys key) : ∀ (l : List α), Srt key (isort key l) := by
  have : ∀ (l acc : List α), Srt key acc → Srt key (l.foldl (fun acc x => ins key x acc) acc) := by
    intro l
    induction l with
    | nil => intro acc h; exact h
    | cons x l ih => intro acc h; exact ih _ (ins_srt hk x acc h)
  intro l; exact this l [] List.Pairwise.nil
theorem isort_length (l : List α) : (isort key l).length = l.length := by
  have : ∀ (l acc : List α), (l.foldl (fun acc x => ins key x acc) acc).length = acc.length + l.length := by
    intro l
    induction l with
    | nil => intro acc; rfl
    | cons x l ih => intro acc; rw [List.foldl_cons, ih, ins_length, List.length_cons]; omega
  rw [isort, this]; simp
theorem isort_mem (l : List α) (z : α) : z ∈ isort key l ↔ z ∈ l := by
  have : ∀ (l acc : List α), z ∈ l.foldl (fun acc x => ins key x acc) acc ↔ z ∈ acc ∨ z ∈ l := by
    intro l
    induction l with
    | nil => intro acc; simp
    | cons x l ih =>
      intro acc
      rw [List.foldl_cons, ih, ins_mem, List.mem_cons]
      constructor
      · rintro ((h | h) | h) <;> simp [h]
      · rintro (h | h | h) <;> simp [h]
  rw [isort, this]; simp
/-- those of one key stand as they stood -/
theorem ins_filter (x : α) (b : List UInt8) : ∀ (l : List α), Srt key l → (ins key x l).filter (fun z => decide (key z = b)) = (l ++ [x]).filter (fun z => decide (key z = b)) := by
  intro l
  induction l with
  | nil => intro _; rfl
  | cons y l ih =>
    intro h
    have h' := List.pairwise_cons.1 h
    rw [ins]
    split
    · rename_i hx
      by_cases hb : key x = b
      · have hn : ∀ z ∈ y :: l, ¬ key z = b := fun z hz e => by
          have hzy : lt key z y = true := by rw [lt_key (e.trans hb.symm)]; exact hx
          rcases List.mem_cons.1 hz with rfl | hz
          · rw [lt_self] at hzy; cases hzy
          · rw [h'.1 z hz] at hzy; cases hzy
        rw [List.filter_append, List.filter_cons, if_pos (by simpa using hb)]
        have hf : (y :: l).filter (fun z => decide (key z = b)) = [] := by
          rw [List.filter_eq_nil_iff]; intro z hz; simpa using hn z hz
        rw [hf]; simp [hb]
      · rw [List.filter_append, List.filter_cons, if_neg (by simpa using hb)]
        simp [hb]
    · rw [List.cons_append, List.filter_cons, List.filter_cons, ih h'.2]
theorem isort_filter (hk : Keys key) (b : List UInt8) (l : List α) : (isort key l).filter (fun z => decide (key z = b)) = l.filter (fun z => decide (key z = b)) := by
  have : ∀ (l acc : List α), Srt key acc → (l.foldl (fun acc x => ins key x acc) acc).filter (fun z => decide (key z = b)) = (acc ++ l).filter (fun z => decide (key z = b)) := by
    intro l
    induction l with
    | nil => intro acc _; simp
    | cons x l ih =>
      intro acc h
      rw [List.foldl_cons, ih _ (ins_srt hk x acc h), List.filter_append, ins_filter x b acc h, ← List.filter_append]
      simp
  rw [isort, this l [] List.Pairwise.nil]; rfl
/-- a stable order is unique -/
theorem srt_unique (hk : Keys key) : ∀ (s t : List α), Srt key s → Srt key t → (∀ b, s.filter (fun z => decide (key z = b)) = t.filter (fun z => decide (key z = b))) → s = t := by
  intro s
  induction s with
  | nil =>
    intro t _ _ h
    cases t with
    | nil => rfl
    | cons c t => have := h (key c); rw [List.filter_cons, if_pos (by simp)] at this; simp at this
  | cons a s ih =>
    intro t hs ht h
    cases t with
    | nil => have := h (key a); rw [List.filter_cons, if_pos (by simp)] at this; simp at this
    | cons c t =>
      have hs' := List.pairwise_cons.1 hs
      have ht' := List.pairwise_cons.1 ht
      have hac : a ∈ (c :: t).filter (fun z => decide (key z = key a)) := by rw [← h (key a)]; simp
      have hca : c ∈ (a :: s).filter (fun z => decide (key z = key c)) := by rw [h (key c)]; simp
      have h1 : lt key a c = false := by
        rcases List.mem_cons.1 (List.mem_filter.1 hac).1 with e | e
        · rw [e]; exact lt_self _
        · exact ht'.1 a e
      have h2 : lt key c a = false := by
        rcases List.mem_cons.1 (List.mem_filter.1 hca).1 with e | e
        · rw [e]; exact lt_self _
        · exact hs'.1 c e
      have hkey := lt_same hk h1 h2
      have h3 := h (key a)
      rw [List.filter_cons, if_pos (by simp), List.filter_cons, if_pos (by simpa using hkey.symm)] at h3
      have e : a = c := (List.cons.inj h3).1
      subst e
      congr 1
      refine ih t hs'.2 ht'.2 (fun b => ?_)
      have h4 := h b
      rw [List.filter_cons, List.filter_cons] at h4
      by_cases hb : key a = b
      · rw [if_pos (by simpa using hb), if_pos (by simpa using hb)] at h4
        exact (List.cons.inj h4).2
      · rw [if_neg (by simpa using hb), if_neg (by simpa using hb)] at h4
        exact h4
theorem ins_at (x : α) : ∀ (p : List α) (j : Nat), j ≤ p.length → (∀ y ∈ p.take j, lt key x y = false) → (∀ y ∈ p.drop j, lt key x y = true) → ins key x p = p.take j ++ x :: p.drop j := by
  intro p
  induction p with
  | nil => intro j _ _ _; simp [ins]
  | cons y p ih =>
    intro j hj h1 h2
    rw [ins]
    cases j with
    | zero => rw [if_pos (h2 y (by simp))]; rfl
    | succ j =>
      rw [if_neg (by rw [h1 y (by simp)]; decide)]
      rw [ih j (by simpa using hj) (fun z hz => h1 z (by simp [hz])) (fun z hz => h2 z (by simpa using hz))]
      rfl
theorem before_not (hk : Keys key) {x : α} {p : List α} (hs : Srt key p) {j : Nat} (hj : j < p.length) (h : lt key x p[j] = false) : ∀ y ∈ p.take (j + 1), lt key x y = false := by
  intro y hy
  obtain ⟨i, hi, rfl⟩ := List.getElem_of_mem hy
  rw [List.length_take] at hi
  rw [List.getElem_take]
  by_cases e : i = j
  · subst e; exact h
  · cases hxy : lt key x (p[i]'(by omega))
    · rfl
    · have := List.pairwise_iff_getElem.1 hs i j (by omega) hj (by omega)
      rw [lt_lt hk hxy this] at h; cases h
/-- the row while x goes down: j of p stand ahead of it -/
def rowJ (p : List α) (x : α) (r : List α) (j : Nat) : List α := p.take j ++ x :: (p.drop j ++ r)
theorem rowJ_length (p : List α) (x : α) (r : List α) (j : Nat) : (rowJ p x r j).length = p.length + 1 + r.length := by
  unfold rowJ; simp; omega
theorem rowJ_at {p : List α} {x : α} {r : List α} {j : Nat} (hj : j ≤ p.length) : (rowJ p x r j)[j]? = some x := by
  unfold rowJ
  rw [List.getElem?_append_right (by simp; omega)]
  simp [Nat.min_eq_left hj]
theorem rowJ_pred {p : List α} {x : α} {r : List α} {j : Nat} (hj : j < p.length) : (rowJ p x r (j + 1))[j]? = some p[j] := by
  unfold rowJ
  rw [List.getElem?_append_left (by simp; omega), List.getElem?_take, if_pos (by omega), List.getElem?_eq_getElem hj]
theorem rowJ_swap {p : List α} {x : α} {r : List α} {j : Nat} (hj : j < p.length) : ((rowJ p x r (j + 1)).set (j + 1) p[j]).set j x = rowJ p x r j := by
  unfold rowJ
  have hl : (p.take (j + 1)).length = j + 1 := by simp; omega
  rw [List.set_append_right _ _ (by omega), hl, Nat.sub_self, List.set_cons_zero, List.set_append_left _ _ (by omega), List.take_succ_eq_append_getElem hj, List.set_append_right _ _ (by simp; omega)]
  rw [show j - (p.take j).length = 0 by simp; omega, List.set_cons_zero, List.append_assoc, List.drop_eq_getElem_cons hj]
  rfl
theorem isort_step {l : List α} {i : Nat} (hi : i < l.length) : isort key (l.take (i + 1)) = ins key l[i] (isort key (l.take i)) := by
  rw [List.take_succ_eq_append_getElem hi, isort_snoc]
theorem rowJ_start {l : List α} {i : Nat} (hi : i < l.length) : isort key (l.take i) ++ l.drop i = rowJ (isort key (l.take i)) l[i] (l.drop (i + 1)) i := by
  have hp : (isort key (l.take i)).length = i := by rw [isort_length, List.length_take]; omega
  unfold rowJ
  generalize isort key (l.take i) = p at *
  rw [List.take_of_length_le (by omega), List.drop_of_length_le (l := p) (by omega), List.nil_append, List.drop_eq_getElem_cons hi]
theorem rowJ_end {l : List α} {i j : Nat} (hi : i < l.length) (hj : j ≤ i) (h1 : ∀ y ∈ (isort key (l.take i)).take j, lt key l[i] y = false) (h2 : ∀ y ∈ (isort key (l.take i)).drop j, lt key l[i] y = true) :
    rowJ (isort key (l.take i)) l[i] (l.drop (i + 1)) j = isort key (l.take (i + 1)) ++ l.drop (i + 1) := by
  have hp : (isort key (l.take i)).length = i := by rw [isort_length, List.length_take]; omega
  rw [isort_step hi, ins_at l[i] _ j (by omega) h1 h2]
  unfold rowJ
  simp
end
end Go.Proofs.Ytkkibcjndgfmfaa.B
