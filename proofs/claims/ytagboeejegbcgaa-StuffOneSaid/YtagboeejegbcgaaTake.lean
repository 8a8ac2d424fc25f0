/- The walks of package stuff's methods full and take, of isBit and Right; and of the reference's Right and Step. -/
import Derived.Test.YtagboeejegbcgaaUtil
import Derived.Test.YtagboeejegbcgaaStuff1
import Derived.OneCell
namespace Go.Proofs.Ytagboeejegbcgaa
open Go.RowKit Go.Lib

/-- a block of two cells -/
def Two (w : World) (g : Nat) (u v : Value) (t : TypeId) : Prop := w.heap[g]? = some (.cells #[u, v] t (0, 0))
theorem Two.cell0 {w : World} {g : Nat} {u v : Value} {t : TypeId} (h : Two w g u v t) : w.cell? ⟨g, 0, none⟩ = some u := by simp [World.cell?, show w.heap[g]? = _ from h]
theorem Two.cell1 {w : World} {g : Nat} {u v : Value} {t : TypeId} (h : Two w g u v t) : w.cell? ⟨g, 1, none⟩ = some v := by simp [World.cell?, show w.heap[g]? = _ from h]
theorem Two.free0 {w : World} {g : Nat} {u v : Value} {t : TypeId} (h : Two w g u v t) : w.frozen? ⟨g, 0, none⟩ = false := by simp [World.frozen?, show w.heap[g]? = _ from h]
theorem Two.free1 {w : World} {g : Nat} {u v : Value} {t : TypeId} (h : Two w g u v t) : w.frozen? ⟨g, 1, none⟩ = false := by simp [World.frozen?, show w.heap[g]? = _ from h]
theorem Two.lt {w : World} {g : Nat} {u v : Value} {t : TypeId} (h : Two w g u v t) : g < w.heap.size := lt_of_block h
theorem Two.set0 {w : World} {g : Nat} {u v : Value} {t : TypeId} (h : Two w g u v t) (x : Value) : Two (w.setCell ⟨g, 0, none⟩ x) g x v t := by
  have hlt := h.lt
  have h' : w.heap[g] = .cells #[u, v] t (0, 0) := by simpa [Array.getElem?_eq_getElem hlt] using (show w.heap[g]? = _ from h)
  show (w.heap.modify g _)[g]? = _
  rw [Array.getElem?_eq_getElem (by simpa using hlt), Array.getElem_modify_self, h']
  rfl
theorem Two.set1 {w : World} {g : Nat} {u v : Value} {t : TypeId} (h : Two w g u v t) (x : Value) : Two (w.setCell ⟨g, 1, none⟩ x) g u x t := by
  have hlt := h.lt
  have h' : w.heap[g] = .cells #[u, v] t (0, 0) := by simpa [Array.getElem?_eq_getElem hlt] using (show w.heap[g]? = _ from h)
  show (w.heap.modify g _)[g]? = _
  rw [Array.getElem?_eq_getElem (by simpa using hlt), Array.getElem_modify_self, h']
  rfl
theorem two_new (w : World) (u v : Value) (t : TypeId) : Two (w.alloc (.cells #[u, v] t)) w.heap.size u v t := heap_alloc_new _ _

/-- nothing but block g has changed -/
structure At (g : Nat) (w w' : World) : Prop where
  os : w'.os = w.os
  tape : w'.tape = w.tape
  output : w'.output = w.output
  size : w'.heap.size = w.heap.size
  block : ∀ k, k ≠ g → w'.heap[k]? = w.heap[k]?
theorem At.refl (g : Nat) (w : World) : At g w w := ⟨rfl, rfl, rfl, rfl, fun _ _ => rfl⟩
theorem At.setCell {g : Nat} {a w : World} (h : At g a w) (i : Nat) (u : Value) : At g a (w.setCell ⟨g, i, none⟩ u) := by
  refine ⟨h.os, h.tape, h.output, ?_, fun k hk => ?_⟩
  · rw [← h.size]; show (w.heap.modify g _).size = _; simp
  · rw [Below.heap_setCell _ _ _ _ (by simpa using hk)]; exact h.block k hk
theorem At.below {g : Nat} {w w' : World} (h : At g w w') : Below g w w' := ⟨h.os, h.tape, h.output, by rw [h.size]; exact Nat.le_refl _, fun k hk => h.block k (by omega)⟩
theorem At.owns {g base : Nat} {w w' : World} {e : TypeId} {size : Nat} {v : Value} {n : Nat} {xs : List Value} (h : At g w w') (ho : w.ownsRow base e size v n xs) (hg : g < base) : w'.ownsRow base e size v n xs := by
  obtain ⟨h1, h2⟩ := ho
  refine ⟨h1, ?_⟩
  rcases h2 with h2 | ⟨b, cap, cur, hv, hb, hh, r⟩
  · exact Or.inl h2
  · exact Or.inr ⟨b, cap, cur, hv, hb, by rw [h.block b (by omega)]; exact hh, r⟩
theorem Two.alloc {w : World} {g : Nat} {u v : Value} {t : TypeId} (h : Two w g u v t) (o : Obj) : Two (w.alloc o) g u v t := by
  show (w.alloc o).heap[g]? = _
  rw [Below.heap_alloc _ _ _ h.lt]; exact h
theorem Two.drew {w : World} {g : Nat} {u v : Value} {t : TypeId} (h : Two w g u v t) : Two w.drew g u v t := h
theorem Two.below {w w' : World} {B g : Nat} {u v : Value} {t : TypeId} (h : Two w g u v t) (hb : Below B w w') (hg : g < B) : Two w' g u v t := by
  show w'.heap[g]? = _
  rw [hb.block g hg]; exact h

set_option maxHeartbeats 400000 in
theorem full_any (b n g : Nat) (w : World) (hB : Two w g (.int .u8 b) (.int .i64 n) 40) :
    Calls Try.prog 24 #[.pointer (some ⟨g, 0, none⟩)] w fun e w' => e = .returned (.bool (decide (n = 5))) ∧ w = w' := by
  have hc0 := hB.cell0
  have hc1 := hB.cell1
  clear hB
  go_enter Try.func24, Try.ntmps24
  go_wp2
  go_ret
  exact ⟨ret_bool (by rw [Bool.eq_iff_iff]; simp; omega), rfl⟩

set_option maxHeartbeats 400000 in
theorem isBit_any (c : Nat) (w : World) :
    Calls Try.prog 20 #[.int .u8 c] w fun e w' => e = .returned (.bool (B.bitB c)) ∧ w = w' := by
  go_enter Try.func20, Try.ntmps20
  go_wp2
  all_goals
    go_ret
    exact ⟨ret_bool (by rw [Bool.eq_iff_iff]; simp [B.bitB]; omega), rfl⟩

set_option maxHeartbeats 400000 in
theorem right3_exact (b : Nat) (n : Int) (w : World) :
    Calls Try.prog 10 #[.agg #[.int .u8 b, .int .i64 n]] w fun e w' => e = .returned (.bool (B.mayB b n)) ∧ w' = w.alloc (.cells #[.int .u8 b, .int .i64 n] 23) := by
  go_enter Try.func10, Try.ntmps10
  go_wp2_with (go_at_call 20; (with_reducible refine (isBit_any _ _).mono ?_); rintro e w' ⟨rfl, rfl⟩)
  all_goals
    go_ret
    refine ⟨ret_bool ?_, rfl⟩
    simp only [beq_iff_eq, beq_eq_false_iff_ne, ne_eq, B.bitB, decide_eq_true_eq] at *
    rw [Bool.eq_iff_iff]
    simp [B.mayB]
    try omega

set_option maxHeartbeats 400000 in
theorem refright3_exact (b : Nat) (n : Int) (w : World) :
    Calls Try.prog 11 #[.agg #[.int .u8 b, .int .i64 n]] w fun e w' => e = .returned (.bool (B.mayB b n)) ∧ w' = w.alloc (.cells #[.int .u8 b, .int .i64 n] 23) := by
  go_enter Try.func11, Try.ntmps11
  go_wp2
  all_goals
    go_ret
    refine ⟨ret_bool ?_, ?_⟩
    · try simp only [beq_iff_eq, beq_eq_false_iff_ne, ne_eq] at *
      rw [Bool.eq_iff_iff]
      simp [B.mayB]
      try omega
    · simp [*]

theorem right3_any (b : Nat) (n : Int) (w : World) :
    Calls Try.prog 10 #[.agg #[.int .u8 b, .int .i64 n]] w fun e w' => e = .returned (.bool (B.mayB b n)) ∧ Below w.heap.size w w' :=
  (right3_exact b n w).mono fun _ _ ⟨he, hw⟩ => ⟨he, hw ▸ (Below.refl _ _).alloc (Nat.le_refl _) _⟩
theorem refright3_any (b : Nat) (n : Int) (w : World) :
    Calls Try.prog 11 #[.agg #[.int .u8 b, .int .i64 n]] w fun e w' => e = .returned (.bool (B.mayB b n)) ∧ Below w.heap.size w w' :=
  (refright3_exact b n w).mono fun _ _ ⟨he, hw⟩ => ⟨he, hw ▸ (Below.refl _ _).alloc (Nat.le_refl _) _⟩

set_option maxHeartbeats 400000 in
theorem take_err (b n c g : Nat) (w : World) (hB : Two w g (.int .u8 b) (.int .i64 n) 40) (h : c = b) (h5 : n = 5) :
    Calls Try.prog 21 #[.pointer (some ⟨g, 0, none⟩), .int .u8 c] w fun e w' => e = .returned (.int .i64 3) ∧ w' = w := by
  subst h h5
  have hc0 := hB.cell0
  have hc1 := hB.cell1
  have CF := Lib.hid (full_any c 5 g w hB)
  clear hB
  go_enter Try.func21, Try.ntmps21
  go_wp2_with (go_at_call 24; (with_reducible refine CF.out.mono ?_); rintro e w' ⟨rfl, rfl⟩)
  go_ret
  exact ⟨rfl, rfl⟩

set_option maxHeartbeats 400000 in
theorem take_more (b n c g : Nat) (w : World) (hB : Two w g (.int .u8 b) (.int .i64 n) 40) (h : c = b) (hn : n < 5) :
    Calls Try.prog 21 #[.pointer (some ⟨g, 0, none⟩), .int .u8 c] w fun e w' => e = .returned (.int .i64 1) ∧ w' = w.setCell ⟨g, 1, none⟩ (.int .i64 ((n : Int) + 1)) := by
  subst h
  have hc0 := hB.cell0
  have hc1 := hB.cell1
  have hf0 := hB.free0
  have hf1 := hB.free1
  have h5 : decide (n = 5) = false := by simp; omega
  have CF := Lib.hid (full_any c n g w hB)
  clear hB
  go_enter Try.func21, Try.ntmps21
  go_wp2_with (go_at_call 24; (with_reducible refine CF.out.mono ?_); rintro e w' ⟨rfl, rfl⟩)
  go_ret
  exact ⟨rfl, rfl⟩

set_option maxHeartbeats 400000 in
theorem take_one (b n c g : Nat) (w : World) (hB : Two w g (.int .u8 b) (.int .i64 n) 40) (h : c ≠ b) :
    Calls Try.prog 21 #[.pointer (some ⟨g, 0, none⟩), .int .u8 c] w fun e w' => e = .returned (.int .i64 (if n = 5 then 2 else 1)) ∧ w' = (w.setCell ⟨g, 0, none⟩ (.int .u8 c)).setCell ⟨g, 1, none⟩ (.int .i64 1) := by
  have hc0 := hB.cell0
  have hc1 := hB.cell1
  have hf0 := hB.free0
  have hf1 := hB.free1
  have CF := Lib.hid (full_any b n g w hB)
  have hne : ((c : Int) == b) = false := by simp; omega
  clear hB
  by_cases h5 : n = 5
  · subst h5
    go_enter Try.func21, Try.ntmps21
    go_wp2_with (go_at_call 24; (with_reducible refine CF.out.mono ?_); rintro e w' ⟨rfl, rfl⟩)
    go_ret
    exact ⟨rfl, rfl⟩
  · have h5' : decide (n = 5) = false := by simp [h5]
    go_enter Try.func21, Try.ntmps21
    go_wp2_with (go_at_call 24; (with_reducible refine CF.out.mono ?_); rintro e w' ⟨rfl, rfl⟩)
    go_ret
    exact ⟨rfl, rfl⟩

/-- what take does, in one -/
theorem take_any (b n c g : Nat) (w : World) (hn : n ≤ 5) (hB : Two w g (.int .u8 b) (.int .i64 n) 40) :
    Calls Try.prog 21 #[.pointer (some ⟨g, 0, none⟩), .int .u8 c] w fun e w' => e = .returned (.int .i64 (B.kind (b, n) c)) ∧ Two w' g (.int .u8 (B.kn (b, n) c).1) (.int .i64 (B.kn (b, n) c).2) 40 ∧ At g w w' := by
  by_cases h : c = b
  · by_cases h5 : n = 5
    · rw [B.kind_err h h5, B.kn_err h h5]
      exact (take_err b n c g w hB h h5).mono fun e w' ⟨he, hw⟩ => ⟨he, hw ▸ hB, hw ▸ At.refl _ _⟩
    · rw [B.kind_more h h5, B.kn_more h h5]
      refine (take_more b n c g w hB h (by omega)).mono fun e w' ⟨he, hw⟩ => ⟨he, ?_, ?_⟩
      · subst hw h; exact hB.set1 _
      · subst hw; exact (At.refl g _).setCell _ _
  · have h2 : B.kind (b, n) c = if n = 5 then 2 else 1 := by unfold B.kind; rw [if_neg h]
    rw [B.kn_one h, h2]
    refine (take_one b n c g w hB h).mono fun e w' ⟨he, hw⟩ => ⟨?_, ?_, ?_⟩
    · rw [he]; by_cases h5 : n = 5
      · rw [if_pos h5, if_pos h5]; rfl
      · rw [if_neg h5, if_neg h5]; rfl
    · subst hw; exact (hB.set0 _).set1 _
    · subst hw; exact ((At.refl g _).setCell _ _).setCell _ _
end Go.Proofs.Ytagboeejegbcgaa
