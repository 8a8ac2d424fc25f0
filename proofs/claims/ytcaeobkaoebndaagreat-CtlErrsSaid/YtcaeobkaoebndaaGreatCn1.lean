/- Package count: what its functions answer of a count that may be (counts of errors t, r; or off, n rests to come). -/
import Derived.Test.YtcaeobkaoebndaaGreatJ1
import Derived.Maps.Own
import Derived.Maps.OwnOps
import Derived.Maps.OwnSet
import Derived.Maps.Views
import Derived.Outline
import Derived.StillTailTactics
namespace Go.Proofs.YtcaeobkaoebndaaGreat
open Go.RowKit Go.Lib Go.Maps

theorem bcell {W w1 : World} (hb : Below W.heap.size W w1) : (∀ b o, b < W.heap.size → w1.cell? ⟨b, o, none⟩ = W.cell? ⟨b, o, none⟩) ∧ (∀ b o, b < W.heap.size → w1.frozen? ⟨b, o, none⟩ = W.frozen? ⟨b, o, none⟩) :=
  ⟨fun b o h => hb.cell (p := ⟨b, o, none⟩) h, fun b o h => hb.frozen (p := ⟨b, o, none⟩) h⟩

theorem iserr_any (t : Nat) (w : World) (h : t ≤ 255) : Calls Tryz.prog 61 #[.int .i64 (t : Int)] w fun e w' => e = .returned (.bool true) ∧ w = w' := by
  have h' : decide ((t : Int) ≤ 255) = true := by simp; omega
  go_enter Tryz.func61, Tryz.ntmps61
  go_wp2
  go_ret
  exact ⟨rfl, rfl⟩
theorem cright_on (t r : Nat) (w : World) (ht : t ≤ 255) (hr : r ≤ 255) : Calls Tryz.prog 36 #[.agg #[.int .i64 (t : Int), .int .i64 (r : Int), .bool false, .int .i64 0]] w fun e w' => e = .returned (.bool true) ∧ w' = w.alloc (.cells #[.int .i64 (t : Int), .int .i64 (r : Int), .bool false, .int .i64 0] 29) := by
  go_enter Tryz.func36, Tryz.ntmps36
  go_wp2_with (go_at_call 61; (with_reducible refine (iserr_any _ _ (by omega)).mono ?_); rintro e w' ⟨rfl, rfl⟩)
  go_ret
  exact ⟨rfl, rfl⟩
theorem cright_off (n : Nat) (w : World) (h1 : 1 ≤ n) (hn : n ≤ 128) : Calls Tryz.prog 36 #[.agg #[.int .i64 0, .int .i64 0, .bool true, .int .i64 (n : Int)]] w fun e w' => e = .returned (.bool true) ∧ w' = w.alloc (.cells #[.int .i64 0, .int .i64 0, .bool true, .int .i64 (n : Int)] 29) := by
  have h' : decide ((n : Int) ≤ 128) = true := by simp; omega
  go_enter Tryz.func36, Tryz.ntmps36
  go_wp2
  go_ret
  exact ⟨rfl, rfl⟩
theorem cstate_off (n : Nat) (w : World) (h1 : 1 ≤ n) (hn : n ≤ 128) : Calls Tryz.prog 98 #[.agg #[.int .i64 0, .int .i64 0, .bool true, .int .i64 (n : Int)]] w fun e w' => e = .returned (.tuple #[.int .i64 3, .int .i64 0]) ∧ Below w.heap.size w w' := by
  go_enter Tryz.func98, Tryz.ntmps98
  go_wp2_with (go_at_call 36; (with_reducible refine (cright_off _ _ h1 hn).mono ?_); rintro e w1 ⟨rfl, rfl⟩)
  go_ret2
  exact ⟨rfl, ((Below.refl _ _).alloc (Nat.le_refl _) _).alloc (by simp) _⟩
def stateOn (t r : Nat) : Nat := if 127 < t ∨ 127 < r then 2 else 1
theorem cstate_on (t r : Nat) (w : World) (ht : t ≤ 255) (hr : r ≤ 255) : Calls Tryz.prog 98 #[.agg #[.int .i64 (t : Int), .int .i64 (r : Int), .bool false, .int .i64 0]] w fun e w' => e = .returned (.tuple #[.int .i64 (stateOn t r : Int), .int .i64 0]) ∧ Below w.heap.size w w' := by
  have hs : ∃ s : Nat, s = stateOn t r := ⟨_, rfl⟩
  obtain ⟨s, hs⟩ := hs
  rw [← hs]
  unfold stateOn at hs
  by_cases h1 : 127 < t
  · rw [if_pos (.inl h1)] at hs
    subst hs
    go_enter Tryz.func98, Tryz.ntmps98
    go_wp2_with (go_at_call 36; (with_reducible refine (cright_on _ _ _ ht hr).mono ?_); rintro e w1 ⟨rfl, rfl⟩)
    go_ret2
    exact ⟨rfl, ((Below.refl _ _).alloc (Nat.le_refl _) _).alloc (by simp) _⟩
  · by_cases h2 : 127 < r
    · rw [if_pos (.inr h2)] at hs
      subst hs
      go_enter Tryz.func98, Tryz.ntmps98
      go_wp2_with (go_at_call 36; (with_reducible refine (cright_on _ _ _ ht hr).mono ?_); rintro e w1 ⟨rfl, rfl⟩)
      go_ret2
      exact ⟨rfl, ((Below.refl _ _).alloc (Nat.le_refl _) _).alloc (by simp) _⟩
    · rw [if_neg (by omega)] at hs
      subst hs
      go_enter Tryz.func98, Tryz.ntmps98
      go_wp2_with (go_at_call 36; (with_reducible refine (cright_on _ _ _ ht hr).mono ?_); rintro e w1 ⟨rfl, rfl⟩)
      go_ret2
      exact ⟨rfl, ((Below.refl _ _).alloc (Nat.le_refl _) _).alloc (by simp) _⟩

/-! the map of functions -/
def fnElem (v : Value) : Option (DataW Unit × List MemPlace) := match v with
  | .func (.func f) a b => if a.size = 0 ∧ b.size = 0 then some (.lit (.int .i64 (f : Int)), []) else none
  | .nilFunc => some (.lit (.int .i64 (-1)), [])
  | _ => none
theorem fnElem_of {v : Value} {f : Nat} {ps : List MemPlace} (h : fnElem v = some (.lit (.int .i64 (f : Int)), ps)) : v = .func (.func f) #[] #[] := by
  unfold fnElem at h
  split at h
  · split at h
    · rename_i f' a b hc
      simp only [Option.some.injEq, Prod.mk.injEq, DataW.lit.injEq, Lit.int.injEq, true_and] at h
      have e1 : f' = f := Int.ofNat_inj.1 h.1
      have e2 : a = #[] := Array.eq_empty_of_size_eq_zero hc.1
      have e3 : b = #[] := Array.eq_empty_of_size_eq_zero hc.2
      rw [e1, e2, e3]
    · cases h
  · simp only [Option.some.injEq, Prod.mk.injEq, DataW.lit.injEq, Lit.int.injEq, true_and] at h
    exact absurd h.1 (by intro e; have := Int.natCast_nonneg f; rw [← e] at this; exact absurd this (by decide))
  · cases h
def fnD (f : Nat) : DataW Unit := .lit (.int .i64 (f : Int))
def stepsD : DataW Unit := ((((((((DataW.map []).put (.int .i64 1) (fnD 117)).put (.int .i64 2) (fnD 118)).put (.int .i64 3) (fnD 119)).put (.int .i64 4) (fnD 120)).put (.int .i64 5) (fnD 119)).put (.int .i64 6) (fnD 122)).put (.int .i64 7) (fnD 123))
theorem keyInt : Keyed Tryz.prog 3 := int_keyed Tryz.underlying3
theorem key_int {k : Int} (h : (Lit.int .i64 k).wf = true) : keyOf Tryz.prog 3 (.int .i64 k) = some (.int .i64 k) := keyOf_int_mk Tryz.underlying3 h
def Looks (w : World) (b : Nat) : Prop := w.ownsMap Tryz.prog 3 fnElem b 7 stepsD
theorem Looks.at_ {w : World} {b : Nat} (h : Looks w b) (k : Int) (f : Nat) (hk : (Lit.int .i64 k).wf = true) (hh : Maps.has stepsD (.int .i64 k) = true) (hd : stepsD.atKey (.int .i64 k) (.lit (.int .i64 (-1))) = fnD f) :
    (Instr.lookup 132 (.map (some b)) (.int .i64 k) true).run Tryz.prog w = .ok (.tuple #[.func (.func f) #[] #[], .bool true]) w := by
  obtain ⟨v, ps, hrun, hv⟩ := World.ownsMap.look_ok h keyInt Tryz.underlying132 (z := .nilFunc) (by kernel_rfl) (zd := .lit (.int .i64 (-1))) (zp := []) rfl (key_int hk)
  rw [hd] at hv
  rw [hrun, hh, fnElem_of hv]
theorem csteps_any (w : World) : Calls Tryz.prog 108 #[] w fun e w' => ∃ b, e = .returned (.map (some b)) ∧ Looks w' b ∧ Below w.heap.size w w' := by
  have hmm := @run_makeMap Tryz.prog
  have hput : ∀ (W : World) (n : Nat) (k : Int) (f : Nat) (D : DataW Unit), W.ownsMap Tryz.prog 3 fnElem w.heap.size n D → n < 100 → (Lit.int .i64 k).wf = true → ∃ W', (Instr.mapUpdate 132 (.map (some w.heap.size)) (.int .i64 k) (.func (.func f) #[] #[])).run Tryz.prog W = .ok () W' ∧ W'.ownsMap Tryz.prog 3 fnElem w.heap.size (n + 1) (D.put (.int .i64 k) (fnD f)) ∧ W.grownBy W' (some w.heap.size) := fun W n k f D h hn hk =>
    World.ownsMap.update h keyInt Tryz.underlying132 (by unfold maxLen; omega) (key_int hk) (by simp [fnElem, fnD]; rfl)
  have h0 : (w.alloc (.map #[] 0)).ownsMap Tryz.prog 3 fnElem w.heap.size 0 (.map []) := World.ownsMap_made _ _ _ _
  obtain ⟨w1, e1, h1, g1⟩ := hput _ 0 1 117 _ h0 (by omega) (by decide)
  obtain ⟨w2, e2, h2, g2⟩ := hput _ 1 2 118 _ h1 (by omega) (by decide)
  obtain ⟨w3, e3, h3, g3⟩ := hput _ 2 3 119 _ h2 (by omega) (by decide)
  obtain ⟨w4, e4, h4, g4⟩ := hput _ 3 4 120 _ h3 (by omega) (by decide)
  obtain ⟨w5, e5, h5, g5⟩ := hput _ 4 5 119 _ h4 (by omega) (by decide)
  obtain ⟨w6, e6, h6, g6⟩ := hput _ 5 6 122 _ h5 (by omega) (by decide)
  obtain ⟨w7, e7, h7, g7⟩ := hput _ 6 7 123 _ h6 (by omega) (by decide)
  have hb : Hid (Below w.heap.size w w7) := Lib.hid (by
    have z0 : w.heap.size ≤ (w.alloc (.map #[] 0)).heap.size := by simp
    have z1 := Nat.le_trans z0 g1.size
    have z2 := Nat.le_trans z1 g2.size
    have z3 := Nat.le_trans z2 g3.size
    have z4 := Nat.le_trans z3 g4.size
    have z5 := Nat.le_trans z4 g5.size
    have z6 := Nat.le_trans z5 g6.size
    have hr : ∀ k, some w.heap.size = some k → w.heap.size ≤ k := fun k e => by cases e; exact Nat.le_refl _
    exact (((((((((Below.refl _ _).alloc (Nat.le_refl _) _).grown g1 z0 hr).grown g2 z1 hr).grown g3 z2 hr).grown g4 z3 hr).grown g5 z4 hr).grown g6 z5 hr).grown g7 z6 hr))
  have HL : Hid (Looks w7 w.heap.size) := Lib.hid h7
  clear hput h0 h1 h2 h3 h4 h5 h6 h7 g1 g2 g3 g4 g5 g6 g7
  go_enter Tryz.func108, Tryz.ntmps108
  go_wp2
  go_ret
  exact ⟨_, rfl, HL.out, hb.out⟩
theorem Looks.keep {w w' : World} {b : Nat} (h : Looks w b) (hb : Below w.heap.size w w') : Looks w' b :=
  World.ownsMap.kept h (row := none) ⟨hb.os, hb.tape, hb.output, hb.size, fun k hk _ => hb.block k hk⟩ (by simp)
theorem sent_0 (r : Nat) (w : World) : Calls Tryz.prog 117 #[.agg #[.int .i64 0, .int .i64 (r : Int), .bool false, .int .i64 0]] w fun e w' => e = .returned (.agg #[.int .i64 0, .int .i64 (r : Int), .bool false, .int .i64 0]) ∧ Below w.heap.size w w' := by
  go_enter Tryz.func117, Tryz.ntmps117
  go_wp2
  refine bodyPost_ret (v := .agg #[.int .i64 0, .int .i64 (r : Int), .bool false, .int .i64 0]) (by simp [results, Tryz.results117, go_sem]) rfl ⟨rfl, ?_⟩
  repeat (first | exact Below.refl _ _ | refine Below.setCell ?_ (by first | (simp; done) | (simp; omega)) _ | refine Below.alloc ?_ (by first | (simp; done) | (simp; omega)) _)
theorem sent_1 (t r : Nat) (w : World) (ht : t ≤ 255) : Calls Tryz.prog 117 #[.agg #[.int .i64 ((t : Int) + 1), .int .i64 (r : Int), .bool false, .int .i64 0]] w fun e w' => e = .returned (.agg #[.int .i64 (t : Int), .int .i64 (r : Int), .bool false, .int .i64 0]) ∧ Below w.heap.size w w' := by
  go_enter Tryz.func117, Tryz.ntmps117
  go_wp2
  refine bodyPost_ret (v := .agg #[.int .i64 (t : Int), .int .i64 (r : Int), .bool false, .int .i64 0]) (by simp [results, Tryz.results117, go_sem]) rfl ⟨rfl, ?_⟩
  repeat (first | exact Below.refl _ _ | refine Below.setCell ?_ (by first | (simp; done) | (simp; omega)) _ | refine Below.alloc ?_ (by first | (simp; done) | (simp; omega)) _)
theorem came_hi (t r : Nat) (w : World) (hr : 127 < r) : Calls Tryz.prog 118 #[.agg #[.int .i64 (t : Int), .int .i64 (r : Int), .bool false, .int .i64 0]] w fun e w' => e = .returned (.agg #[.int .i64 (t : Int), .int .i64 119, .bool false, .int .i64 0]) ∧ Below w.heap.size w w' := by
  go_enter Tryz.func118, Tryz.ntmps118
  go_wp2
  refine bodyPost_ret (v := .agg #[.int .i64 (t : Int), .int .i64 119, .bool false, .int .i64 0]) (by simp [results, Tryz.results118, go_sem]) rfl ⟨rfl, ?_⟩
  repeat (first | exact Below.refl _ _ | refine Below.setCell ?_ (by first | (simp; done) | (simp; omega)) _ | refine Below.alloc ?_ (by first | (simp; done) | (simp; omega)) _)
theorem came_0 (t : Nat) (w : World) : Calls Tryz.prog 118 #[.agg #[.int .i64 (t : Int), .int .i64 0, .bool false, .int .i64 0]] w fun e w' => e = .returned (.agg #[.int .i64 (t : Int), .int .i64 0, .bool false, .int .i64 0]) ∧ Below w.heap.size w w' := by
  go_enter Tryz.func118, Tryz.ntmps118
  go_wp2
  refine bodyPost_ret (v := .agg #[.int .i64 (t : Int), .int .i64 0, .bool false, .int .i64 0]) (by simp [results, Tryz.results118, go_sem]) rfl ⟨rfl, ?_⟩
  repeat (first | exact Below.refl _ _ | refine Below.setCell ?_ (by first | (simp; done) | (simp; omega)) _ | refine Below.alloc ?_ (by first | (simp; done) | (simp; omega)) _)
set_option maxRecDepth 100000 in
theorem came_1 (t r : Nat) (w : World) (hr : r + 1 ≤ 127) : Calls Tryz.prog 118 #[.agg #[.int .i64 (t : Int), .int .i64 ((r : Int) + 1), .bool false, .int .i64 0]] w fun e w' => e = .returned (.agg #[.int .i64 (t : Int), .int .i64 (r : Int), .bool false, .int .i64 0]) ∧ Below w.heap.size w w' := by
  go_enter Tryz.func118, Tryz.ntmps118
  go_wp2
  refine bodyPost_ret (v := .agg #[.int .i64 (t : Int), .int .i64 (r : Int), .bool false, .int .i64 0]) (by simp [results, Tryz.results118, go_sem]) rfl ⟨rfl, ?_⟩
  repeat (first | exact Below.refl _ _ | refine Below.setCell ?_ (by first | (simp; done) | (simp; omega)) _ | refine Below.alloc ?_ (by first | (simp; done) | (simp; omega)) _)
set_option maxRecDepth 100000 in
theorem serr_lo (t r : Nat) (w : World) (ht : t + 8 ≤ 255) : Calls Tryz.prog 119 #[.agg #[.int .i64 (t : Int), .int .i64 (r : Int), .bool false, .int .i64 0]] w fun e w' => e = .returned (.agg #[.int .i64 ((t : Int) + 8), .int .i64 (r : Int), .bool false, .int .i64 0]) ∧ Below w.heap.size w w' := by
  go_enter Tryz.func119, Tryz.ntmps119
  go_wp2
  refine bodyPost_ret (v := .agg #[.int .i64 ((t : Int) + 8), .int .i64 (r : Int), .bool false, .int .i64 0]) (by simp [results, Tryz.results119, go_sem]) rfl ⟨rfl, ?_⟩
  repeat (first | exact Below.refl _ _ | refine Below.setCell ?_ (by first | (simp; done) | (simp; omega)) _ | refine Below.alloc ?_ (by first | (simp; done) | (simp; omega)) _)
set_option maxRecDepth 100000 in
theorem serr_hi (t r : Nat) (w : World) (ht : 255 < t + 8) (ht2 : t ≤ 255) : Calls Tryz.prog 119 #[.agg #[.int .i64 (t : Int), .int .i64 (r : Int), .bool false, .int .i64 0]] w fun e w' => e = .returned (.agg #[.int .i64 0, .int .i64 0, .bool true, .int .i64 128]) ∧ Below w.heap.size w w' := by
  go_enter Tryz.func119, Tryz.ntmps119
  go_wp2
  refine bodyPost_ret (v := .agg #[.int .i64 0, .int .i64 0, .bool true, .int .i64 128]) (by simp [results, Tryz.results119, go_sem]) rfl ⟨rfl, ?_⟩
  repeat (first | exact Below.refl _ _ | refine Below.setCell ?_ (by first | (simp; done) | (simp; omega)) _ | refine Below.alloc ?_ (by first | (simp; done) | (simp; omega)) _)
set_option maxRecDepth 100000 in
theorem cerr_lo (t r k : Nat) (w : World) (hr : r + k ≤ 255) : Calls Tryz.prog 121 #[.agg #[.int .i64 (t : Int), .int .i64 (r : Int), .bool false, .int .i64 0], .int .i64 (k : Int)] w fun e w' => e = .returned (.agg #[.int .i64 (t : Int), .int .i64 ((r : Int) + (k : Int)), .bool false, .int .i64 0]) ∧ Below w.heap.size w w' := by
  go_enter Tryz.func121, Tryz.ntmps121
  go_wp2
  refine bodyPost_ret (v := .agg #[.int .i64 (t : Int), .int .i64 ((r : Int) + (k : Int)), .bool false, .int .i64 0]) (by simp [results, Tryz.results121, go_sem]) rfl ⟨rfl, ?_⟩
  repeat (first | exact Below.refl _ _ | refine Below.setCell ?_ (by first | (simp; done) | (simp; omega)) _ | refine Below.alloc ?_ (by first | (simp; done) | (simp; omega)) _)
set_option maxRecDepth 100000 in
theorem cerr_hi (t r k : Nat) (w : World) (hr : 255 < r + k) (hr2 : r ≤ 255) (hk : k ≤ 8) : Calls Tryz.prog 121 #[.agg #[.int .i64 (t : Int), .int .i64 (r : Int), .bool false, .int .i64 0], .int .i64 (k : Int)] w fun e w' => e = .returned (.agg #[.int .i64 (t : Int), .int .i64 255, .bool false, .int .i64 0]) ∧ Below w.heap.size w w' := by
  go_enter Tryz.func121, Tryz.ntmps121
  go_wp2
  refine bodyPost_ret (v := .agg #[.int .i64 (t : Int), .int .i64 255, .bool false, .int .i64 0]) (by simp [results, Tryz.results121, go_sem]) rfl ⟨rfl, ?_⟩
  repeat (first | exact Below.refl _ _ | refine Below.setCell ?_ (by first | (simp; done) | (simp; omega)) _ | refine Below.alloc ?_ (by first | (simp; done) | (simp; omega)) _)
theorem rest_on (t r : Nat) (w : World) : Calls Tryz.prog 123 #[.agg #[.int .i64 (t : Int), .int .i64 (r : Int), .bool false, .int .i64 0]] w fun e w' => e = .returned (.agg #[.int .i64 (t : Int), .int .i64 (r : Int), .bool false, .int .i64 0]) ∧ Below w.heap.size w w' := by
  go_enter Tryz.func123, Tryz.ntmps123
  go_wp2
  refine bodyPost_ret (v := .agg #[.int .i64 (t : Int), .int .i64 (r : Int), .bool false, .int .i64 0]) (by simp [results, Tryz.results123, go_sem]) rfl ⟨rfl, ?_⟩
  repeat (first | exact Below.refl _ _ | refine Below.setCell ?_ (by first | (simp; done) | (simp; omega)) _ | refine Below.alloc ?_ (by first | (simp; done) | (simp; omega)) _)
theorem rest_1  (w : World) : Calls Tryz.prog 123 #[.agg #[.int .i64 0, .int .i64 0, .bool true, .int .i64 1]] w fun e w' => e = .returned (.agg #[.int .i64 0, .int .i64 0, .bool false, .int .i64 0]) ∧ Below w.heap.size w w' := by
  go_enter Tryz.func123, Tryz.ntmps123
  go_wp2
  refine bodyPost_ret (v := .agg #[.int .i64 0, .int .i64 0, .bool false, .int .i64 0]) (by simp [results, Tryz.results123, go_sem]) rfl ⟨rfl, ?_⟩
  repeat (first | exact Below.refl _ _ | refine Below.setCell ?_ (by first | (simp; done) | (simp; omega)) _ | refine Below.alloc ?_ (by first | (simp; done) | (simp; omega)) _)
theorem rest_2 (n : Nat) (w : World) (h1 : 1 ≤ n) (hn : n ≤ 127) : Calls Tryz.prog 123 #[.agg #[.int .i64 0, .int .i64 0, .bool true, .int .i64 ((n : Int) + 1)]] w fun e w' => e = .returned (.agg #[.int .i64 0, .int .i64 0, .bool true, .int .i64 (n : Int)]) ∧ Below w.heap.size w w' := by
  go_enter Tryz.func123, Tryz.ntmps123
  go_wp2
  refine bodyPost_ret (v := .agg #[.int .i64 0, .int .i64 0, .bool true, .int .i64 (n : Int)]) (by simp [results, Tryz.results123, go_sem]; omega) rfl ⟨rfl, ?_⟩
  repeat (first | exact Below.refl _ _ | refine Below.setCell ?_ (by first | (simp; done) | (simp; omega)) _ | refine Below.alloc ?_ (by first | (simp; done) | (simp; omega)) _)
end Go.Proofs.YtcaeobkaoebndaaGreat
