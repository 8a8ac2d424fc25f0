/- Package prio's iterator over a field's bits, and its compare (a range over a function). -/
import Derived.RangeFuncNested
import Derived.RangeFuncBound
import Derived.RangeFuncCalls
import Derived.RangeFuncLeaves
import Derived.Shelf.Abstract
import Derived.Shelf.RegionOpen
import Derived.WalkKit
import Derived.OwnWalkIn
import Derived.TacticsInMore
import Derived.LoopNIn
import Derived.LoopIn
import Derived.Outline
import Derived.Test.YthgbfidghhlldabPlain
import Derived.Test.YthgbfidghhlldabPrioF
namespace Go.Proofs.Ythgbfidghhlldab
open Go.RowKit Go.Lib Go.Shelf
attribute [local go_sem] Oper.semAt_some

set_option maxHeartbeats 1000000 in
theorem bitsOf_in (F : Fence) (n : Nat) (hf : F.fn 30) (hro : F.round = none) (s : ByteArray) (w : World) :
    CallsIn F n Try.prog 30 #[.string s] w fun e w' => e = .returned (.func (.func 42) #[] #[.pointer (some ⟨w.heap.size, 0, none⟩)]) ∧ w' = w.alloc (.cells #[.string s] 9) := by
  refine callsIn_of_wp Try.func30 rfl hf ?_ hro
  simp only [Try.ntmps30, List.size_toArray, List.length_cons, List.length_nil, Nat.reduceAdd, Nat.reduceSub, Array.replicate_succ, Array.replicate_zero, List.push_toArray, List.append_toArray, List.nil_append, List.cons_append]
  gi_wp2
  go_ret
  exact ⟨rfl, rfl⟩

set_option maxRecDepth 100000 in
set_option maxHeartbeats 2000000 in
/-- the iterator, where a round that goes on leaves the world as it was, and the bits known so far hang on the place -/
theorem bits1_at (F : Fence) (n : Nat) (hf : F.fn 42) (hro : F.round = none) (hn : 1 ≤ n) (l Bs : Nat) (s : ByteArray) (hs : s.size ≤ 1000000) (G : Nat → Prop) (X : World → Prop) (W : World)
    (hY : ∀ k (h : k < s.size), G k → YieldAt F (n - 1) Try.prog l #[.int .i64 (k : Int), .int .u8 s[k].toNat] W fun e W' =>
      (e = .returned (.bool true) ∧ W' = W ∧ G (k + 1)) ∨ (e = .returned (.bool false) ∧ X W'))
    (hBs : W.cell? ⟨Bs, 0, none⟩ = some (.string s)) (h0 : G 0) :
    CallsIn F n Try.prog 42 #[.func (.yield l) #[] #[], .pointer (some ⟨Bs, 0, none⟩)] W fun e W' => (∃ v, e = .returned v) ∧ ((W' = W ∧ G s.size) ∨ X W') := by
  refine callsIn_of_wp Try.func42 rfl hf ?_ hro
  simp only [Try.ntmps42, List.size_toArray, List.length_cons, List.length_nil, Nat.reduceAdd, Nat.reduceSub, Array.replicate_succ, Array.replicate_zero, List.push_toArray, List.append_toArray, List.nil_append, List.cons_append]
  gi_wp2
  gi_loopw [6] (fun i wr => ∃ k : Nat, k ≤ s.size ∧ i = .int .i64 k ∧ Hid (G k) ∧ Hid (wr = W) ∧ wr.cell? ⟨Bs, 0, none⟩ = some (.string s))
    (fun i _ => s.size - (intOf i).toNat)
  case atStart => exact ⟨0, Nat.zero_le _, rfl, Lib.hid h0, Lib.hid rfl, hBs⟩
  case round =>
    obtain ⟨k, hk, rfl, HG, HW, hcx⟩ := hrel
    by_cases hlt : k < s.size
    · have hq := hY k hlt HG.out
      rw [← HW.out] at hq
      obtain ⟨fn, tmps, assign, body, hy, hR⟩ := hq
      clear hBs
      gi_wp2
      refine hR.mono ?_
      rintro e W3 (⟨rfl, rfl, hG3⟩ | ⟨rfl, hJx3⟩)
      · have HG3 := Lib.hid hG3
        clear hG3
        gi_wp2
        go_roundw
        case rel => exact ⟨k + 1, by omega, by simp, HG3, HW, hcx⟩
        case measure => simp [intOf]; omega
      · gi_wp2
        refine bodyPost_ret (results_none rfl _ _ _) rfl ?_
        exact ⟨⟨_, rfl⟩, .inr hJx3⟩
    · obtain rfl : k = s.size := by omega
      gi_wp2
      go_end0
      exact ⟨⟨_, rfl⟩, .inl ⟨HW.out, HG.out⟩⟩

set_option maxHeartbeats 1000000 in
theorem isNaN_in (F : Fence) (n : Nat) (hf : F.fn 43) (hro : F.round = none) (z : UInt8) (w : World) : CallsIn F n Try.prog 43 #[.int .u8 z.toNat] w fun e w' => e = .returned (.bool false) ∧ w = w' := by
  refine callsIn_of_wp Try.func43 rfl hf ?_ hro
  simp only [Try.ntmps43, List.size_toArray, List.length_cons, List.length_nil, Nat.reduceAdd, Nat.reduceSub, Array.replicate_succ, Array.replicate_zero, List.push_toArray, List.append_toArray, List.nil_append, List.cons_append]
  gi_wp2
  go_ret
  exact ⟨by simp, rfl⟩

set_option maxHeartbeats 1000000 in
theorem cmp_in (F : Fence) (n : Nat) (hf : F.fn 31) (hg : F.fn 43) (hro : F.round = none) (hn : 1 ≤ n) (x y : UInt8) (w : World) (hne : x ≠ y) (r : Int) (hr : r = if x.toNat < y.toNat then -1 else 1) :
    CallsIn F n Try.prog 31 #[.int .u8 x.toNat, .int .u8 y.toNat] w fun e w' => e = .returned (.int .i64 r) ∧ w = w' := by
  subst hr
  have hne' : ¬ x.toNat = y.toNat := fun h => hne (UInt8.toNat_inj.1 h)
  by_cases h1 : x.toNat < y.toNat
  · rw [if_pos h1]
    refine callsIn_of_wp Try.func31 rfl hf ?_ hro
    simp only [Try.ntmps31, List.size_toArray, List.length_cons, List.length_nil, Nat.reduceAdd, Nat.reduceSub, Array.replicate_succ, Array.replicate_zero, List.push_toArray, List.append_toArray, List.nil_append, List.cons_append]
    gi_wp2_with (gi_at_call 43; refine (isNaN_in F (n - 1) hg hro _ _).mono ?_; rintro e w' ⟨rfl, rfl⟩)
    go_ret
    exact ⟨rfl, rfl⟩
  · rw [if_neg h1]
    have h2 : y.toNat < x.toNat := by omega
    refine callsIn_of_wp Try.func31 rfl hf ?_ hro
    simp only [Try.ntmps31, List.size_toArray, List.length_cons, List.length_nil, Nat.reduceAdd, Nat.reduceSub, Array.replicate_succ, Array.replicate_zero, List.push_toArray, List.append_toArray, List.nil_append, List.cons_append]
    gi_wp2_with (gi_at_call 43; refine (isNaN_in F (n - 1) hg hro _ _).mono ?_; rintro e w' ⟨rfl, rfl⟩)
    go_ret
    exact ⟨rfl, rfl⟩

theorem putObj_twice (W : World) (l : Nat) (o o' : Obj) : (W.putObj l o).putObj l o' = W.putObj l o' := by
  unfold World.putObj; simp
theorem putObj_same {W : World} {l : Nat} {o : Obj} (h : W.heap[l]? = some o) : W.putObj l o = W := by
  unfold World.putObj
  have : W.heap.setIfInBounds l o = W.heap := by
    apply Array.ext_getElem?
    intro i
    by_cases e : i = l
    · subst e
      have hl := (Array.getElem?_eq_some_iff.1 h).1
      rw [Array.getElem?_setIfInBounds_self_of_lt hl, h]
    · rw [Array.getElem?_setIfInBounds_ne (Ne.symm e)]
  rw [this]
theorem putObj_below (B0 : Nat) (W : World) (l : Nat) (o' : Obj) (h : B0 ≤ l) : Below B0 W (W.putObj l o') :=
  ⟨rfl, rfl, rfl, by simp, fun k hk => World.putObj_heap_other (by omega)⟩
theorem putObj_cell {W : World} {l : Nat} {o' : Obj} {p : Addr} (h : p.block ≠ l) : (W.putObj l o').cell? p = W.cell? p := by
  unfold World.cell?
  rw [World.putObj_heap_other h]
theorem putObj_frozen {W : World} {l : Nat} {o' : Obj} {p : Addr} (h : p.block ≠ l) : (W.putObj l o').frozen? p = W.frozen? p := by
  unfold World.frozen?
  rw [World.putObj_heap_other h]

/-- how a round is left that writes nothing, or returns -/
def stillPost (B0 : Nat) (G' : Prop) (X : World → Prop) (W : World) : Exit → Act → World → Prop
  | .normal, _, W' => W' = W ∧ G'
  | .ret, _, W' => KeepsFrom B0 W W' ∧ X W'
  | .exit _, _, _ => False
  | .goto _, _, _ => False
  | .panic _, _, _ => False
  | .outgrown, _, _ => False

/-- a range over a function whose rounds leave the world as it was, or return; what is known hangs on the round's number -/
theorem rangeFunc_still {F : Fence} {n : Nat} {P : Program} {g : Operand} {ps : Array Tmp} {assign body : Code} {Q : Exit → Act → World → Prop} {a : Act} {w : World}
    (hro : F.round = none) (h1 : 1 ≤ n) {gf : Nat} {lb : Array Value} (hg : a.eval g = .func (.func gf) #[] lb) (hFg : F.fn gf) (eg : ∀ args w, (callFunc gf args).run P w = .ok (.enter gf args) w)
    (N : Nat) (args : Nat → Array Value) (hps : ∀ k, (args k).size = ps.size) (G : Nat → Prop) (X : World → Prop) (hX : ∀ W l o, w.heap.size ≤ l → X W → X (W.putObj l o))
    (hseq : ∀ (l : Nat) (W : World) (Y : World → Prop), Below w.heap.size w W →
      (∀ k, k < N → G k → YieldAt F (n - 1 - 1) P l (args k) W fun e W' => (e = .returned (.bool true) ∧ W' = W ∧ G (k + 1)) ∨ (e = .returned (.bool false) ∧ Y W')) → G 0 →
      CallsIn F (n - 1) P gf (#[.func (.yield l) #[] #[]] ++ lb) W fun e W' => (∃ v, e = .returned v) ∧ ((W' = W ∧ G N) ∨ Y W'))
    (a₁ : Nat → Act)
    (hassign : ∀ (l k : Nat) (W : World) (K : Act → World → Prop), K (a₁ k) W →
      assign.wpIn (F.inRound l) (n - 1 - 1) P (Exit.then K (fun _ _ _ => False)) { tmps := (ps.zip (args k)).foldl (fun t (p, v) => t.setIfInBounds p v) a.tmps, defers := [] } W)
    (hbody : ∀ (l k : Nat) (W : World), Below w.heap.size w W → k < N → G k → body.wpIn (F.inRound l) (n - 1 - 1) P (stillPost w.heap.size (G (k + 1)) X W) (a₁ k) W)
    (h0 : G 0)
    (hdone : ∀ (D : Nat) (W : World), w.heap.size ≤ D → G N → Below w.heap.size w W → W.heap[D]? = some (.deferred (some [])) → Q .normal { a with defers := { target := .collected D, args := #[] } :: a.defers } W)
    (hstop : ∀ (D : Nat) (W : World), w.heap.size ≤ D → X W → W.heap[D]? = some (.deferred (some [])) → Code.ret.wpIn F n P Q { a with defers := { target := .collected D, args := #[] } :: a.defers } W) :
    (Code.rangeFunc g ps assign body).wpIn F n P Q a w := by
  refine wpIn_rangeFunc ?_
  intro fn hfn
  rw [hro]
  obtain ⟨rc, hrc⟩ : ∃ rc : LoopState → Option Code → Loop, rc = fun st pe => { state := st, pending := pe, fn, tmps := a.tmps, params := ps, assign, body, defers := w.heap.size } := ⟨_, rfl⟩
  obtain ⟨W1, hW1⟩ : ∃ W1, W1 = (w.alloc (.deferred (some []))).alloc (.loop (rc .ready none)) := ⟨_, rfl⟩
  have hl : W1.heap[w.heap.size + 1]? = some (.loop (rc .ready none)) := by
    rw [hW1]; have := World.alloc_heap_new (w.alloc (.deferred (some []))) (.loop (rc .ready none)); rwa [World.size_alloc] at this
  have hd : W1.heap[w.heap.size]? = some (.deferred (some [])) := by
    rw [hW1]; exact (Below.heap_alloc _ _ _ (by simp)).trans (World.alloc_heap_new w _)
  have hb : Below w.heap.size w W1 := by rw [hW1]; exact ((Below.refl _ w).alloc (Nat.le_refl _) _).alloc (by simp) _
  have hlt : w.heap.size + 1 < W1.heap.size := (Array.getElem?_eq_some_iff.1 hl).1
  refine ⟨w.heap.size + 1, [{ target := .collected w.heap.size, args := #[] }], W1, { target := .fn (.func gf) lb, args := #[.func (.yield (w.heap.size + 1)) #[] #[]] }, W1, gf,
    #[.func (.yield (w.heap.size + 1)) #[] #[]] ++ lb, W1, ?_, ?_, ?_, ?_, fun _ => h1, ?_⟩
  · rw [hW1, hrc]; exact run_enterLoop_outer _ _ _ _ _
  · simp only [resolve, hg]
    simp [go_sem]
  · intro f' hf'; simp [Target.leads] at hf'; subst hf'; exact hFg
  · simp [invoke, go_sem, eg]
  refine (hseq (w.heap.size + 1) W1 (fun W => X W ∧ W.heap[w.heap.size + 1]? = some (.loop (rc .done (some .ret))) ∧ W.heap[w.heap.size]? = some (.deferred (some []))) hb ?_ h0).mono ?_
  · intro k hk hG
    have hy := run_yield (P := P) (args := args k) hl (by rw [hrc]; exact hps k)
    rw [hrc] at hy
    refine ⟨fn, _, assign, body, hy, roundIn_of_wpIn hfn (hassign _ k W1 _ ⟨_, run_beginRound hl (by rw [hrc]), ?_⟩)⟩
    have hl2 : (W1.putObj (w.heap.size + 1) (.loop { rc .ready none with state := .busy })).heap[w.heap.size + 1]? = some (.loop { rc .ready none with state := .busy }) := World.putObj_heap_same hlt
    refine wpIn_mono (hbody _ k _ (hb.trans (putObj_below _ _ _ _ (by omega))) hk hG) ?_
    rintro e a3 W3 hp
    cases e with
    | normal =>
      obtain ⟨rfl, hG3⟩ := hp
      refine ⟨_, _, run_endRound none hl2, .inl ⟨rfl, ?_, hG3⟩⟩
      rw [putObj_twice]
      refine Eq.trans ?_ (putObj_same hl)
      rw [hrc]; rfl
    | ret =>
      obtain ⟨hk3, hX3⟩ := hp
      have hl3 := hk3.same _ _ (by omega) hl2 rfl
      refine ⟨_, _, run_endRound (some .ret) hl3, .inr ⟨rfl, hX _ _ _ (by omega) hX3, ?_, ?_⟩⟩
      · refine (World.putObj_heap_same (Array.getElem?_eq_some_iff.1 hl3).1).trans ?_
        rw [hrc]; rfl
      · exact (World.putObj_heap_other (by omega)).trans (hk3.same _ _ (Nat.le_refl _) ((World.putObj_heap_other (by omega)).trans hd) rfl)
    | exit id => exact hp.elim
    | goto t => exact hp.elim
    | panic ch => exact hp.elim
    | outgrown => exact hp.elim
  · rintro e W2 ⟨⟨v, rfl⟩, (⟨rfl, hG⟩ | ⟨hX2, hl2, hd2⟩)⟩
    · have he := run_endLoop (P := P) hl (by rw [hrc]; simp)
      rw [hrc] at he
      exact ⟨none, _, he, hdone _ _ (Nat.le_refl _) hG (hb.trans (putObj_below _ _ (w.heap.size + 1) _ (by omega))) ((World.putObj_heap_other (by omega)).trans hd)⟩
    · have he := run_endLoop (P := P) hl2 (by rw [hrc]; simp)
      rw [hrc] at he
      exact ⟨some .ret, _, he, hstop _ _ (Nat.le_refl _) (hX _ (w.heap.size + 1) _ (by omega) hX2) ((World.putObj_heap_other (by omega)).trans hd2)⟩

set_option maxRecDepth 100000 in
set_option maxHeartbeats 4000000 in
theorem compare_in (F : Fence) (n : Nat) (h1 : F.fn 20) (h2 : F.fn 30) (h3 : F.fn 42) (h4 : F.fn 31) (h5 : F.fn 43) (hro : F.round = none) (hn : 5 ≤ n) (a b : ByteArray) (w : World) (ha : a.data.toList.all B.okc = true) (hb : b.data.toList.all B.okc = true) (hs : a.size ≤ 32) (hp : B.firstD a.data.toList b.data.toList = none → a.size ≤ b.size) :
    CallsIn F n Try.prog 20 #[.string a, .string b] w fun e w' => e = .returned (.int .i64 (B.cmpL a.data.toList b.data.toList)) ∧ Below w.heap.size w w' := by
  have hn1 : 1 ≤ n := by omega
  refine callsIn_of_wp_marks Try.func20 rfl h1 ?_ hro
  simp only [Try.ntmps20, List.size_toArray, List.length_cons, List.length_nil, Nat.reduceAdd, Nat.reduceSub, Array.replicate_succ, Array.replicate_zero, List.push_toArray, List.append_toArray, List.nil_append, List.cons_append]
  gi_wp2_with (gi_at_call 30; refine (bitsOf_in F (n - 1) h2 hro _ _).mono ?_; rintro e w' ⟨rfl, rfl⟩)
  obtain ⟨W0, hW0⟩ : ∃ W0, ((w.alloc (.cells #[.string b] 9)).alloc (.cells #[.int .i64 0] 3)).alloc (.cells #[.string a] 9) = W0 := ⟨_, rfl⟩
  have b0 : Boxed W0 w.heap.size 9 (.string b) := by rw [← hW0]; exact ((Boxed.new w _ _).alloc _).alloc _
  have b1 : Boxed W0 (w.heap.size + 1) 3 (.int .i64 0) := by
    rw [← hW0]; have := Boxed.new (w.alloc (.cells #[.string b] 9)) 3 (.int .i64 0); rw [World.size_alloc] at this; exact this.alloc _
  have b2 : Boxed W0 (w.heap.size + 2) 9 (.string a) := by
    rw [← hW0]; have := Boxed.new ((w.alloc (.cells #[.string b] 9)).alloc (.cells #[.int .i64 0] 3)) 9 (.string a); rw [World.size_alloc, World.size_alloc] at this; exact this
  have hz : W0.heap.size = w.heap.size + 3 := by rw [← hW0]; simp
  have hB0 : Below w.heap.size w W0 := by rw [← hW0]; exact (((Below.refl _ w).alloc (Nat.le_refl _) _).alloc (by simp) _).alloc (by simp; omega) _
  rw [hW0]
  obtain ⟨bt, hbt⟩ : ∃ bt : Nat → UInt8, bt = fun k => a.data.toList.getD k 0 := ⟨_, rfl⟩
  have hbk : ∀ k (h : k < a.size), bt k = a[k] := fun k hk => by
    rw [hbt]
    show a.data.toList.getD k 0 = _
    rw [List.getD_eq_getElem?_getD, List.getElem?_eq_getElem (by rw [B.size_len]; exact hk), Option.getD_some]; rfl
  clear hbt
  refine rangeFunc_still hro hn1 (gf := 42) (lb := #[.pointer (some ⟨w.heap.size + 1 + 1, 0, none⟩)]) (by simp [go_sem]) h3 (enters_of Try.func42 (by kernel_rfl) rfl)
    a.size (fun k => #[.int .i64 (k : Int), .int .u8 (bt k).toNat]) (fun _ => rfl) (fun k => Hid (a.data.toList.take k = b.data.toList.take k))
    (fun W => W.cell? ⟨w.heap.size + 1, 0, none⟩ = some (.int .i64 (B.cmpL a.data.toList b.data.toList)) ∧ Below w.heap.size w W)
    (fun W l o hl hx => ⟨(putObj_cell (by show w.heap.size + 1 ≠ l; omega)).trans hx.1, hx.2.trans (putObj_below _ _ _ _ (by omega))⟩)
    ?seq (fun k => { tmps := #[.string a, .string b, undef, .pointer (some ⟨w.heap.size, 0, none⟩), .pointer (some ⟨w.heap.size + 1, 0, none⟩), .int .i64 k, .int .u8 (bt k).toNat, .string a, .func (.func 42) #[] #[.pointer (some ⟨w.heap.size + 1 + 1, 0, none⟩)], .int .i64 k, .int .u8 (bt k).toNat, undef, undef, undef, undef, undef, undef, undef, undef, undef, undef], defers := [] }) ?assign ?body (Lib.hid rfl) ?done ?stop
  case seq =>
    intro l W Y hb hY h0
    refine bits1_at F (n - 1) h3 hro (by omega) l (w.heap.size + 1 + 1) a (by omega) (fun k => Hid (a.data.toList.take k = b.data.toList.take k)) Y W ?_ ((hb.cell (p := ⟨w.heap.size + 2, 0, none⟩) b2.lt).trans b2.cell) h0
    intro k hk hG
    have := hY k hk hG
    rw [hbk k hk] at this
    exact this
  case assign =>
    intro l k W K hK
    gi_wp2
    exact hK
  case body =>
    intro l k W hbW hk hG
    have hkb : k < b.size := by
      rcases Nat.lt_or_ge k b.size with h | h
      · exact h
      · have := hp (B.firstD_none hG.out (.inr (by rw [B.size_len]; exact h))); omega
    have c0 : W.cell? ⟨w.heap.size, 0, none⟩ = some (.string b) := (hbW.cell (p := ⟨w.heap.size, 0, none⟩) b0.lt).trans b0.cell
    have d0 : W.cell? ⟨w.heap.size + 1, 0, none⟩ = some (.int .i64 0) := (hbW.cell (p := ⟨w.heap.size + 1, 0, none⟩) b1.lt).trans b1.cell
    have f0 : W.frozen? ⟨w.heap.size + 1, 0, none⟩ = false := (hbW.frozen (p := ⟨w.heap.size + 1, 0, none⟩) b1.lt).trans b1.frozen
    have hzW := hbW.size
    have HBW := Lib.hid (hB0.trans (hbW.mono (by omega)))
    by_cases he : a[k] = b[k]
    · have HN := Lib.hid (take_next hk hkb hG.out he)
      have e : bt k = b[k] := (hbk k hk).trans he
      rw [e]
      clear e he hbW hp hbk hW0
      gi_wp2
      exact ⟨rfl, HN⟩
    · have hfd := B.firstD_at (k := k) (by rw [B.size_len]; exact hk) (by rw [B.size_len]; exact hkb) hG.out he
      have hC := (B.cmpL_at ha hb hfd (bt k) b[k] (by
          rw [hbk k hk, List.getD_eq_getElem?_getD, List.getElem?_eq_getElem (by rw [B.size_len]; exact hk), Option.getD_some]; rfl) (by
          rw [List.getD_eq_getElem?_getD, List.getElem?_eq_getElem (by rw [B.size_len]; exact hkb), Option.getD_some]; rfl))
      have hne : bt k ≠ b[k] := by rw [hbk k hk]; exact he
      have hne' : ¬ (bt k).toNat = b[k].toNat := fun h => hne (UInt8.toNat_inj.1 h)
      obtain ⟨y, hy⟩ : ∃ y, b[k] = y := ⟨_, rfl⟩
      obtain ⟨x, hx⟩ : ∃ x, bt k = x := ⟨_, rfl⟩
      rw [hy, hx] at hne hC hne'
      rw [hx]
      have hn2 : 1 ≤ n - 1 - 1 := by omega
      clear he hfd hbW hp hbk hx hW0 hG
      obtain ⟨r, hr⟩ : ∃ r : Int, r = (if x.toNat < y.toNat then -1 else 1) := ⟨_, rfl⟩
      rw [← hr] at hC
      have HC := Lib.hid hC
      have HR := Lib.hid hr
      clear hC hr
      gi_wp2_with (gi_at_call 31; refine (CallsIn.inRound l (cmp_in F _ h4 h5 hro (by omega) _ _ _ hne r HR.out)).mono ?_; rintro e w' ⟨rfl, rfl⟩)
      exact ⟨(KeepsOthers.setCell _ _ _).from _, by rw [HC.out]; exact World.cell?_setCell_same' _ _ _ (by rw [d0]; rfl), HBW.out.setCell (p := ⟨w.heap.size + 1, 0, none⟩) (by show w.heap.size ≤ w.heap.size + 1; omega) _⟩
  case done =>
    intro D W hD hG hbW hdW
    have HC := Lib.hid (show B.cmpL a.data.toList b.data.toList = 0 by
      unfold B.cmpL
      rw [B.firstD_none hG.out (.inl (by rw [B.size_len]; exact Nat.le_refl _))])
    have d0 : W.cell? ⟨w.heap.size + 1, 0, none⟩ = some (.int .i64 0) := (hbW.cell (p := ⟨w.heap.size + 1, 0, none⟩) b1.lt).trans b1.cell
    have f0 : W.frozen? ⟨w.heap.size + 1, 0, none⟩ = false := (hbW.frozen (p := ⟨w.heap.size + 1, 0, none⟩) b1.lt).trans b1.frozen
    have HB := Lib.hid (((hB0.trans (hbW.mono (by omega))).setCell (p := ⟨w.heap.size + 1, 0, none⟩) (by show w.heap.size ≤ w.heap.size + 1; omega) (.int .i64 0)).trans (putObj_below w.heap.size (W.setCell ⟨w.heap.size + 1, 0, none⟩ (.int .i64 0)) D (.deferred none) (by omega)))
    have hdW' := (KeepsOthers.setCell W ⟨w.heap.size + 1, 0, none⟩ (.int .i64 0)).same D _ hdW rfl
    have hc5 : ((W.setCell ⟨w.heap.size + 1, 0, none⟩ (.int .i64 0)).putObj D (.deferred none)).cell? ⟨w.heap.size + 1, 0, none⟩ = some (.int .i64 0) :=
      (putObj_cell (by show w.heap.size + 1 ≠ D; omega)).trans (World.cell?_setCell_same' _ _ _ (by rw [d0]; rfl))
    clear hbW hW0 hp hbk hG
    gi_wp2
    refine ⟨by simp, .inl ⟨_, _, rfl, run_takeDeferred hdW', .int .i64 0, ?_, by rw [HC.out], HB.out⟩⟩
    simp [results, Try.f20, go_sem, hc5]
  case stop =>
    rintro D W hD ⟨hc, hbW⟩ hdW
    have HB := Lib.hid (hbW.trans (putObj_below w.heap.size W D (.deferred none) (by omega)))
    obtain ⟨r, hr⟩ : ∃ r, B.cmpL a.data.toList b.data.toList = r := ⟨_, rfl⟩
    rw [hr] at hc
    have HR := Lib.hid hr
    have hc5 : (W.putObj D (.deferred none)).cell? ⟨w.heap.size + 1, 0, none⟩ = some (.int .i64 r) := (putObj_cell (by show w.heap.size + 1 ≠ D; omega)).trans hc
    clear hr hbW hW0 hp hbk
    gi_wp2
    refine ⟨by simp, .inl ⟨_, _, rfl, run_takeDeferred hdW, .int .i64 r, ?_, by rw [HR.out], HB.out⟩⟩
    simp [results, Try.f20, go_sem, hc5]

set_option maxHeartbeats 1000000 in
theorem compare_any (a b : ByteArray) (w : World) (ha : a.data.toList.all B.okc = true) (hb : b.data.toList.all B.okc = true) (hs : a.size ≤ 32) (hp : B.firstD a.data.toList b.data.toList = none → a.size ≤ b.size) :
    Calls Try.prog 20 #[.string a, .string b] w fun e w' => e = .returned (.int .i64 (B.cmpL a.data.toList b.data.toList)) ∧ Below w.heap.size w w' :=
  callsIn_wide.1 (compare_in Fence.wide 5 trivial trivial trivial trivial trivial rfl (Nat.le_refl _) a b w ha hb hs hp)
end Go.Proofs.Ythgbfidghhlldab
