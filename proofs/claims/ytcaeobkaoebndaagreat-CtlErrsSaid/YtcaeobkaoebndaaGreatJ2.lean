/- Own texts joined: Two RefOf Ref4a. -/
import Derived.Test.YtcaeobkaoebndaaGreatJ1
import Derived.OneCell
import Derived.Lib.Strings
import Derived.Test.YtcaeobkaoebndaaGreatRows
import Derived.WalkKit
import Derived.WalkSpells
import Derived.WalkLawsBesides
import Derived.Deep.QuietTactic
import Derived.BigQuiet
import Derived.WalkSmall
import Derived.Deep.AppendLies
import Derived.Test.YtcaeobkaoebndaaGreatPlain
/- Two -/
namespace Go.Proofs.YtcaeobkaoebndaaGreat
open Go.RowKit Go.Lib

theorem Tryz.infoU8 : (Tryz.prog.info? 5).map (fun i => (i.zero, i.size, i.bytes)) = some (some (.int .u8 0), 1, 1) := by kernel_rfl
/-- a block of two cells -/
def Two (w : World) (g : Nat) (u v : Value) (t : TypeId) : Prop := w.heap[g]? = some (.cells #[u, v] t (0, 0))
theorem Two.cell0 {w : World} {g : Nat} {u v : Value} {t : TypeId} (h : Two w g u v t) : w.cell? ⟨g, 0, none⟩ = some u := by simp [World.cell?, show w.heap[g]? = _ from h]
theorem Two.cell1 {w : World} {g : Nat} {u v : Value} {t : TypeId} (h : Two w g u v t) : w.cell? ⟨g, 1, none⟩ = some v := by simp [World.cell?, show w.heap[g]? = _ from h]
theorem Two.free0 {w : World} {g : Nat} {u v : Value} {t : TypeId} (h : Two w g u v t) : w.frozen? ⟨g, 0, none⟩ = false := by simp [World.frozen?, show w.heap[g]? = _ from h]
theorem Two.free1 {w : World} {g : Nat} {u v : Value} {t : TypeId} (h : Two w g u v t) : w.frozen? ⟨g, 1, none⟩ = false := by simp [World.frozen?, show w.heap[g]? = _ from h]
theorem Two.lt {w : World} {g : Nat} {u v : Value} {t : TypeId} (h : Two w g u v t) : g < w.heap.size := lt_of_block h
theorem Two.set0 {w : World} {g : Nat} {u v : Value} {t : TypeId} (h : Two w g u v t) (x : Value) : Two (w.setCell ⟨g, 0, none⟩ x) g x v t := by
  have hlt := h.lt
  have h' : w.heap[g] = .cells #[u, v] t (0, 0) := by simpa [Array.getElem?_eq_getElem hlt] using (show w.heap[g]? = _ from h)
  show (w.heap.modify g _)[g]? = _
  rw [Array.getElem?_eq_getElem (by simpa using hlt), Array.getElem_modify_self, h']
  rfl
theorem Two.set1 {w : World} {g : Nat} {u v : Value} {t : TypeId} (h : Two w g u v t) (x : Value) : Two (w.setCell ⟨g, 1, none⟩ x) g u x t := by
  have hlt := h.lt
  have h' : w.heap[g] = .cells #[u, v] t (0, 0) := by simpa [Array.getElem?_eq_getElem hlt] using (show w.heap[g]? = _ from h)
  show (w.heap.modify g _)[g]? = _
  rw [Array.getElem?_eq_getElem (by simpa using hlt), Array.getElem_modify_self, h']
  rfl
theorem two_new (w : World) (u v : Value) (t : TypeId) : Two (w.alloc (.cells #[u, v] t)) w.heap.size u v t := heap_alloc_new _ _
/-- nothing but block g has changed -/
structure At (g : Nat) (w w' : World) : Prop where
  os : w'.os = w.os
  tape : w'.tape = w.tape
  output : w'.output = w.output
  size : w'.heap.size = w.heap.size
  block : ∀ k, k ≠ g → w'.heap[k]? = w.heap[k]?
theorem At.refl (g : Nat) (w : World) : At g w w := ⟨rfl, rfl, rfl, rfl, fun _ _ => rfl⟩
theorem At.setCell {g : Nat} {a w : World} (h : At g a w) (i : Nat) (u : Value) : At g a (w.setCell ⟨g, i, none⟩ u) := by
  refine ⟨h.os, h.tape, h.output, ?_, fun k hk => ?_⟩
  · rw [← h.size]; show (w.heap.modify g _).size = _; simp
  · rw [Below.heap_setCell _ _ _ _ (by simpa using hk)]; exact h.block k hk
theorem At.below {g : Nat} {w w' : World} (h : At g w w') : Below g w w' := ⟨h.os, h.tape, h.output, by rw [h.size]; exact Nat.le_refl _, fun k hk => h.block k (by omega)⟩
theorem At.owns {g base : Nat} {w w' : World} {e : TypeId} {size : Nat} {v : Value} {n : Nat} {xs : List Value} (h : At g w w') (ho : w.ownsRow base e size v n xs) (hg : g < base) : w'.ownsRow base e size v n xs := by
  obtain ⟨h1, h2⟩ := ho
  refine ⟨h1, ?_⟩
  rcases h2 with h2 | ⟨b, cap, cur, hv, hb, hh, r⟩
  · exact Or.inl h2
  · exact Or.inr ⟨b, cap, cur, hv, hb, by rw [h.block b (by omega)]; exact hh, r⟩
theorem Two.alloc {w : World} {g : Nat} {u v : Value} {t : TypeId} (h : Two w g u v t) (o : Obj) : Two (w.alloc o) g u v t := by
  show (w.alloc o).heap[g]? = _
  rw [Below.heap_alloc _ _ _ h.lt]; exact h
theorem Two.drew {w : World} {g : Nat} {u v : Value} {t : TypeId} (h : Two w g u v t) : Two w.drew g u v t := h
theorem Two.below {w w' : World} {B g : Nat} {u v : Value} {t : TypeId} (h : Two w g u v t) (hb : Below B w w') (hg : g < B) : Two w' g u v t := by
  show w'.heap[g]? = _
  rw [hb.block g hg]; exact h
theorem two_new' (w : World) (u v : Value) (t : TypeId) (k : Nat) (hk : k = w.heap.size) : Two (w.alloc (.cells #[u, v] t)) k u v t := by subst hk; exact two_new _ _ _ _
theorem cell_new {w : World} {p : Addr} {v : Value} (h : w.cell? p = some v) : ∀ o, (w.alloc o).cell? p = some v := fun o => by
  rw [World.cell?_alloc_lt _ _ _ (cell_lt h)]; exact h
theorem Two.keep {w w' : World} {g : Nat} {u v : Value} {t : TypeId} (h : Two w g u v t) (k : Below w.heap.size w w') : Two w' g u v t := h.below k h.lt
theorem two_other {w wa : World} {B0 g i : Nat} {u a b : Value} {t : TypeId} (h1 : Below B0 w wa) (h4 : Two wa B0 a b t) (hg : B0 < g) :
    Below B0 w (wa.setCell ⟨g, i, none⟩ u) ∧ (wa.setCell ⟨g, i, none⟩ u).cell? ⟨B0, 0, none⟩ = some a ∧ (wa.setCell ⟨g, i, none⟩ u).cell? ⟨B0, 1, none⟩ = some b ∧ Two (wa.setCell ⟨g, i, none⟩ u) B0 a b t := by
  have hne : B0 ≠ g := by omega
  have h4' : Two (wa.setCell ⟨g, i, none⟩ u) B0 a b t := by
    show (wa.setCell ⟨g, i, none⟩ u).heap[B0]? = _
    rw [Below.heap_setCell _ _ _ _ hne]; exact h4
  exact ⟨h1.setCell (show B0 ≤ g by omega) _, h4'.cell0, h4'.cell1, h4'⟩
theorem B.out_snoc (d : List UInt8) (s : ByteArray) (k : Nat) (h : k < s.size) : (⟨d.toArray⟩ : ByteArray) ++ s.extract k (k + 1) = ⟨(d ++ [s[k]]).toArray⟩ := by
  apply ByteArray.ext; apply Array.ext'
  rw [B.cat_list, Lib.extract_data]
  have e : List.take (k + 1 - k) (List.drop k s.data.toList) = [s[k]] := by
    rw [List.drop_eq_getElem_cons (by simpa using h), show k + 1 - k = 1 from by omega]; rfl
  rw [e]
theorem below_drewN {B : Nat} {a w : World} (h : Below B a w) (n : Nat) : Below B a (w.drewN n) := ⟨h.os, h.tape, h.output, h.size, h.block⟩
abbrev B.vals (l : List UInt8) : List Value := l.map fun c => Value.int .u8 c.toNat
theorem B.vals_snoc (l : List UInt8) (c : UInt8) : B.vals l ++ [.int .u8 c.toNat] = B.vals (l ++ [c]) := by simp
theorem append_below {w1 w2 : World} {B0 : Nat} {row : Option Nat} {o : Obj} (hs : B0 ≤ w1.heap.size) (hgrow : (w1.alloc o).grownBy w2 row) (hr : ∀ k, row = some k → B0 ≤ k) : Below B0 w1 w2 :=
  ((Below.refl _ _).alloc hs _).grown hgrow (by simp; omega) hr
theorem cell_of_new (w : World) (t : TypeId) (v : Value) (j : Nat) (u : Value) (h : [v][j]? = some u) : (w.alloc (.cells #[v] t)).cell? ((⟨w.heap.size, 0, none⟩ : Addr).add j) = some u := by
  match j, h with
  | 0, h => simp at h; subst h; simp [Addr.add]
theorem byte_oneCell (n : Int) (u : Value) (h : u ∈ [Value.int .u8 n]) : u.oneCell' = true := by simp at h; subst h; rfl
theorem getElem_of (l : List UInt8) (i : Nat) (h : i < (⟨l.toArray⟩ : ByteArray).size) : (⟨l.toArray⟩ : ByteArray)[i] = l[i]'(by simpa [ByteArray.size] using h) := by
  show l.toArray[i] = _
  simp
theorem size_of (l : List UInt8) : (⟨l.toArray⟩ : ByteArray).size = l.length := by simp [ByteArray.size]
theorem val_i64 {a b : Int} (h : a = b) : Value.int .i64 a = .int .i64 b := by rw [h]
theorem cat_one (l : List UInt8) (d : UInt8) : (⟨l.toArray⟩ : ByteArray) ++ ⟨#[d]⟩ = ⟨(l ++ [d]).toArray⟩ := by
  apply ByteArray.ext; apply Array.ext'
  rw [B.cat_list]
theorem of_list (s : ByteArray) : (⟨s.data.toList.toArray⟩ : ByteArray) = s := by
  apply ByteArray.ext; simp
theorem list_of (l : List UInt8) : (⟨l.toArray⟩ : ByteArray).data.toList = l := by simp
theorem right_of_all {s : ByteArray} (h : s.size ≤ 4000) (ha : s.data.toList.all B.okc = true) : B.right s = true := by
  unfold B.right; rw [ha]; simp [h]
theorem makeFunc_run : ∀ (fn : Fn) (first cap : Array Value) (w : World), (Instr.makeFunc fn first cap).run Tryz.prog w = .ok (.func fn first cap) w := fun _ _ _ _ => rfl
end Go.Proofs.YtcaeobkaoebndaaGreat

/- RefOf -/
namespace Go.Proofs.YtcaeobkaoebndaaGreat
open Go.RowKit Go.Lib

set_option maxRecDepth 100000 in
set_option maxHeartbeats 400000 in
theorem refof_any (n k : Nat) (w : World) (hk : k ≤ 64) (hn : n < 18446744073709551616) :
    Calls Tryz.prog 44 #[.int .u64 n, .int .i64 k] w fun e w' => e = .returned (.string (B.ofn n k)) ∧ w = w' := by
  go_enter Tryz.func44, Tryz.ntmps44
  go_wp2
  go_loop [0, 5, 6] (fun m o i => ∃ j : Nat, j ≤ k ∧ i = .int .i64 j ∧ m = .int .u64 (n / 2 ^ j : Nat) ∧ o = .string (B.ofn n j)) (fun _ _ i => k - (intOf i).toNat)
  case atStart => exact ⟨0, Nat.zero_le _, rfl, by simp, rfl⟩
  case round =>
    obtain ⟨j, hj, rfl, rfl, rfl⟩ := hrel
    obtain ⟨m, hm⟩ : ∃ m, n / 2 ^ j = m := ⟨_, rfl⟩
    have hml : m ≤ n := by rw [← hm]; exact Nat.div_le_self _ _
    have hm2 : n / 2 ^ (j + 1) = m / 2 := by rw [Nat.pow_succ, ← Nat.div_div_eq_div_mul, hm]
    have hz := B.ofn_size n j
    rw [hm]
    have H1 := Lib.hid hm
    have H2 := Lib.hid hm2
    have hz1 : (B.ofn n j).size ≤ 64 := by omega
    clear hm hm2 hz
    by_cases hlt : j < k
    · rcases Nat.mod_two_eq_zero_or_one m with h1 | h1
      · have hs := Lib.hid (B.ofn_zero (n := n) (k := j) (by rw [H1.out]; exact h1))
        have ht : ((m : Int) % 2 == 1) = false := by simp; omega
        clear h1
        go_wp2
        go_round
        case rel => exact ⟨j + 1, by omega, by go_num, val_u64 (by rw [H2.out]; omega), val_str hs.out⟩
        case measure => simp [intOf]; omega
      · have hs := Lib.hid (B.ofn_one (n := n) (k := j) (by rw [H1.out]; exact h1))
        have ht : ((m : Int) % 2 == 1) = true := by simp; omega
        clear h1
        go_wp2
        go_round
        case rel => exact ⟨j + 1, by omega, by go_num, val_u64 (by rw [H2.out]; omega), val_str hs.out⟩
        case measure => simp [intOf]; omega
    · go_wp2
      go_ret
      exact ⟨ret_str1 (by rw [show k = j from by omega]), rfl⟩
end Go.Proofs.YtcaeobkaoebndaaGreat

/- Ref4a -/
namespace Go.Proofs.YtcaeobkaoebndaaGreat
open Go.RowKit Go.Lib

def B.frI (id : Nat) (ext rem : Bool) (dlc : Int) (n : Nat) : Bool := decide (0 ≤ dlc ∧ dlc ≤ 8) && (if rem then decide (n = 0) else decide ((n : Int) = dlc)) && decide (id < if ext then 536870912 else 2048)
/-- a frame's cells -/
abbrev frV (id : Nat) (ext rem : Bool) (dlc : Int) (data : ByteArray) : Array Value := #[.int .u32 id, .bool ext, .bool rem, .int .i64 dlc, .string data]

theorem toList_nil (d : ByteArray) : d.toList = [] ↔ d.size = 0 := by
  rw [ByteArray.toList_eq, ← List.length_eq_zero_iff, B.size_len]

set_option maxHeartbeats 1000000 in
theorem refright4_any (id : Nat) (ext rem : Bool) (dlc : Int) (data : ByteArray) (w : World) :
    Calls Tryz.prog 9 #[.agg (frV id ext rem dlc data)] w fun e w' => e = .returned (.bool (B.frI id ext rem dlc data.size)) ∧ w' = w.alloc (.cells (frV id ext rem dlc data) 24) := by
  by_cases h1 : dlc < 0
  · have hR := Lib.hid (show B.frI id ext rem dlc data.size = false from by unfold B.frI; rw [decide_eq_false (by omega)]; rfl)
    go_enter Tryz.func9, Tryz.ntmps9
    go_wp2
    go_ret
    exact ⟨ret_bool hR.out.symm, rfl⟩
  · by_cases h2 : 8 < dlc
    · have hR := Lib.hid (show B.frI id ext rem dlc data.size = false from by unfold B.frI; rw [decide_eq_false (by omega)]; rfl)
      have h1' : ¬ dlc < 0 := h1
      go_enter Tryz.func9, Tryz.ntmps9
      go_wp2
      go_ret
      exact ⟨ret_bool hR.out.symm, rfl⟩
    · have h2' : dlc ≤ 8 := by omega
      cases rem
      · go_enter Tryz.func9, Tryz.ntmps9
        go_wp2
        all_goals
          go_ret
          refine ⟨ret_bool ?_, by simp [*]⟩
          simp only [bne_iff_ne, ne_eq, bne_eq_false_iff_eq] at *
          rw [Bool.eq_iff_iff]
          simp [B.frI, *]
          try omega
      · go_enter Tryz.func9, Tryz.ntmps9
        go_wp2
        all_goals
          go_ret
          refine ⟨ret_bool ?_, by simp [*]⟩
          simp only [toList_nil] at *
          rw [Bool.eq_iff_iff]
          simp [B.frI, *]
          try omega
end Go.Proofs.YtcaeobkaoebndaaGreat
