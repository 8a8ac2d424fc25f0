/- Own texts joined: RowIn RefRight Cn3. -/
import Derived.Test.YtcaeobkaoebndaaJ1
import Derived.ProofKit
import Derived.OpenShut
import Derived.Deep.Slices
import Derived.ChangeSame
import Derived.Test.YtcaeobkaoebndaaRows
import Derived.WalkKit
import Derived.WalkSpells
import Derived.WalkLawsBesides
import Derived.Deep.QuietTactic
import Derived.BigQuiet
import Derived.WalkSmall
import Derived.Deep.AppendLies
import Derived.Test.YtcaeobkaoebndaaCn2
import Derived.Deep.CutRange
import Derived.LoopTactic
/- RowIn -/
namespace Go.Proofs.Ytcaeobkaoebndaa
open Go.RowKit Go.Lib

def IsInt (v : Value) : Prop := ∃ z : Int, v = .int .i64 z ∧ -9223372036854775808 ≤ z ∧ z ≤ 9223372036854775807
def IsBool (v : Value) : Prop := ∃ b : Bool, v = .bool b
def IsStr (v : Value) : Prop := ∃ s : ByteArray, v = .string s ∧ s.size ≤ maxLen
/-- a row that came in -/
def InRow (P : Value → Prop) (w : World) (A : Option Addr) (n cap : Nat) : Prop :=
  n ≤ cap ∧ cap ≤ maxLen ∧ (0 < n → ∃ b o, A = some ⟨b, o, none⟩ ∧ b < w.heap.size ∧ ∀ i, i < n → ∃ v, P v ∧ w.cell? ⟨b, o + i, none⟩ = some v)
theorem InRow.keep {P : Value → Prop} {w w' : World} {A : Option Addr} {n cap : Nat} (h : InRow P w A n cap) (hb : Below w.heap.size w w') : InRow P w' A n cap := by
  refine ⟨h.1, h.2.1, fun hn => ?_⟩
  obtain ⟨b, o, e, hlt, hc⟩ := h.2.2 hn
  refine ⟨b, o, e, Nat.lt_of_lt_of_le hlt hb.size, fun i hi => ?_⟩
  obtain ⟨v, hv, hcv⟩ := hc i hi
  exact ⟨v, hv, by rw [hb.cell (p := ⟨b, o + i, none⟩) hlt]; exact hcv⟩
theorem InRow.at_ {P : Value → Prop} {w : World} {A : Option Addr} {n cap : Nat} (h : InRow P w A n cap) (i : Nat) (hi : i < n) : ∃ b o v, A = some ⟨b, o, none⟩ ∧ b < w.heap.size ∧ P v ∧ w.cell? ⟨b, o + i, none⟩ = some v := by
  obtain ⟨b, o, e, hlt, hc⟩ := h.2.2 (by omega)
  obtain ⟨v, hv, hcv⟩ := hc i hi
  exact ⟨b, o, v, e, hlt, hv, hcv⟩
section
variable {H : Type} {enc : TypeId × Value → H} {P : Program} {w : World} {base : Nat} {spare : Nat → Bool} {held : Bool}
theorem inrow_of {t e : TypeId} {A : Option Addr} {n cap : Nat} {d : DataW H} {p : List MemPlace} (Q : Value → Prop) (ht : P.underlying t = some (.slice e)) (hc : P.cellsOf e = 1)
    (hQ : ∀ v n y, DataW.trod enc P w base spare held n e [v] = some y → Q v) (h : DataW.Trod enc P w base spare held t (.slice A n cap) d p) : InRow Q w A n cap := by
  obtain ⟨fuel, hf⟩ := h
  rcases Deep.open_slice1 ht hc hf with ⟨hcs, _⟩ | ⟨a, l, c, m, k, V, D, Pl, hcs, hb, hl, hm, hml, _, hi⟩
  · simp [Value.cells] at hcs
    obtain ⟨rfl, rfl, rfl⟩ := hcs
    exact ⟨Nat.le_refl _, Nat.zero_le _, fun h => absurd h (Nat.lt_irrefl _)⟩
  · simp [Value.cells] at hcs
    obtain ⟨rfl, rfl, rfl⟩ := hcs
    have hlm : n ≤ m := by rw [hml]; split <;> omega
    refine ⟨hl, hm, fun hn => ?_⟩
    have h00 := (hi 0 (by omega)).1
    have hspot : a.spot = none := by
      have := World.cell?_spot h00
      simpa [Addr.add] using this
    have hlt := cell_lt h00
    rw [addr_block] at hlt
    obtain ⟨b, off, sp⟩ := a
    simp only at hspot
    subst hspot
    refine ⟨b, off, rfl, hlt, fun i hin => ?_⟩
    obtain ⟨h1, h2⟩ := hi i (by omega)
    have e : (⟨b, off, none⟩ : Addr).add i = ⟨b, off + i, none⟩ := by
      unfold Addr.add; split
      · rename_i h; subst h; rfl
      · rfl
    rw [e] at h1
    exact ⟨_, hQ _ _ _ h2, h1⟩
theorem inrow_int {t e : TypeId} {A : Option Addr} {n cap : Nat} {d : DataW H} {p : List MemPlace} (ht : P.underlying t = some (.slice e)) (hc : P.cellsOf e = 1) (he : P.underlying e = some (.int .i64))
    (h : DataW.Trod enc P w base spare held t (.slice A n cap) d p) : InRow IsInt w A n cap :=
  inrow_of IsInt ht hc (fun v m y hy => by
    obtain ⟨a, e0, _, w0⟩ := DataW.trod_int he hy
    simp only [List.cons.injEq, and_true] at e0
    exact ⟨a, e0, by have := bounds_i64 w0; omega, by have := bounds_i64 w0; omega⟩) h
theorem inrow_bool {t e : TypeId} {A : Option Addr} {n cap : Nat} {d : DataW H} {p : List MemPlace} (ht : P.underlying t = some (.slice e)) (hc : P.cellsOf e = 1) (he : P.underlying e = some .bool)
    (h : DataW.Trod enc P w base spare held t (.slice A n cap) d p) : InRow IsBool w A n cap :=
  inrow_of IsBool ht hc (fun v m y hy => by
    obtain ⟨a, e0, _⟩ := DataW.trod_bool he hy
    simp only [List.cons.injEq, and_true] at e0
    exact ⟨a, e0⟩) h
theorem inrow_str {t e : TypeId} {A : Option Addr} {n cap : Nat} {d : DataW H} {p : List MemPlace} (ht : P.underlying t = some (.slice e)) (hc : P.cellsOf e = 1) (he : P.underlying e = some .string)
    (h : DataW.Trod enc P w base spare held t (.slice A n cap) d p) : InRow IsStr w A n cap :=
  inrow_of IsStr ht hc (fun v m y hy => by
    obtain ⟨a, e0, _, w0⟩ := DataW.trod_string he hy
    simp only [List.cons.injEq, and_true] at e0
    exact ⟨a, e0, w0⟩) h
end
end Go.Proofs.Ytcaeobkaoebndaa

/- RefRight -/
namespace Go.Proofs.Ytcaeobkaoebndaa
open Go.RowKit Go.Lib

set_option maxHeartbeats 400000 in
theorem refright_any (s : ByteArray) (w : World) (hs : s.size ≤ maxLen) :
    Calls Try.prog 6 #[.string s] w fun e w' => e = .returned (.bool (B.right s)) ∧ w = w' := by
  unfold maxLen at hs
  go_enter Try.func6, Try.ntmps6
  go_wp2
  go_loop [3] (fun i => ∃ k : Nat, k ≤ s.size ∧ i = .int .i64 k ∧ B.pre s k) (fun i => s.size - (intOf i).toNat)
  case atStart => exact ⟨0, Nat.zero_le _, rfl, B.pre_zero s⟩
  case round =>
    obtain ⟨k, hk, rfl, hp⟩ := hrel
    by_cases hlt : k < s.size
    · by_cases h1 : s[k].toNat = 48
      · have hp' := B.pre_succ hlt hp (.inl h1)
        go_wp2
        go_round
        case rel => exact ⟨k + 1, by omega, by go_num, hp'⟩
        case measure => simp [intOf]; omega
      · by_cases h2 : s[k].toNat = 49
        · have hp' := B.pre_succ hlt hp (.inr h2)
          go_wp2
          go_round
          case rel => exact ⟨k + 1, by omega, by go_num, hp'⟩
          case measure => simp [intOf]; omega
        · have hb := Lib.hid (B.right_bad hlt h1 h2)
          have h3 : ((s[k].toNat : Int) != 48) = true := by simp; omega
          have h4 : ((s[k].toNat : Int) != 49) = true := by simp; omega
          go_wp2
          go_ret
          exact ⟨ret_bool hb.out.symm, rfl⟩
    · have hb := Lib.hid (B.right_of_pre' (by rw [show s.size = k from by omega]; exact hp))
      go_wp2
      go_ret
      exact ⟨ret_bool (by rw [hb.out]; by_cases h : s.size ≤ 4000 <;> simp [h] <;> omega), rfl⟩
end Go.Proofs.Ytcaeobkaoebndaa

/- Cn3 -/
namespace Go.Proofs.Ytcaeobkaoebndaa
open Go.RowKit Go.Lib Go.Maps

/-- may a count be? -/
def mayC (t r : Int) (o : Bool) (n : Int) : Prop := (0 ≤ t ∧ t ≤ 255 ∧ 0 ≤ r ∧ r ≤ 255) ∧ ((o = true ∧ t = 0 ∧ r = 0 ∧ 0 < n ∧ n < 129) ∨ (o = false ∧ n = 0))
set_option maxRecDepth 100000 in
theorem refr6_on (t r : Nat) (w : World) (ht : t ≤ 255) (hr : r ≤ 255) : Calls Try.prog 16 #[.agg #[.int .i64 (t : Int), .int .i64 (r : Int), .bool false, .int .i64 0]] w fun e w' => e = .returned (.bool true) ∧ w' = w.alloc (.cells #[.int .i64 (t : Int), .int .i64 (r : Int), .bool false, .int .i64 0] 27) := by
  go_enter Try.func16, Try.ntmps16
  go_wp2
  go_ret
  exact ⟨rfl, rfl⟩
set_option maxRecDepth 100000 in
theorem refr6_off (n : Nat) (w : World) (h1 : 1 ≤ n) (hn : n ≤ 128) : Calls Try.prog 16 #[.agg #[.int .i64 0, .int .i64 0, .bool true, .int .i64 (n : Int)]] w fun e w' => e = .returned (.bool true) ∧ w' = w.alloc (.cells #[.int .i64 0, .int .i64 0, .bool true, .int .i64 (n : Int)] 27) := by
  have h' : decide ((n : Int) < 129) = true := by simp; omega
  go_enter Try.func16, Try.ntmps16
  go_wp2
  go_ret
  exact ⟨rfl, rfl⟩
theorem refr6_no (t r : Int) (o : Bool) (n : Int) (w : World) (h : ¬ mayC t r o n) : Calls Try.prog 16 #[.agg #[.int .i64 t, .int .i64 r, .bool o, .int .i64 n]] w fun e w' => e = .returned (.bool false) ∧ w' = w.alloc (.cells #[.int .i64 t, .int .i64 r, .bool o, .int .i64 n] 27) := by
  unfold mayC at h
  by_cases h1 : t < 0
  · clear h
    go_enter Try.func16, Try.ntmps16
    go_wp2
    go_ret
    exact ⟨rfl, rfl⟩
  by_cases h2 : 255 < t
  · clear h
    go_enter Try.func16, Try.ntmps16
    go_wp2
    go_ret
    exact ⟨rfl, rfl⟩
  by_cases h3 : r < 0
  · clear h
    go_enter Try.func16, Try.ntmps16
    go_wp2
    go_ret
    exact ⟨rfl, rfl⟩
  by_cases h4 : 255 < r
  · clear h
    go_enter Try.func16, Try.ntmps16
    go_wp2
    go_ret
    exact ⟨rfl, rfl⟩
  cases o
  · have h5 : (n == 0) = false := by
      rw [beq_eq_false_iff_ne]; intro e; exact h ⟨⟨by omega, by omega, by omega, by omega⟩, .inr ⟨rfl, e⟩⟩
    clear h
    go_enter Try.func16, Try.ntmps16
    go_wp2
    go_ret
    exact ⟨rfl, rfl⟩
  · by_cases h5 : t = 0
    · subst h5
      by_cases h6 : r = 0
      · subst h6
        by_cases h7 : 0 < n
        · have h8 : ¬ n < 129 := fun h8 => h ⟨⟨by omega, by omega, by omega, by omega⟩, .inl ⟨rfl, rfl, rfl, h7, h8⟩⟩
          clear h h1 h2 h3 h4
          go_enter Try.func16, Try.ntmps16
          go_wp2
          go_ret
          exact ⟨rfl, rfl⟩
        · clear h h1 h2 h3 h4
          go_enter Try.func16, Try.ntmps16
          go_wp2
          go_ret
          exact ⟨rfl, rfl⟩
      · have h7 : (r == 0) = false := by rw [beq_eq_false_iff_ne]; exact h6
        clear h h1 h2 h6
        go_enter Try.func16, Try.ntmps16
        go_wp2
        go_ret
        exact ⟨rfl, rfl⟩
    · have h7 : (t == 0) = false := by rw [beq_eq_false_iff_ne]; exact h5
      clear h h5
      go_enter Try.func16, Try.ntmps16
      go_wp2
      go_ret
      exact ⟨rfl, rfl⟩
end Go.Proofs.Ytcaeobkaoebndaa
