/- Package prio's contest: what is struck out of those that are left (slices.DeleteFunc with a function of its own that writes). -/
import Derived.Test.YthgbfidghhlldabPCon2
import Derived.Lib.SliceRun
import Derived.RegionTactic
import Derived.ChangeAlike
namespace Go.Proofs.Ythgbfidghhlldab
open Go.RowKit Go.Lib
attribute [local go_sem ↓] Go.wp_at_zero Go.wp_at_succ

/-- nothing but blocks gl and go has changed -/
structure At2 (gl go : Nat) (w w' : World) : Prop where
  os : w'.os = w.os
  tape : w'.tape = w.tape
  output : w'.output = w.output
  size : w'.heap.size = w.heap.size
  block : ∀ k, k ≠ gl → k ≠ go → w'.heap[k]? = w.heap[k]?
theorem At2.refl (gl go : Nat) (w : World) : At2 gl go w w := ⟨rfl, rfl, rfl, rfl, fun _ _ _ => rfl⟩
theorem At2.cell {gl go : Nat} {w w' : World} (h : At2 gl go w w') {p : Addr} (h1 : p.block ≠ gl) (h2 : p.block ≠ go) : w'.cell? p = w.cell? p := World.cell?_of_block (h.block _ h1 h2)
theorem At2.setl {gl go : Nat} {a w : World} (h : At2 gl go a w) (i : Nat) (u : Value) : At2 gl go a (w.setCell ⟨gl, i, none⟩ u) :=
  ⟨h.os, h.tape, h.output, by rw [← h.size]; show (w.heap.modify gl _).size = _; simp, fun k h1 h2 => by rw [Below.heap_setCell _ _ _ _ (by simpa using h1)]; exact h.block k h1 h2⟩
theorem At2.seto {gl go : Nat} {a w : World} (h : At2 gl go a w) (i : Nat) (u : Value) : At2 gl go a (w.setCell ⟨go, i, none⟩ u) :=
  ⟨h.os, h.tape, h.output, by rw [← h.size]; show (w.heap.modify go _).size = _; simp, fun k h1 h2 => by rw [Below.heap_setCell _ _ _ _ (by simpa using h2)]; exact h.block k h1 h2⟩
theorem At2.below {gl go B0 : Nat} {w w' : World} (h : At2 gl go w w') (h1 : B0 ≤ gl) (h2 : B0 ≤ go) : Below B0 w w' := ⟨h.os, h.tape, h.output, by rw [h.size]; exact Nat.le_refl _, fun k hk => h.block k (by omega) (by omega)⟩
/-- the two rows while those that lose are struck out -/
structure DX (w0 : World) (base gl go nl n capl capo : Nat) (xs : List Nat) (os : List Int) (w : World) : Prop where
  at2 : At2 gl go w0 w
  left : w.ownsRow base 3 1 (.slice (some ⟨gl, 0, none⟩) nl capl) nl (natV xs)
  lost : w.ownsRow base 3 1 (.slice (some ⟨go, 0, none⟩) n capo) n (intV os)
  ne : gl ≠ go
theorem natV_set (xs : List Nat) (i p : Nat) : (natV xs).set i (.int .i64 (p : Int)) = natV (xs.set i p) := by
  unfold natV; rw [List.map_set]
theorem intV_set (os : List Int) (i : Nat) (v : Int) : (intV os).set i (.int .i64 v) = intV (os.set i v) := by
  unfold intV; rw [List.map_set]
section
variable {w0 w : World} {base gl go nl n capl capo : Nat} {xs : List Nat} {os : List Int}
theorem DX.setl (h : DX w0 base gl go nl n capl capo xs os w) (i p : Nat) : DX w0 base gl go nl n capl capo (xs.set i p) os (w.setCell ⟨gl, i, none⟩ (.int .i64 (p : Int))) := by
  refine ⟨h.at2.setl _ _, ?_, ?_, h.ne⟩
  · rw [← natV_set]; exact (h.left.stored i _).1
  · exact h.lost.kept (grown_set w gl i _) (.inr (fun e => h.ne (by simpa [Value.ownBlock] using e.symm)))
theorem DX.seto (h : DX w0 base gl go nl n capl capo xs os w) (i : Nat) (v : Int) : DX w0 base gl go nl n capl capo xs (os.set i v) (w.setCell ⟨go, i, none⟩ (.int .i64 v)) := by
  refine ⟨h.at2.seto _ _, ?_, ?_, h.ne⟩
  · exact h.left.kept (grown_set w go i _) (.inr (fun e => h.ne (by simpa [Value.ownBlock] using e)))
  · rw [← intV_set]; exact (h.lost.stored i _).1
theorem DX.drewN (h : DX w0 base gl go nl n capl capo xs os w) (m : Nat) : DX w0 base gl go nl n capl capo xs os (w.drewN m) := ⟨⟨h.at2.os, h.at2.tape, h.at2.output, h.at2.size, h.at2.block⟩, h.left, h.lost, h.ne⟩
theorem DX.drew (h : DX w0 base gl go nl n capl capo xs os w) : DX w0 base gl go nl n capl capo xs os w.drew := ⟨⟨h.at2.os, h.at2.tape, h.at2.output, h.at2.size, h.at2.block⟩, h.left, h.lost, h.ne⟩
theorem DX.xs_len (h : DX w0 base gl go nl n capl capo xs os w) : xs.length = nl := by have := h.left.1; rw [natV_length] at this; omega
theorem DX.os_len (h : DX w0 base gl go nl n capl capo xs os w) : os.length = n := by have := h.lost.1; rw [intV_length] at this; omega
theorem DX.cellx (h : DX w0 base gl go nl n capl capo xs os w) (j : Nat) (hj : j < xs.length) : w.cell? ⟨gl, j, none⟩ = some (.int .i64 (xs[j] : Nat)) := by
  have := h.left.cellAt j (by rw [h.xs_len] at hj; omega)
  rw [this]; unfold natV; simp [hj]
theorem DX.cello (h : DX w0 base gl go nl n capl capo xs os w) (j : Nat) (hj : j < n) : ∃ v, w.cell? ⟨go, j, none⟩ = some (.int .i64 v) := by
  have hl := h.os_len
  refine ⟨os[j]'(by omega), ?_⟩
  have := h.lost.cellAt j (by omega)
  rw [this]; unfold intV; simp
end
/-- what stands fast meanwhile -/
structure EV (w0 : World) (C gf gl go n capf capo k : Nat) (ss : Nat → ByteArray) (y : UInt8) (bc ba bb : Nat) : Prop where
  c : w0.cell? ⟨bc, 0, none⟩ = some (.pointer (some ⟨C, 0, none⟩))
  a : w0.cell? ⟨ba, 0, none⟩ = some (.int .i64 (k : Int))
  b : w0.cell? ⟨bb, 0, none⟩ = some (.string (oneB y))
  c0 : w0.cell? ⟨C, 0, none⟩ = some (.slice (some ⟨gf, 0, none⟩) n capf)
  c2 : w0.cell? ⟨C, 2, none⟩ = some (.slice (some ⟨go, 0, none⟩) n capo)
  f : Flds n gf ss w0
  ne : bc ≠ gl ∧ bc ≠ go ∧ ba ≠ gl ∧ ba ≠ go ∧ bb ≠ gl ∧ bb ≠ go ∧ C ≠ gl ∧ C ≠ go ∧ gf ≠ gl ∧ gf ≠ go

set_option maxRecDepth 100000 in
set_option maxHeartbeats 4000000 in
theorem lit_keep (w0 : World) (base C gf gl go nl n capf capl capo k p : Nat) (ss : Nat → ByteArray) (y : UInt8) (bc ba bb : Nat) (xs : List Nat) (os : List Int) (w : World)
    (hE : EV w0 C gf gl go n capf capo k ss y bc ba bb) (hD : DX w0 base gl go nl n capl capo xs os w) (hp : p < n) (hk : k < (ss p).size) (hy : B.bt (fl ss) k p = y) :
    Calls Try.prog 34 #[.int .i64 p, .pointer (some ⟨bc, 0, none⟩), .pointer (some ⟨ba, 0, none⟩), .pointer (some ⟨bb, 0, none⟩)] w fun e w' => e = .returned (.bool false) ∧ DX w0 base gl go nl n capl capo xs os w' := by
  obtain ⟨n1, n2, n3, n4, n5, n6, n7, n8, n9, n10⟩ := hE.ne
  have c1 := (hD.at2.cell (p := ⟨bc, 0, none⟩) n1 n2).trans hE.c
  have c2 := (hD.at2.cell (p := ⟨ba, 0, none⟩) n3 n4).trans hE.a
  have c3 := (hD.at2.cell (p := ⟨bb, 0, none⟩) n5 n6).trans hE.b
  have c4 := (hD.at2.cell (p := ⟨C, 0, none⟩) n7 n8).trans hE.c0
  have c5 := (hD.at2.cell (p := ⟨gf, p, none⟩) n9 n10).trans (hE.f.cell p hp)
  have CB0 := fun w1 h1 h2 => bit_any C gf n capf p k (ss p) w1 h1 hp h2 hk (hE.f.size p hp)
  rw [oneB_of _ _ hk, bt_at hk, hy] at CB0
  have CB := Lib.hid (fun m => CB0 (w.drewN m) c4 c5)
  have HD := Lib.hid hD
  clear hE hD n1 n2 n3 n4 n5 n6 n7 n8 n9 n10 CB0 hy hk
  go_enter Try.func34, Try.ntmps34
  go_wp2_with fail
  go_quiet ((go_at_call 35; exact quiet_mine (CB.out _)))
  rename_i nq
  have HQ := Lib.hid (HD.out.drewN nq)
  generalize w.drewN nq = w1 at *
  go_wp2
  go_ret
  exact ⟨rfl, HQ.out⟩

set_option maxRecDepth 100000 in
set_option maxHeartbeats 4000000 in
theorem lit_lose (w0 : World) (base C gf gl go nl n capf capl capo k p : Nat) (ss : Nat → ByteArray) (y : UInt8) (bc ba bb : Nat) (xs : List Nat) (os : List Int) (w : World)
    (hE : EV w0 C gf gl go n capf capo k ss y bc ba bb) (hD : DX w0 base gl go nl n capl capo xs os w) (hp : p < n) (hk : k < (ss p).size) (hy : B.bt (fl ss) k p ≠ y) :
    Calls Try.prog 34 #[.int .i64 p, .pointer (some ⟨bc, 0, none⟩), .pointer (some ⟨ba, 0, none⟩), .pointer (some ⟨bb, 0, none⟩)] w fun e w' => e = .returned (.bool true) ∧ DX w0 base gl go nl n capl capo xs (os.set p k) w' := by
  obtain ⟨n1, n2, n3, n4, n5, n6, n7, n8, n9, n10⟩ := hE.ne
  have c1 := (hD.at2.cell (p := ⟨bc, 0, none⟩) n1 n2).trans hE.c
  have c2 := (hD.at2.cell (p := ⟨ba, 0, none⟩) n3 n4).trans hE.a
  have c3 := (hD.at2.cell (p := ⟨bb, 0, none⟩) n5 n6).trans hE.b
  have c4 := (hD.at2.cell (p := ⟨C, 0, none⟩) n7 n8).trans hE.c0
  have c6 := (hD.at2.cell (p := ⟨C, 2, none⟩) n7 n8).trans hE.c2
  have c5 := (hD.at2.cell (p := ⟨gf, p, none⟩) n9 n10).trans (hE.f.cell p hp)
  obtain ⟨v, c7⟩ := hD.cello p hp
  have f7 := hD.lost.frozenAt p
  have CB0 := fun w1 h1 h2 => bit_any C gf n capf p k (ss p) w1 h1 hp h2 hk (hE.f.size p hp)
  rw [oneB_of _ _ hk, bt_at hk] at CB0
  have CB := Lib.hid (fun m => CB0 (w.drewN m) c4 c5)
  have hne : ((oneB (B.bt (fl ss) k p)).toList == (oneB y).toList) = false := beq_eq_false_iff_ne.2 (fun e => hy (oneB_inj (bytes_same (by simpa [ByteArray.toList_eq] using e))))
  obtain ⟨x, hx⟩ : ∃ x, x = oneB (B.bt (fl ss) k p) := ⟨_, rfl⟩
  rw [← hx] at hne CB
  have HD := Lib.hid (hD.seto p k)
  have hpi : (p : Int) < n := by omega
  clear hE hD n1 n2 n3 n4 n5 n6 n7 n8 n9 n10 CB0 hy hx hk c4 c5
  go_enter Try.func34, Try.ntmps34
  go_wp2_with fail
  go_quiet ((go_at_call 35; exact quiet_mine (CB.out _)))
  rename_i nq
  replace c1 : (w.drewN nq).cell? ⟨bc, 0, none⟩ = some (.pointer (some ⟨C, 0, none⟩)) := c1
  replace c2 : (w.drewN nq).cell? ⟨ba, 0, none⟩ = some (.int .i64 (k : Int)) := c2
  replace c6 : (w.drewN nq).cell? ⟨C, 2, none⟩ = some (.slice (some ⟨go, 0, none⟩) n capo) := c6
  replace c7 : (w.drewN nq).cell? ⟨go, p, none⟩ = some (.int .i64 v) := c7
  replace f7 : (w.drewN nq).frozen? ⟨go, p, none⟩ = false := f7
  have HQ : Hid (DX w0 base gl go nl n capl capo xs (os.set p k) ((w.drewN nq).setCell ⟨go, p, none⟩ (.int .i64 k))) := Lib.hid (HD.out.drewN nq)
  generalize w.drewN nq = w1 at *
  clear HD CB c3 hne
  go_wp2
  go_region
  all_goals
    go_wp2
    go_ret
    exact ⟨rfl, HQ.out.drew⟩
end Go.Proofs.Ythgbfidghhlldab
