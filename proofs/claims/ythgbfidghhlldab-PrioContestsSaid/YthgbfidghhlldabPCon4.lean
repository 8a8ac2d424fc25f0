/- slices.IndexFunc and slices.DeleteFunc over those that are left. -/
import Derived.Test.YthgbfidghhlldabPCon3
namespace Go.Proofs.Ythgbfidghhlldab
open Go.RowKit Go.Lib
attribute [local go_sem ↓] Go.wp_at_zero Go.wp_at_succ

theorem own_shrink {w : World} {base g n cap m : Nat} {e : TypeId} {xs : List Value} (h : w.ownsRow base e 1 (.slice (some ⟨g, 0, none⟩) n cap) n xs) (hm : m ≤ n) : w.ownsRow base e 1 (.slice (some ⟨g, 0, none⟩) m cap) m (xs.take m) := by
  obtain ⟨hl, h⟩ := h
  refine ⟨by rw [List.length_take]; omega, ?_⟩
  rcases h with ⟨h, _⟩ | ⟨g', cap', cur, hv, hb, hg, hn, hx, hs, ht⟩
  · cases h
  · simp only [Value.slice.injEq, true_and, Option.some.injEq, Addr.mk.injEq, and_true] at hv
    obtain ⟨rfl, rfl⟩ := hv
    refine .inr ⟨g, cap, cur, rfl, hb, hg, by omega, hx, hs, ?_⟩
    rw [← ht, List.take_take]
    congr 1
    omega
theorem DX.clear {w0 : World} {base gl go nl n capl capo : Nat} {os : List Int} : ∀ (m o : Nat) (xs : List Nat) (w : World), DX w0 base gl go nl n capl capo xs os w →
    ∃ xs', DX w0 base gl go nl n capl capo xs' os (w.setCells gl o (List.replicate m (.int .i64 0))) ∧ xs'.take o = xs.take o := by
  intro m
  induction m with
  | zero => intro o xs w h; exact ⟨xs, h, rfl⟩
  | succ m ih =>
    intro o xs w h
    obtain ⟨xs', h1, h2⟩ := ih (o + 1) (xs.set o 0) _ (h.setl o 0)
    refine ⟨xs', h1, ?_⟩
    have := congrArg (List.take o) h2
    rw [List.take_take, List.take_take, Nat.min_eq_left (by omega)] at this
    rw [this, List.take_set_of_le (Nat.le_refl _)]

set_option maxRecDepth 100000 in
set_option maxHeartbeats 4000000 in
theorem idx_none (w0 : World) (base C gf gl go nl n capf capl capo k : Nat) (ss : Nat → ByteArray) (y : UInt8) (bc ba bb : Nat) (xs : List Nat) (os : List Int) (w : World)
    (hE : EV w0 C gf gl go n capf capo k ss y bc ba bb) (hD : DX w0 base gl go nl n capl capo xs os w) (hn : nl ≤ 1000000) (hls : ∀ i ∈ xs, i < n ∧ k < (ss i).size) (hkp : ∀ i ∈ xs, B.bt (fl ss) k i = y) :
    Calls Try.prog 45 #[.slice (some ⟨gl, 0, none⟩) nl capl, .func (.func 34) #[] #[.pointer (some ⟨bc, 0, none⟩), .pointer (some ⟨ba, 0, none⟩), .pointer (some ⟨bb, 0, none⟩)]] w fun e w' => e = .returned (.int .i64 (-1)) ∧ DX w0 base gl go nl n capl capo xs os w' := by
  have HK := Lib.hid hkp
  have HL := Lib.hid hls
  clear hkp hls
  go_enter Try.func45, Try.ntmps45
  go_wp2
  go_loopw [8] (fun i wr => ∃ j : Nat, j ≤ nl ∧ i = .int .i64 j ∧ DX w0 base gl go nl n capl capo xs os wr) (fun i _ => nl - (intOf i).toNat)
  case atStart => exact ⟨0, Nat.zero_le _, rfl, hD⟩
  case round =>
    clear hD
    obtain ⟨j, hj, rfl, hD⟩ := hrel
    by_cases hlt : j < nl
    · have hjx : j < xs.length := by rw [hD.xs_len]; exact hlt
      have c1 := hD.cellx j hjx
      obtain ⟨h1, h2⟩ := HL.out xs[j] (List.getElem_mem hjx)
      have h3 := HK.out xs[j] (List.getElem_mem hjx)
      obtain ⟨p, hp⟩ : ∃ p, p = xs[j] := ⟨_, rfl⟩
      rw [← hp] at c1 h1 h2 h3
      have CL := Lib.hid (lit_keep w0 base C gf gl go nl n capf capl capo k p ss y bc ba bb xs os wr hE hD h1 h2 h3)
      clear h1 h2 h3 hp hD
      go_wp2_with (go_at_call 34; (with_reducible refine CL.out.mono ?_); rintro e w2 ⟨rfl, hD2⟩)
      go_roundw
      case rel => exact ⟨j + 1, hlt, by go_num, hD2⟩
      case measure => simp [intOf]; omega
    · go_wp2
      go_ret
      exact ⟨rfl, hD⟩

set_option maxRecDepth 100000 in
set_option maxHeartbeats 4000000 in
theorem idx_some (w0 : World) (base C gf gl go nl n capf capl capo k j0 : Nat) (ss : Nat → ByteArray) (y : UInt8) (bc ba bb : Nat) (xs : List Nat) (os : List Int) (w : World)
    (hE : EV w0 C gf gl go n capf capo k ss y bc ba bb) (hD : DX w0 base gl go nl n capl capo xs os w) (hn : nl ≤ 1000000) (hls : ∀ i ∈ xs, i < n ∧ k < (ss i).size) (hj0 : j0 < xs.length) (hkp : ∀ j (h : j < xs.length), j < j0 → B.bt (fl ss) k xs[j] = y) (hlo : B.bt (fl ss) k xs[j0] ≠ y) :
    Calls Try.prog 45 #[.slice (some ⟨gl, 0, none⟩) nl capl, .func (.func 34) #[] #[.pointer (some ⟨bc, 0, none⟩), .pointer (some ⟨ba, 0, none⟩), .pointer (some ⟨bb, 0, none⟩)]] w fun e w' => e = .returned (.int .i64 j0) ∧ DX w0 base gl go nl n capl capo xs (os.set xs[j0] k) w' := by
  have HK := Lib.hid hkp
  have HL := Lib.hid hls
  have HO := Lib.hid hlo
  have hj0n : j0 < nl := by rw [← hD.xs_len]; exact hj0
  clear hkp hls hlo
  go_enter Try.func45, Try.ntmps45
  go_wp2
  go_loopw [8] (fun i wr => ∃ j : Nat, j ≤ j0 ∧ i = .int .i64 j ∧ DX w0 base gl go nl n capl capo xs os wr) (fun i _ => nl - (intOf i).toNat)
  case atStart => exact ⟨0, Nat.zero_le _, rfl, hD⟩
  case round =>
    clear hD
    obtain ⟨j, hj, rfl, hD⟩ := hrel
    have hlt : j < nl := by omega
    have hjx : j < xs.length := by rw [hD.xs_len]; exact hlt
    have c1 := hD.cellx j hjx
    obtain ⟨h1, h2⟩ := HL.out xs[j] (List.getElem_mem hjx)
    by_cases hlt0 : j < j0
    · have h3 := HK.out j hjx hlt0
      obtain ⟨p, hp⟩ : ∃ p, p = xs[j] := ⟨_, rfl⟩
      rw [← hp] at c1 h1 h2 h3
      have CL := Lib.hid (lit_keep w0 base C gf gl go nl n capf capl capo k p ss y bc ba bb xs os wr hE hD h1 h2 h3)
      clear h1 h2 h3 hp hD
      go_wp2_with (go_at_call 34; (with_reducible refine CL.out.mono ?_); rintro e w2 ⟨rfl, hD2⟩)
      go_roundw
      case rel => exact ⟨j + 1, hlt0, by go_num, hD2⟩
      case measure => simp [intOf]; omega
    · obtain rfl : j = j0 := by omega
      have h3 := HO.out
      obtain ⟨p, hp⟩ : ∃ p, p = xs[j] := ⟨_, rfl⟩
      rw [← hp] at c1 h1 h2 h3
      have CL := Lib.hid (lit_lose w0 base C gf gl go nl n capf capl capo k p ss y bc ba bb xs os wr hE hD h1 h2 h3)
      have HP := Lib.hid hp
      clear h1 h2 h3 hp hD HO HK
      go_wp2_with (go_at_call 34; (with_reducible refine CL.out.mono ?_); rintro e w2 ⟨rfl, hD2⟩)
      go_ret
      exact ⟨rfl, by rw [← HP.out]; exact hD2⟩
end Go.Proofs.Ythgbfidghhlldab
