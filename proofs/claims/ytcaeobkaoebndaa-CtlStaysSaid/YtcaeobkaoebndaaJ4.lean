/- Own texts joined: Step Of Sum. -/
import Derived.Test.YtcaeobkaoebndaaJ1
import Derived.Test.YtcaeobkaoebndaaPlain
import Derived.Test.YtcaeobkaoebndaaRows
import Derived.WalkKit
import Derived.WalkSpells
import Derived.WalkLawsBesides
import Derived.Deep.QuietTactic
import Derived.BigQuiet
import Derived.WalkSmall
import Derived.Deep.AppendLies
import Derived.Test.YtcaeobkaoebndaaJ2
import Derived.OneCell
/- Step -/
namespace Go.Proofs.Ytcaeobkaoebndaa
open Go.RowKit Go.Lib

theorem ret_u32 {a b : Int} (h : a = b) : Ending.returned (.int .u32 a) = .returned (.int .u32 b) := by rw [h]

set_option maxHeartbeats 400000 in
theorem step_any (n c : Nat) (w : World) (hn : n < 4294967296) :
    Calls Try.prog 89 #[.int .u32 n, .int .u8 c] w fun e w' => e = .returned (.int .u32 (B.stepN n (decide (c = 49)))) ∧ w = w' := by
  go_enter Try.func89, Try.ntmps89
  go_wp2
  · rename_i h
    have e := Lib.hid (B.step_yes n c hn h)
    clear h
    go_ret
    exact ⟨ret_u32 e.out, rfl⟩
  · rename_i h
    have e := Lib.hid (B.step_no n c hn h)
    clear h
    go_ret
    exact ⟨ret_u32 e.out, rfl⟩

end Go.Proofs.Ytcaeobkaoebndaa

/- Of -/
namespace Go.Proofs.Ytcaeobkaoebndaa
open Go.RowKit Go.Lib

theorem Try.info5 : (Try.prog.info? 5).map (fun i => (i.zero, i.size, i.bytes)) = some (some (.int .u8 0), 1, 1) := by kernel_rfl

set_option maxRecDepth 100000 in
set_option maxHeartbeats 400000 in
theorem of_no (n width : Int) (w : World) (h : width < 0 ∨ 64 < width ∨ (0 ≤ width ∧ (n / 2 ^ width.toNat != 0) = true)) :
    Calls Try.prog 80 #[.int .u64 n, .int .i64 width] w fun e w' => e = .returned (.tuple #[.string ⟨#[]⟩, .int .i64 1]) ∧ w = w' := by
  go_enter Try.func80, Try.ntmps80
  by_cases h1 : width < 0
  · clear h
    go_wp2
    go_ret2
    exact ⟨rfl, rfl⟩
  · by_cases h2 : 64 < width
    · clear h
      go_wp2
      go_ret2
      exact ⟨rfl, rfl⟩
    · have h3 : (n / 2 ^ width.toNat != 0) = true := by rcases h with h | h | h; omega; omega; exact h.2
      clear h
      go_wp2
      go_ret2
      exact ⟨rfl, rfl⟩

set_option maxRecDepth 100000 in
set_option maxHeartbeats 400000 in
theorem of_yes (n k : Nat) (w : World) (h1 : k ≤ 64) (hn : n < 2 ^ k) :
    Calls Try.prog 80 #[.int .u64 n, .int .i64 k] w fun e w' => e = .returned (.tuple #[.string (B.ofn n k), .int .i64 0]) ∧ Below w.heap.size w w' := by
  go_enter Try.func80, Try.ntmps80
  obtain ⟨i0, hi, hz0, hz1, hz2⟩ := info_parts Try.info5
  have h3 : ((n : Int) / 2 ^ k != 0) = false := B.shr_zero n k hn
  obtain ⟨B0, hB⟩ : ∃ b, b = w.heap.size := ⟨_, rfl⟩
  rw [← hB]
  have HB := Lib.hid hB
  clear hB
  go_wp2_with (at_make; refine wpList_make_full _ rfl _ _ 88 rfl B0 5 i0 (.int .u8 0) 1 Try.underlying88 hi hz0 hz1 _ _ _ _ k rfl rfl rfl rfl ?b1 ?b2 ?b3 ?_)
  case b1 => rw [hz2]; omega
  case b2 => unfold maxLen; omega
  case b3 => rw [HB.out]; exact Nat.le_refl _
  intro w1 hown hgr
  rw [← HB.out] at hown
  rw [← HB.out]
  have hb1 : Below B0 w w1 := (Below.refl _ _).grown hgr (by rw [HB.out]; exact Nat.le_refl _) (by intro _ h; cases h)
  clear hgr
  go_wp2
  go_loopw [24] (fun i wr => ∃ j : Nat, j ≤ k ∧ i = .int .i64 j ∧ wr.ownsRow B0 5 1 (.slice (some ⟨B0, 0, none⟩) k k) k (B.rowAt n k j) ∧ Below B0 w wr) (fun i _ => k - (intOf i).toNat)
  case atStart => exact ⟨0, Nat.zero_le _, rfl, by rw [B.rowAt_zero, ← toList_madeCells_one]; exact hown, hb1⟩
  case round =>
    obtain ⟨j, hj, rfl, ho, hb⟩ := hrel
    by_cases hlt : j < k
    · have hz := ho.frozenAt j
      obtain ⟨v0, hv0⟩ := B.rowAt_some n k j hlt
      have hc := ho.cellAt j (by omega)
      rw [hv0] at hc
      have hst := Lib.hid (B.byte_step n k j hn h1)
      have hset := Lib.hid (B.rowAt_set n k j hlt)
      have HO := Lib.hid ho
      clear hown ho hv0
      go_wp2
      go_roundw
      case rel =>
        refine ⟨j + 1, by omega, by go_num, ?_, hb.setCell (Nat.le_refl _) _⟩
        rw [hst.out, ← hset.out]
        exact (HO.out.stored j _).1
      case measure => simp [intOf]; omega
    · have hjk : j = k := by omega
      rw [hjk, B.rowAt_full] at ho
      have hback := run_back_own (P := Try.prog) 88 9 (B.ofl n k) (B.ofl_length n k) Try.underlying88 Try.underlying5 Try.underlying9 ho
      clear hown hjk ho
      go_wp2
      go_ret2
      exact ⟨rfl, hb⟩

theorem of_num (t : ByteArray) (w : World) (h : t.size ≤ 64) (hr : B.right t = true) :
    Calls Try.prog 80 #[.int .u64 (B.num t.data.toList), .int .i64 t.size] w fun e w' => e = .returned (.tuple #[.string t, .int .i64 0]) ∧ Below w.heap.size w w' := by
  have := of_yes (B.num t.data.toList) t.size w h (by rw [← B.size_len]; exact B.num_lt _ (B.right_all hr))
  rw [B.ofn_num t (B.right_all hr)] at this
  exact this
end Go.Proofs.Ytcaeobkaoebndaa

/- Sum -/
namespace Go.Proofs.Ytcaeobkaoebndaa
open Go.RowKit Go.Lib

set_option maxHeartbeats 400000 in
theorem lit_any (n c g : Nat) (w : World) (hn : n < 4294967296) (hB : w.heap[g]? = some (.cells #[.int .u32 n] 28 (0, 0))) :
    Calls Try.prog 88 #[.int .u8 c, .pointer (some ⟨g, 0, none⟩)] w fun e w' => e = .returned (.tuple #[]) ∧ w' = w.setCell ⟨g, 0, none⟩ (.int .u32 (B.stepN n (decide (c = 49)))) := by
  have hc := cell_of_one hB
  have hf := free_of_one hB
  clear hB
  go_enter Try.func88, Try.ntmps88
  go_wp2_with (go_at_call 89; (with_reducible refine (step_any _ _ _ hn).mono ?_); rintro e w' ⟨rfl, rfl⟩)
  go_end0
  exact ⟨rfl, rfl⟩

set_option maxHeartbeats 400000 in
theorem through_any (n g : Nat) (s : ByteArray) (w : World) (hs : s.size ≤ 4000) (hn : n < 4294967296) (hB : w.heap[g]? = some (.cells #[.int .u32 n] 28 (0, 0))) :
    Calls Try.prog 87 #[.string s, .func (.func 88) #[] #[.pointer (some ⟨g, 0, none⟩)]] w fun e w' => e = .returned (.tuple #[]) ∧ w'.heap[g]? = some (.cells #[.int .u32 (B.crc n s.data.toList)] 28 (0, 0)) ∧ Below g w w' := by
  go_enter Try.func87, Try.ntmps87
  go_wp2
  go_loopw [7] (fun i wr => ∃ k : Nat, k ≤ s.size ∧ i = .int .i64 k ∧ wr.heap[g]? = some (.cells #[.int .u32 (B.crc n (s.data.toList.take k))] 28 (0, 0)) ∧ Below g w wr) (fun i _ => s.size - (intOf i).toNat)
  case atStart => exact ⟨0, Nat.zero_le _, rfl, hB, Below.refl _ _⟩
  case round =>
    obtain ⟨k, hk, rfl, hb, hw⟩ := hrel
    by_cases hlt : k < s.size
    · have hL := Lib.hid (lit_any (B.crc n (s.data.toList.take k)) s[k].toNat g wr (B.crc_lt32 n hn _) hb)
      have hS := Lib.hid (B.crc_take_succ n s k hlt)
      have hO := Lib.hid (B.one_dec s[k])
      have hb' := Lib.hid hb
      have hw' := Lib.hid hw
      clear hb hw hB
      go_wp2_with (go_at_call 88; (with_reducible refine hL.out.mono ?_); rintro e w' ⟨rfl, rfl⟩)
      go_roundw
      case rel =>
        refine ⟨k + 1, by omega, by go_num, ?_, hw'.out.setCell (Nat.le_refl _) _⟩
        rw [hS.out, hO.out]
        exact one_setCell hb'.out
      case measure => simp [intOf]; omega
    · have hb' := Lib.hid (show s.data.toList.take k = s.data.toList from List.take_of_length_le (by rw [B.size_len]; omega))
      go_wp2
      go_end0
      exact ⟨rfl, by rw [← hb'.out]; exact hb, hw⟩

set_option maxHeartbeats 400000 in
theorem sumOf_any (s : ByteArray) (w : World) (hs : s.size ≤ 4000) :
    Calls Try.prog 76 #[.string s] w fun e w' => e = .returned (.int .u32 (B.sum s)) ∧ Below w.heap.size w w' := by
  have hmf : ∀ (fn : Fn) (first cap : Array Value) (w : World), (Instr.makeFunc fn first cap).run Try.prog w = .ok (.func fn first cap) w := fun _ _ _ _ => rfl
  have hT := Lib.hid (through_any 0 w.heap.size s (w.alloc (.cells #[.int .u32 0] 28)) hs (by omega) (heap_alloc_new _ _))
  have hA := Lib.hid (show Below w.heap.size w (w.alloc (.cells #[.int .u32 0] 28)) from (Below.refl _ _).alloc (Nat.le_refl _) _)
  go_enter Try.func76, Try.ntmps76
  go_wp2_with (go_at_call 87; (with_reducible refine hT.out.mono ?_); rintro e w' ⟨rfl, hb, hw⟩; have hc := cell_of_one hb; clear hb; replace hw := Lib.hid hw)
  go_ret
  exact ⟨rfl, hA.out.trans hw.out⟩

set_option maxHeartbeats 400000 in
theorem check_any (s : ByteArray) (w : World) (hs : s.size ≤ maxLen) :
    Calls Try.prog 63 #[.string s] w fun e w' => e = .returned (.bool (B.check s)) ∧ Below w.heap.size w w' := by
  have hs' := hs
  unfold maxLen at hs'
  have hB : Below w.heap.size w w := Below.refl _ _
  by_cases h : 15 ≤ s.size
  · have h' : (15 : Int) ≤ s.size := by omega
    cases hr : B.right s
    · have hb := Lib.hid (B.check_bad hr)
      go_enter Try.func63, Try.ntmps63
      go_wp2_with (go_at_call 59; (with_reducible refine (right_any _ _ hs).mono ?_); rintro e w' ⟨rfl, rfl⟩)
      go_ret
      exact ⟨ret_bool hb.out.symm, hB⟩
    · have hb := Lib.hid (B.check_good h hr)
      have h4 := B.right_size hr
      go_enter Try.func63, Try.ntmps63
      go_wp2_with (first | (go_at_call 59; (with_reducible refine (right_any _ _ hs).mono ?_); rintro e w' ⟨rfl, rfl⟩) | (go_at_call 76; (with_reducible refine (sumOf_any _ _ h4).mono ?_); rintro e w' ⟨rfl, hb'⟩))
      go_ret
      exact ⟨ret_bool hb.out, hb'⟩
  · have h' : (s.size : Int) < 15 := by omega
    have hb := Lib.hid (B.check_short (s := s) (by omega))
    go_enter Try.func63, Try.ntmps63
    go_wp2
    go_ret
    exact ⟨ret_bool hb.out.symm, hB⟩

/-- a sum in fifteen bits -/
theorem of_15 (n : Nat) (w : World) (h : n < 32768) : Calls Try.prog 80 #[.int .u64 n, .int .i64 15] w fun e w' => e = .returned (.tuple #[.string (B.ofn n 15), .int .i64 0]) ∧ Below w.heap.size w w' :=
  of_yes n 15 w (by omega) (by omega)

set_option maxHeartbeats 400000 in
theorem frame_yes (s : ByteArray) (w : World) (hr : B.right s = true) (hz : s.size ≤ 3985) :
    Calls Try.prog 66 #[.string s] w fun e w' => e = .returned (.tuple #[.string (B.framed s), .int .i64 0]) ∧ Below w.heap.size w w' := by
  have hl := B.sum_lt s
  have hz15 := B.ofn_size (B.sum s) 15
  have h' : (s.size : Int) ≤ 3985 := by omega
  have hB : Below w.heap.size w w := Below.refl _ _
  go_enter Try.func66, Try.ntmps66
  go_wp2_with (first | (go_at_call 59; (with_reducible refine (right_any _ _ (by unfold maxLen; omega)).mono ?_); rintro e w' ⟨rfl, rfl⟩) | (go_at_call 76; (with_reducible refine (sumOf_any _ _ (by omega)).mono ?_); rintro e w' ⟨rfl, hb⟩; replace hB := hB.trans (hb.mono hB.size)) | (go_at_call 80; (with_reducible refine (of_15 _ _ hl).mono ?_); rintro e w' ⟨rfl, hb⟩; replace hB := hB.trans (hb.mono hB.size)))
  go_ret2
  exact ⟨rfl, hB⟩

set_option maxHeartbeats 400000 in
theorem frame_no (s : ByteArray) (w : World) (hs : s.size ≤ maxLen) (hr : B.right s = false ∨ 3985 < s.size) :
    Calls Try.prog 66 #[.string s] w fun e w' => e = .returned (.tuple #[.string ⟨#[]⟩, .int .i64 1]) ∧ w = w' := by
  have hs' := hs
  unfold maxLen at hs'
  by_cases h : 3985 < s.size
  · have h' : (3985 : Int) < s.size := by omega
    go_enter Try.func66, Try.ntmps66
    go_wp2
    go_ret2
    exact ⟨rfl, rfl⟩
  · have h' : (s.size : Int) ≤ 3985 := by omega
    have hr' : B.right s = false := by rcases hr with h1 | h1; exact h1; omega
    clear hr
    go_enter Try.func66, Try.ntmps66
    go_wp2_with (go_at_call 59; (with_reducible refine (right_any _ _ hs).mono ?_); rintro e w' ⟨rfl, rfl⟩)
    go_ret2
    exact ⟨rfl, rfl⟩
end Go.Proofs.Ytcaeobkaoebndaa
