/- The walks of package crc's sumOf, of what goes through a row, and of the literal that it is handed; then of Of, Check and Frame. -/
import Derived.Test.YtdpfmpbnahhjmaaStep
import Derived.Test.YtdpfmpbnahhjmaaRight
import Derived.Test.YtdpfmpbnahhjmaaOf
import Derived.OneCell
namespace Go.Proofs.Ytdpfmpbnahhjmaa
open Go.RowKit Go.Lib

set_option maxHeartbeats 400000 in
theorem lit_any (n c g : Nat) (w : World) (hn : n < 4294967296) (hB : w.heap[g]? = some (.cells #[.int .u32 n] 22 (0, 0))) :
    Calls Try.prog 60 #[.int .u8 c, .pointer (some ⟨g, 0, none⟩)] w fun e w' => e = .returned (.tuple #[]) ∧ w' = w.setCell ⟨g, 0, none⟩ (.int .u32 (B.stepN n (decide (c = 49)))) := by
  have hc := cell_of_one hB
  have hf := free_of_one hB
  clear hB
  go_enter Try.func60, Try.ntmps60
  go_wp2_with (go_at_call 61; (with_reducible refine (step_any _ _ _ hn).mono ?_); rintro e w' ⟨rfl, rfl⟩)
  go_end0
  exact ⟨rfl, rfl⟩

set_option maxHeartbeats 400000 in
theorem through_any (n g : Nat) (s : ByteArray) (w : World) (hs : s.size ≤ 4000) (hn : n < 4294967296) (hB : w.heap[g]? = some (.cells #[.int .u32 n] 22 (0, 0))) :
    Calls Try.prog 59 #[.string s, .func (.func 60) #[] #[.pointer (some ⟨g, 0, none⟩)]] w fun e w' => e = .returned (.tuple #[]) ∧ w'.heap[g]? = some (.cells #[.int .u32 (B.crc n s.data.toList)] 22 (0, 0)) ∧ Below g w w' := by
  go_enter Try.func59, Try.ntmps59
  go_wp2
  go_loopw [7] (fun i wr => ∃ k : Nat, k ≤ s.size ∧ i = .int .i64 k ∧ wr.heap[g]? = some (.cells #[.int .u32 (B.crc n (s.data.toList.take k))] 22 (0, 0)) ∧ Below g w wr) (fun i _ => s.size - (intOf i).toNat)
  case atStart => exact ⟨0, Nat.zero_le _, rfl, hB, Below.refl _ _⟩
  case round =>
    obtain ⟨k, hk, rfl, hb, hw⟩ := hrel
    by_cases hlt : k < s.size
    · have hL := Lib.hid (lit_any (B.crc n (s.data.toList.take k)) s[k].toNat g wr (B.crc_lt32 n hn _) hb)
      have hS := Lib.hid (B.crc_take_succ n s k hlt)
      have hO := Lib.hid (B.one_dec s[k])
      have hb' := Lib.hid hb
      have hw' := Lib.hid hw
      clear hb hw hB
      go_wp2_with (go_at_call 60; (with_reducible refine hL.out.mono ?_); rintro e w' ⟨rfl, rfl⟩)
      go_roundw
      case rel =>
        refine ⟨k + 1, by omega, by go_num, ?_, hw'.out.setCell (Nat.le_refl _) _⟩
        rw [hS.out, hO.out]
        exact one_setCell hb'.out
      case measure => simp [intOf]; omega
    · have hb' := Lib.hid (show s.data.toList.take k = s.data.toList from List.take_of_length_le (by rw [B.size_len]; omega))
      go_wp2
      go_end0
      exact ⟨rfl, by rw [← hb'.out]; exact hb, hw⟩

set_option maxHeartbeats 400000 in
theorem sumOf_any (s : ByteArray) (w : World) (hs : s.size ≤ 4000) :
    Calls Try.prog 47 #[.string s] w fun e w' => e = .returned (.int .u32 (B.sum s)) ∧ Below w.heap.size w w' := by
  have hmf : ∀ (fn : Fn) (first cap : Array Value) (w : World), (Instr.makeFunc fn first cap).run Try.prog w = .ok (.func fn first cap) w := fun _ _ _ _ => rfl
  have hT := Lib.hid (through_any 0 w.heap.size s (w.alloc (.cells #[.int .u32 0] 22)) hs (by omega) (heap_alloc_new _ _))
  have hA := Lib.hid (show Below w.heap.size w (w.alloc (.cells #[.int .u32 0] 22)) from (Below.refl _ _).alloc (Nat.le_refl _) _)
  go_enter Try.func47, Try.ntmps47
  go_wp2_with (go_at_call 59; (with_reducible refine hT.out.mono ?_); rintro e w' ⟨rfl, hb, hw⟩; have hc := cell_of_one hb; clear hb; replace hw := Lib.hid hw)
  go_ret
  exact ⟨rfl, hA.out.trans hw.out⟩

set_option maxHeartbeats 400000 in
theorem check_any (s : ByteArray) (w : World) (hs : s.size ≤ maxLen) :
    Calls Try.prog 56 #[.string s] w fun e w' => e = .returned (.bool (B.check s)) ∧ Below w.heap.size w w' := by
  have hs' := hs
  unfold maxLen at hs'
  have hB : Below w.heap.size w w := Below.refl _ _
  by_cases h : 15 ≤ s.size
  · have h' : (15 : Int) ≤ s.size := by omega
    cases hr : B.right s
    · have hb := Lib.hid (B.check_bad hr)
      go_enter Try.func56, Try.ntmps56
      go_wp2_with (go_at_call 34; (with_reducible refine (right_any _ _ hs).mono ?_); rintro e w' ⟨rfl, rfl⟩)
      go_ret
      exact ⟨ret_bool hb.out.symm, hB⟩
    · have hb := Lib.hid (B.check_good h hr)
      have h4 := B.right_size hr
      go_enter Try.func56, Try.ntmps56
      go_wp2_with (first | (go_at_call 34; (with_reducible refine (right_any _ _ hs).mono ?_); rintro e w' ⟨rfl, rfl⟩) | (go_at_call 47; (with_reducible refine (sumOf_any _ _ h4).mono ?_); rintro e w' ⟨rfl, hb'⟩))
      go_ret
      exact ⟨ret_bool hb.out, hb'⟩
  · have h' : (s.size : Int) < 15 := by omega
    have hb := Lib.hid (B.check_short (s := s) (by omega))
    go_enter Try.func56, Try.ntmps56
    go_wp2
    go_ret
    exact ⟨ret_bool hb.out.symm, hB⟩

/-- a sum in fifteen bits -/
theorem of_15 (n : Nat) (w : World) (h : n < 32768) : Calls Try.prog 46 #[.int .u64 n, .int .i64 15] w fun e w' => e = .returned (.tuple #[.string (B.ofn n 15), .int .i64 0]) ∧ Below w.heap.size w w' :=
  of_yes n 15 w (by omega) (by omega)

set_option maxHeartbeats 400000 in
theorem frame_yes (s : ByteArray) (w : World) (hr : B.right s = true) (hz : s.size ≤ 3985) :
    Calls Try.prog 29 #[.string s] w fun e w' => e = .returned (.tuple #[.string (B.framed s), .int .i64 0]) ∧ Below w.heap.size w w' := by
  have hl := B.sum_lt s
  have hz15 := B.ofn_size (B.sum s) 15
  have h' : (s.size : Int) ≤ 3985 := by omega
  have hB : Below w.heap.size w w := Below.refl _ _
  go_enter Try.func29, Try.ntmps29
  go_wp2_with (first | (go_at_call 34; (with_reducible refine (right_any _ _ (by unfold maxLen; omega)).mono ?_); rintro e w' ⟨rfl, rfl⟩) | (go_at_call 47; (with_reducible refine (sumOf_any _ _ (by omega)).mono ?_); rintro e w' ⟨rfl, hb⟩; replace hB := hB.trans (hb.mono hB.size)) | (go_at_call 46; (with_reducible refine (of_15 _ _ hl).mono ?_); rintro e w' ⟨rfl, hb⟩; replace hB := hB.trans (hb.mono hB.size)))
  go_ret2
  exact ⟨rfl, hB⟩

set_option maxHeartbeats 400000 in
theorem frame_no (s : ByteArray) (w : World) (hs : s.size ≤ maxLen) (hr : B.right s = false ∨ 3985 < s.size) :
    Calls Try.prog 29 #[.string s] w fun e w' => e = .returned (.tuple #[.string ⟨#[]⟩, .int .i64 1]) ∧ w = w' := by
  have hs' := hs
  unfold maxLen at hs'
  by_cases h : 3985 < s.size
  · have h' : (3985 : Int) < s.size := by omega
    go_enter Try.func29, Try.ntmps29
    go_wp2
    go_ret2
    exact ⟨rfl, rfl⟩
  · have h' : (s.size : Int) ≤ 3985 := by omega
    have hr' : B.right s = false := by rcases hr with h1 | h1; exact h1; omega
    clear hr
    go_enter Try.func29, Try.ntmps29
    go_wp2_with (go_at_call 34; (with_reducible refine (right_any _ _ hs).mono ?_); rintro e w' ⟨rfl, rfl⟩)
    go_ret2
    exact ⟨rfl, rfl⟩
end Go.Proofs.Ytdpfmpbnahhjmaa
