/- Own texts joined: Step Of Sum Take. -/
import Derived.Test.YtcaeobkaoebndaaGreatJ1
import Derived.Test.YtcaeobkaoebndaaGreatPlain
import Derived.Test.YtcaeobkaoebndaaGreatRows
import Derived.WalkKit
import Derived.WalkSpells
import Derived.WalkLawsBesides
import Derived.Deep.QuietTactic
import Derived.BigQuiet
import Derived.WalkSmall
import Derived.Deep.AppendLies
import Derived.Test.YtcaeobkaoebndaaGreatJ4
import Derived.OneCell
import Derived.Test.YtcaeobkaoebndaaGreatJ2
/- Step -/
namespace Go.Proofs.YtcaeobkaoebndaaGreat
open Go.RowKit Go.Lib

theorem ret_u32 {a b : Int} (h : a = b) : Ending.returned (.int .u32 a) = .returned (.int .u32 b) := by rw [h]

set_option maxHeartbeats 400000 in
theorem step_any (n c : Nat) (w : World) (hn : n < 4294967296) :
    Calls Tryz.prog 112 #[.int .u32 n, .int .u8 c] w fun e w' => e = .returned (.int .u32 (B.stepN n (decide (c = 49)))) ∧ w = w' := by
  go_enter Tryz.func112, Tryz.ntmps112
  go_wp2
  · rename_i h
    have e := Lib.hid (B.step_yes n c hn h)
    clear h
    go_ret
    exact ⟨ret_u32 e.out, rfl⟩
  · rename_i h
    have e := Lib.hid (B.step_no n c hn h)
    clear h
    go_ret
    exact ⟨ret_u32 e.out, rfl⟩

end Go.Proofs.YtcaeobkaoebndaaGreat

/- Of -/
namespace Go.Proofs.YtcaeobkaoebndaaGreat
open Go.RowKit Go.Lib

theorem Tryz.info5 : (Tryz.prog.info? 5).map (fun i => (i.zero, i.size, i.bytes)) = some (some (.int .u8 0), 1, 1) := by kernel_rfl

set_option maxRecDepth 100000 in
set_option maxHeartbeats 400000 in
theorem of_no (n width : Int) (w : World) (h : width < 0 ∨ 64 < width ∨ (0 ≤ width ∧ (n / 2 ^ width.toNat != 0) = true)) :
    Calls Tryz.prog 103 #[.int .u64 n, .int .i64 width] w fun e w' => e = .returned (.tuple #[.string ⟨#[]⟩, .int .i64 1]) ∧ w = w' := by
  go_enter Tryz.func103, Tryz.ntmps103
  by_cases h1 : width < 0
  · clear h
    go_wp2
    go_ret2
    exact ⟨rfl, rfl⟩
  · by_cases h2 : 64 < width
    · clear h
      go_wp2
      go_ret2
      exact ⟨rfl, rfl⟩
    · have h3 : (n / 2 ^ width.toNat != 0) = true := by rcases h with h | h | h; omega; omega; exact h.2
      clear h
      go_wp2
      go_ret2
      exact ⟨rfl, rfl⟩

set_option maxRecDepth 100000 in
set_option maxHeartbeats 400000 in
theorem of_yes (n k : Nat) (w : World) (h1 : k ≤ 64) (hn : n < 2 ^ k) :
    Calls Tryz.prog 103 #[.int .u64 n, .int .i64 k] w fun e w' => e = .returned (.tuple #[.string (B.ofn n k), .int .i64 0]) ∧ Below w.heap.size w w' := by
  go_enter Tryz.func103, Tryz.ntmps103
  obtain ⟨i0, hi, hz0, hz1, hz2⟩ := info_parts Tryz.info5
  have h3 : ((n : Int) / 2 ^ k != 0) = false := B.shr_zero n k hn
  obtain ⟨B0, hB⟩ : ∃ b, b = w.heap.size := ⟨_, rfl⟩
  rw [← hB]
  have HB := Lib.hid hB
  clear hB
  go_wp2_with (at_make; refine wpList_make_full _ rfl _ _ 67 rfl B0 5 i0 (.int .u8 0) 1 Tryz.underlying67 hi hz0 hz1 _ _ _ _ k rfl rfl rfl rfl ?b1 ?b2 ?b3 ?_)
  case b1 => rw [hz2]; omega
  case b2 => unfold maxLen; omega
  case b3 => rw [HB.out]; exact Nat.le_refl _
  intro w1 hown hgr
  rw [← HB.out] at hown
  rw [← HB.out]
  have hb1 : Below B0 w w1 := (Below.refl _ _).grown hgr (by rw [HB.out]; exact Nat.le_refl _) (by intro _ h; cases h)
  clear hgr
  go_wp2
  go_loopw [24] (fun i wr => ∃ j : Nat, j ≤ k ∧ i = .int .i64 j ∧ wr.ownsRow B0 5 1 (.slice (some ⟨B0, 0, none⟩) k k) k (B.rowAt n k j) ∧ Below B0 w wr) (fun i _ => k - (intOf i).toNat)
  case atStart => exact ⟨0, Nat.zero_le _, rfl, by rw [B.rowAt_zero, ← toList_madeCells_one]; exact hown, hb1⟩
  case round =>
    obtain ⟨j, hj, rfl, ho, hb⟩ := hrel
    by_cases hlt : j < k
    · have hz := ho.frozenAt j
      obtain ⟨v0, hv0⟩ := B.rowAt_some n k j hlt
      have hc := ho.cellAt j (by omega)
      rw [hv0] at hc
      have hst := Lib.hid (B.byte_step n k j hn h1)
      have hset := Lib.hid (B.rowAt_set n k j hlt)
      have HO := Lib.hid ho
      clear hown ho hv0
      go_wp2
      go_roundw
      case rel =>
        refine ⟨j + 1, by omega, by go_num, ?_, hb.setCell (Nat.le_refl _) _⟩
        rw [hst.out, ← hset.out]
        exact (HO.out.stored j _).1
      case measure => simp [intOf]; omega
    · have hjk : j = k := by omega
      rw [hjk, B.rowAt_full] at ho
      have hback := run_back_own (P := Tryz.prog) 67 9 (B.ofl n k) (B.ofl_length n k) Tryz.underlying67 Tryz.underlying5 Tryz.underlying9 ho
      clear hown hjk ho
      go_wp2
      go_ret2
      exact ⟨rfl, hb⟩

theorem of_num (t : ByteArray) (w : World) (h : t.size ≤ 64) (hr : B.right t = true) :
    Calls Tryz.prog 103 #[.int .u64 (B.num t.data.toList), .int .i64 t.size] w fun e w' => e = .returned (.tuple #[.string t, .int .i64 0]) ∧ Below w.heap.size w w' := by
  have := of_yes (B.num t.data.toList) t.size w h (by rw [← B.size_len]; exact B.num_lt _ (B.right_all hr))
  rw [B.ofn_num t (B.right_all hr)] at this
  exact this
end Go.Proofs.YtcaeobkaoebndaaGreat

/- Sum -/
namespace Go.Proofs.YtcaeobkaoebndaaGreat
open Go.RowKit Go.Lib

set_option maxHeartbeats 400000 in
theorem lit_any (n c g : Nat) (w : World) (hn : n < 4294967296) (hB : w.heap[g]? = some (.cells #[.int .u32 n] 22 (0, 0))) :
    Calls Tryz.prog 111 #[.int .u8 c, .pointer (some ⟨g, 0, none⟩)] w fun e w' => e = .returned (.tuple #[]) ∧ w' = w.setCell ⟨g, 0, none⟩ (.int .u32 (B.stepN n (decide (c = 49)))) := by
  have hc := cell_of_one hB
  have hf := free_of_one hB
  clear hB
  go_enter Tryz.func111, Tryz.ntmps111
  go_wp2_with (go_at_call 112; (with_reducible refine (step_any _ _ _ hn).mono ?_); rintro e w' ⟨rfl, rfl⟩)
  go_end0
  exact ⟨rfl, rfl⟩

set_option maxHeartbeats 400000 in
theorem through_any (n g : Nat) (s : ByteArray) (w : World) (hs : s.size ≤ 4000) (hn : n < 4294967296) (hB : w.heap[g]? = some (.cells #[.int .u32 n] 22 (0, 0))) :
    Calls Tryz.prog 110 #[.string s, .func (.func 111) #[] #[.pointer (some ⟨g, 0, none⟩)]] w fun e w' => e = .returned (.tuple #[]) ∧ w'.heap[g]? = some (.cells #[.int .u32 (B.crc n s.data.toList)] 22 (0, 0)) ∧ Below g w w' := by
  go_enter Tryz.func110, Tryz.ntmps110
  go_wp2
  go_loopw [7] (fun i wr => ∃ k : Nat, k ≤ s.size ∧ i = .int .i64 k ∧ wr.heap[g]? = some (.cells #[.int .u32 (B.crc n (s.data.toList.take k))] 22 (0, 0)) ∧ Below g w wr) (fun i _ => s.size - (intOf i).toNat)
  case atStart => exact ⟨0, Nat.zero_le _, rfl, hB, Below.refl _ _⟩
  case round =>
    obtain ⟨k, hk, rfl, hb, hw⟩ := hrel
    by_cases hlt : k < s.size
    · have hL := Lib.hid (lit_any (B.crc n (s.data.toList.take k)) s[k].toNat g wr (B.crc_lt32 n hn _) hb)
      have hS := Lib.hid (B.crc_take_succ n s k hlt)
      have hO := Lib.hid (B.one_dec s[k])
      have hb' := Lib.hid hb
      have hw' := Lib.hid hw
      clear hb hw hB
      go_wp2_with (go_at_call 111; (with_reducible refine hL.out.mono ?_); rintro e w' ⟨rfl, rfl⟩)
      go_roundw
      case rel =>
        refine ⟨k + 1, by omega, by go_num, ?_, hw'.out.setCell (Nat.le_refl _) _⟩
        rw [hS.out, hO.out]
        exact one_setCell hb'.out
      case measure => simp [intOf]; omega
    · have hb' := Lib.hid (show s.data.toList.take k = s.data.toList from List.take_of_length_le (by rw [B.size_len]; omega))
      go_wp2
      go_end0
      exact ⟨rfl, by rw [← hb'.out]; exact hb, hw⟩

set_option maxHeartbeats 400000 in
theorem sumOf_any (s : ByteArray) (w : World) (hs : s.size ≤ 4000) :
    Calls Tryz.prog 100 #[.string s] w fun e w' => e = .returned (.int .u32 (B.sum s)) ∧ Below w.heap.size w w' := by
  have hmf : ∀ (fn : Fn) (first cap : Array Value) (w : World), (Instr.makeFunc fn first cap).run Tryz.prog w = .ok (.func fn first cap) w := fun _ _ _ _ => rfl
  have hT := Lib.hid (through_any 0 w.heap.size s (w.alloc (.cells #[.int .u32 0] 22)) hs (by omega) (heap_alloc_new _ _))
  have hA := Lib.hid (show Below w.heap.size w (w.alloc (.cells #[.int .u32 0] 22)) from (Below.refl _ _).alloc (Nat.le_refl _) _)
  go_enter Tryz.func100, Tryz.ntmps100
  go_wp2_with (go_at_call 110; (with_reducible refine hT.out.mono ?_); rintro e w' ⟨rfl, hb, hw⟩; have hc := cell_of_one hb; clear hb; replace hw := Lib.hid hw)
  go_ret
  exact ⟨rfl, hA.out.trans hw.out⟩

set_option maxHeartbeats 400000 in
theorem check_any (s : ByteArray) (w : World) (hs : s.size ≤ maxLen) :
    Calls Tryz.prog 86 #[.string s] w fun e w' => e = .returned (.bool (B.check s)) ∧ Below w.heap.size w w' := by
  have hs' := hs
  unfold maxLen at hs'
  have hB : Below w.heap.size w w := Below.refl _ _
  by_cases h : 15 ≤ s.size
  · have h' : (15 : Int) ≤ s.size := by omega
    cases hr : B.right s
    · have hb := Lib.hid (B.check_bad hr)
      go_enter Tryz.func86, Tryz.ntmps86
      go_wp2_with (go_at_call 82; (with_reducible refine (right_any _ _ hs).mono ?_); rintro e w' ⟨rfl, rfl⟩)
      go_ret
      exact ⟨ret_bool hb.out.symm, hB⟩
    · have hb := Lib.hid (B.check_good h hr)
      have h4 := B.right_size hr
      go_enter Tryz.func86, Tryz.ntmps86
      go_wp2_with (first | (go_at_call 82; (with_reducible refine (right_any _ _ hs).mono ?_); rintro e w' ⟨rfl, rfl⟩) | (go_at_call 100; (with_reducible refine (sumOf_any _ _ h4).mono ?_); rintro e w' ⟨rfl, hb'⟩))
      go_ret
      exact ⟨ret_bool hb.out, hb'⟩
  · have h' : (s.size : Int) < 15 := by omega
    have hb := Lib.hid (B.check_short (s := s) (by omega))
    go_enter Tryz.func86, Tryz.ntmps86
    go_wp2
    go_ret
    exact ⟨ret_bool hb.out.symm, hB⟩

/-- a sum in fifteen bits -/
theorem of_15 (n : Nat) (w : World) (h : n < 32768) : Calls Tryz.prog 103 #[.int .u64 n, .int .i64 15] w fun e w' => e = .returned (.tuple #[.string (B.ofn n 15), .int .i64 0]) ∧ Below w.heap.size w w' :=
  of_yes n 15 w (by omega) (by omega)

set_option maxHeartbeats 400000 in
theorem frame_yes (s : ByteArray) (w : World) (hr : B.right s = true) (hz : s.size ≤ 3985) :
    Calls Tryz.prog 89 #[.string s] w fun e w' => e = .returned (.tuple #[.string (B.framed s), .int .i64 0]) ∧ Below w.heap.size w w' := by
  have hl := B.sum_lt s
  have hz15 := B.ofn_size (B.sum s) 15
  have h' : (s.size : Int) ≤ 3985 := by omega
  have hB : Below w.heap.size w w := Below.refl _ _
  go_enter Tryz.func89, Tryz.ntmps89
  go_wp2_with (first | (go_at_call 82; (with_reducible refine (right_any _ _ (by unfold maxLen; omega)).mono ?_); rintro e w' ⟨rfl, rfl⟩) | (go_at_call 100; (with_reducible refine (sumOf_any _ _ (by omega)).mono ?_); rintro e w' ⟨rfl, hb⟩; replace hB := hB.trans (hb.mono hB.size)) | (go_at_call 103; (with_reducible refine (of_15 _ _ hl).mono ?_); rintro e w' ⟨rfl, hb⟩; replace hB := hB.trans (hb.mono hB.size)))
  go_ret2
  exact ⟨rfl, hB⟩

set_option maxHeartbeats 400000 in
theorem frame_no (s : ByteArray) (w : World) (hs : s.size ≤ maxLen) (hr : B.right s = false ∨ 3985 < s.size) :
    Calls Tryz.prog 89 #[.string s] w fun e w' => e = .returned (.tuple #[.string ⟨#[]⟩, .int .i64 1]) ∧ w = w' := by
  have hs' := hs
  unfold maxLen at hs'
  by_cases h : 3985 < s.size
  · have h' : (3985 : Int) < s.size := by omega
    go_enter Tryz.func89, Tryz.ntmps89
    go_wp2
    go_ret2
    exact ⟨rfl, rfl⟩
  · have h' : (s.size : Int) ≤ 3985 := by omega
    have hr' : B.right s = false := by rcases hr with h1 | h1; exact h1; omega
    clear hr
    go_enter Tryz.func89, Tryz.ntmps89
    go_wp2_with (go_at_call 82; (with_reducible refine (right_any _ _ hs).mono ?_); rintro e w' ⟨rfl, rfl⟩)
    go_ret2
    exact ⟨rfl, rfl⟩
end Go.Proofs.YtcaeobkaoebndaaGreat

/- Take -/
namespace Go.Proofs.YtcaeobkaoebndaaGreat
open Go.RowKit Go.Lib

theorem mayB_of {x n : Nat} (h : B.may (x, n)) : B.mayB x n = true := by
  unfold B.may at h; simp only at h; simp only [B.mayB, decide_eq_true_eq]; omega
theorem bitB_of {c : UInt8} (h : B.okc c = true) : B.bitB c.toNat = true := by
  simp only [B.bitB, decide_eq_true_eq]; exact (B.okc_iff c).1 h

set_option maxHeartbeats 400000 in
theorem full_any (b n g : Nat) (w : World) (hB : Two w g (.int .u8 b) (.int .i64 n) 127) :
    Calls Tryz.prog 106 #[.pointer (some ⟨g, 0, none⟩)] w fun e w' => e = .returned (.bool (decide (n = 5))) ∧ w = w' := by
  have hc0 := hB.cell0
  have hc1 := hB.cell1
  clear hB
  go_enter Tryz.func106, Tryz.ntmps106
  go_wp2
  go_ret
  exact ⟨ret_bool (by rw [Bool.eq_iff_iff]; simp; omega), rfl⟩

set_option maxHeartbeats 400000 in
theorem isBit_any (c : Nat) (w : World) :
    Calls Tryz.prog 81 #[.int .u8 c] w fun e w' => e = .returned (.bool (B.bitB c)) ∧ w = w' := by
  go_enter Tryz.func81, Tryz.ntmps81
  go_wp2
  all_goals
    go_ret
    exact ⟨ret_bool (by rw [Bool.eq_iff_iff]; simp [B.bitB]; omega), rfl⟩

set_option maxHeartbeats 400000 in
theorem right3_exact (b : Nat) (n : Int) (w : World) :
    Calls Tryz.prog 63 #[.agg #[.int .u8 b, .int .i64 n]] w fun e w' => e = .returned (.bool (B.mayB b n)) ∧ w' = w.alloc (.cells #[.int .u8 b, .int .i64 n] 31) := by
  go_enter Tryz.func63, Tryz.ntmps63
  go_wp2_with (go_at_call 81; (with_reducible refine (isBit_any _ _).mono ?_); rintro e w' ⟨rfl, rfl⟩)
  all_goals
    go_ret
    refine ⟨ret_bool ?_, rfl⟩
    simp only [beq_iff_eq, beq_eq_false_iff_ne, ne_eq, B.bitB, decide_eq_true_eq] at *
    rw [Bool.eq_iff_iff]
    simp [B.mayB]
    try omega

theorem right3_any (b : Nat) (n : Int) (w : World) :
    Calls Tryz.prog 63 #[.agg #[.int .u8 b, .int .i64 n]] w fun e w' => e = .returned (.bool (B.mayB b n)) ∧ Below w.heap.size w w' :=
  (right3_exact b n w).mono fun _ _ ⟨he, hw⟩ => ⟨he, hw ▸ (Below.refl _ _).alloc (Nat.le_refl _) _⟩
set_option maxHeartbeats 400000 in
theorem take_err (b n c g : Nat) (w : World) (hB : Two w g (.int .u8 b) (.int .i64 n) 127) (h : c = b) (h5 : n = 5) :
    Calls Tryz.prog 105 #[.pointer (some ⟨g, 0, none⟩), .int .u8 c] w fun e w' => e = .returned (.int .i64 3) ∧ w' = w := by
  subst h h5
  have hc0 := hB.cell0
  have hc1 := hB.cell1
  have CF := Lib.hid (full_any c 5 g w hB)
  clear hB
  go_enter Tryz.func105, Tryz.ntmps105
  go_wp2_with (go_at_call 106; (with_reducible refine CF.out.mono ?_); rintro e w' ⟨rfl, rfl⟩)
  go_ret
  exact ⟨rfl, rfl⟩

set_option maxHeartbeats 400000 in
theorem take_more (b n c g : Nat) (w : World) (hB : Two w g (.int .u8 b) (.int .i64 n) 127) (h : c = b) (hn : n < 5) :
    Calls Tryz.prog 105 #[.pointer (some ⟨g, 0, none⟩), .int .u8 c] w fun e w' => e = .returned (.int .i64 1) ∧ w' = w.setCell ⟨g, 1, none⟩ (.int .i64 ((n : Int) + 1)) := by
  subst h
  have hc0 := hB.cell0
  have hc1 := hB.cell1
  have hf0 := hB.free0
  have hf1 := hB.free1
  have h5 : decide (n = 5) = false := by simp; omega
  have CF := Lib.hid (full_any c n g w hB)
  clear hB
  go_enter Tryz.func105, Tryz.ntmps105
  go_wp2_with (go_at_call 106; (with_reducible refine CF.out.mono ?_); rintro e w' ⟨rfl, rfl⟩)
  go_ret
  exact ⟨rfl, rfl⟩

set_option maxHeartbeats 400000 in
theorem take_one (b n c g : Nat) (w : World) (hB : Two w g (.int .u8 b) (.int .i64 n) 127) (h : c ≠ b) :
    Calls Tryz.prog 105 #[.pointer (some ⟨g, 0, none⟩), .int .u8 c] w fun e w' => e = .returned (.int .i64 (if n = 5 then 2 else 1)) ∧ w' = (w.setCell ⟨g, 0, none⟩ (.int .u8 c)).setCell ⟨g, 1, none⟩ (.int .i64 1) := by
  have hc0 := hB.cell0
  have hc1 := hB.cell1
  have hf0 := hB.free0
  have hf1 := hB.free1
  have CF := Lib.hid (full_any b n g w hB)
  have hne : ((c : Int) == b) = false := by simp; omega
  clear hB
  by_cases h5 : n = 5
  · subst h5
    go_enter Tryz.func105, Tryz.ntmps105
    go_wp2_with (go_at_call 106; (with_reducible refine CF.out.mono ?_); rintro e w' ⟨rfl, rfl⟩)
    go_ret
    exact ⟨rfl, rfl⟩
  · have h5' : decide (n = 5) = false := by simp [h5]
    go_enter Tryz.func105, Tryz.ntmps105
    go_wp2_with (go_at_call 106; (with_reducible refine CF.out.mono ?_); rintro e w' ⟨rfl, rfl⟩)
    go_ret
    exact ⟨rfl, rfl⟩

/-- what take does, in one -/
theorem take_any (b n c g : Nat) (w : World) (hn : n ≤ 5) (hB : Two w g (.int .u8 b) (.int .i64 n) 127) :
    Calls Tryz.prog 105 #[.pointer (some ⟨g, 0, none⟩), .int .u8 c] w fun e w' => e = .returned (.int .i64 (B.kind (b, n) c)) ∧ Two w' g (.int .u8 (B.kn (b, n) c).1) (.int .i64 (B.kn (b, n) c).2) 127 ∧ At g w w' := by
  by_cases h : c = b
  · by_cases h5 : n = 5
    · rw [B.kind_err h h5, B.kn_err h h5]
      exact (take_err b n c g w hB h h5).mono fun e w' ⟨he, hw⟩ => ⟨he, hw ▸ hB, hw ▸ At.refl _ _⟩
    · rw [B.kind_more h h5, B.kn_more h h5]
      refine (take_more b n c g w hB h (by omega)).mono fun e w' ⟨he, hw⟩ => ⟨he, ?_, ?_⟩
      · subst hw h; exact hB.set1 _
      · subst hw; exact (At.refl g _).setCell _ _
  · have h2 : B.kind (b, n) c = if n = 5 then 2 else 1 := by unfold B.kind; rw [if_neg h]
    rw [B.kn_one h, h2]
    refine (take_one b n c g w hB h).mono fun e w' ⟨he, hw⟩ => ⟨?_, ?_, ?_⟩
    · rw [he]; by_cases h5 : n = 5
      · rw [if_pos h5, if_pos h5]; rfl
      · rw [if_neg h5, if_neg h5]; rfl
    · subst hw; exact (hB.set0 _).set1 _
    · subst hw; exact ((At.refl g _).setCell _ _).setCell _ _
end Go.Proofs.YtcaeobkaoebndaaGreat
