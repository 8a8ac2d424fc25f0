/- The walks of package bits' calls Right, Number and Of: what each returns, as a plain function of its arguments; none writes anything that was there. -/
import Derived.Test.YtfnofajglbjgjaaRows
import Derived.WalkKit
import Derived.WalkSpells
import Derived.WalkLawsBesides
import Derived.Test.YtfnofajglbjgjaaBits
import Derived.Deep.QuietTactic
import Derived.BigQuiet
namespace Go.Proofs.Ytfnofajglbjgjaa
open Go.RowKit Go.Lib

theorem ret_bool {a b : Bool} (h : a = b) : Ending.returned (.bool a) = .returned (.bool b) := by rw [h]
set_option maxHeartbeats 400000 in
theorem right_any (s : ByteArray) (w : World) (hs : s.size ≤ maxLen) :
    Calls Try.prog 11 #[.string s] w fun e w' => e = .returned (.bool (B.right s)) ∧ w = w' := by
  unfold maxLen at hs
  go_enter Try.func11, Try.ntmps11
  by_cases h : s.size ≤ 4000
  · go_wp2
    go_loop [9] (fun i => ∃ k : Nat, k ≤ s.size ∧ i = .int .i64 k ∧ B.pre s k) (fun i => s.size - (intOf i).toNat)
    case atStart => exact ⟨0, Nat.zero_le _, rfl, B.pre_zero s⟩
    case round =>
      obtain ⟨k, hk, rfl, hp⟩ := hrel
      by_cases hlt : k < s.size
      · by_cases h1 : s[k].toNat = 48
        · have hp' := B.pre_succ hlt hp (.inl h1)
          go_wp2
          go_round
          case rel => exact ⟨k + 1, by omega, by go_num, hp'⟩
          case measure => simp [intOf]; omega
        · by_cases h2 : s[k].toNat = 49
          · have hp' := B.pre_succ hlt hp (.inr h2)
            go_wp2
            go_round
            case rel => exact ⟨k + 1, by omega, by go_num, hp'⟩
            case measure => simp [intOf]; omega
          · have hb := Lib.hid (B.right_bad hlt h1 h2)
            have h3 : ((s[k].toNat : Int) != 48) = true := by simp; omega
            have h4 : ((s[k].toNat : Int) != 49) = true := by simp; omega
            go_wp2
            go_ret
            exact ⟨ret_bool hb.out.symm, rfl⟩
      · have hb := Lib.hid (B.right_of_pre h (by rw [show s.size = k from by omega]; exact hp))
        go_wp2
        go_ret
        exact ⟨ret_bool hb.out.symm, rfl⟩
  · have hb := Lib.hid (B.right_long h)
    have h3 : (4000 : Int) < s.size := by omega
    go_wp2
    go_ret
    exact ⟨ret_bool hb.out.symm, rfl⟩


theorem val_u64 {a b : Int} (h : a = b) : Value.int .u64 a = .int .u64 b := by rw [h]
theorem ret_u64 {a b : Int} (h : a = b) : Ending.returned (.tuple #[.int .u64 a, .int .i64 0]) = .returned (.tuple #[.int .u64 b, .int .i64 0]) := by rw [h]

set_option maxHeartbeats 400000 in
theorem number_yes (s : ByteArray) (w : World) (hs : s.size ≤ 64) (hr : B.right s = true) :
    Calls Try.prog 10 #[.string s] w fun e w' => e = .returned (.tuple #[.int .u64 (B.num s.data.toList), .int .i64 0]) ∧ w = w' := by
  go_enter Try.func10, Try.ntmps10
  have hs' : s.size ≤ maxLen := by unfold maxLen; omega
  go_wp2_with (go_at_call 11; refine (right_any _ _ hs').mono ?_; rintro e w' ⟨rfl, rfl⟩)
  go_loop [4, 16] (fun n i => ∃ k : Nat, k ≤ s.size ∧ i = .int .i64 k ∧ n = .int .u64 (B.num (s.data.toList.take k))) (fun _ i => s.size - (intOf i).toNat)
  case atStart => exact ⟨0, Nat.zero_le _, rfl, rfl⟩
  case round =>
    obtain ⟨k, hk, rfl, rfl⟩ := hrel
    by_cases hlt : k < s.size
    · have hb : 48 ≤ s[k].toNat ∧ s[k].toNat ≤ 49 := B.right_bound hr k hlt
      have hn : B.num (s.data.toList.take k) < 2 ^ 63 := B.num_take_lt hr k (by omega)
      obtain ⟨m, hm⟩ : ∃ m, m = B.num (s.data.toList.take k) := ⟨_, rfl⟩
      obtain ⟨b, hbb⟩ : ∃ b, b = s[k].toNat - 48 := ⟨_, rfl⟩
      have hm2 : (m : Int) < 9223372036854775808 := by omega
      have hst := Lib.hid (B.or_step m b (by omega) (by omega))
      have hsn := Lib.hid (B.num_take_succ s k hlt)
      rw [← hm]
      have hm' := Lib.hid hm
      clear hm
      have hbb' := Lib.hid hbb
      clear hbb hn
      go_wp2
      go_round
      case rel => exact ⟨k + 1, by omega, by go_num, val_u64 (by rw [show ((s[k].toNat : Int) - 48) = ((b : Nat) : Int) from by have := hbb'.out; omega, hst.out, hsn.out, ← hm'.out, hbb'.out])⟩
      case measure => simp [intOf]; omega
    · have hb := Lib.hid (show s.data.toList.take k = s.data.toList from List.take_of_length_le (by rw [B.size_len]; omega))
      go_wp2
      go_ret2
      exact ⟨ret_u64 (by rw [hb.out]), rfl⟩

set_option maxHeartbeats 400000 in
theorem number_no (s : ByteArray) (w : World) (hs : s.size ≤ maxLen) (hr : B.right s = false ∨ 64 < s.size) :
    Calls Try.prog 10 #[.string s] w fun e w' => e = .returned (.tuple #[.int .u64 0, .int .i64 1]) ∧ w = w' := by
  go_enter Try.func10, Try.ntmps10
  by_cases h : 64 < s.size
  · have h' : (64 : Int) < s.size := by omega
    go_wp2_with (go_at_call 11; refine (right_any _ _ hs).mono ?_; rintro e w' ⟨rfl, rfl⟩)
    go_ret2
    exact ⟨rfl, rfl⟩
  · have hr' : B.right s = false := by rcases hr with h1 | h1; exact h1; omega
    have h' : ¬ (64 : Int) < s.size := by omega
    clear hr
    go_wp2_with (go_at_call 11; refine (right_any _ _ hs).mono ?_; rintro e w' ⟨rfl, rfl⟩)
    go_ret2
    exact ⟨rfl, rfl⟩

theorem Try.info5 : (Try.prog.info? 5).map (fun i => (i.zero, i.size, i.bytes)) = some (some (.int .u8 0), 1, 1) := by kernel_rfl

/-- 'string(row)', the row one of the call's own. -/
theorem run_back_own {P : Program} {w : World} {base g k cap : Nat} {e : TypeId} (src dst : TypeId) (l : List UInt8) (hl : l.length = k) (hs : P.underlying src = some (.slice e)) (he : P.underlying e = some (.int .u8)) (hd : P.underlying dst = some .string)
    (ho : w.ownsRow base e 1 (.slice (some ⟨g, 0, none⟩) k cap) k (l.map fun c => Value.int .u8 c.toNat)) :
    (convert src dst (.slice (some ⟨g, 0, none⟩) k cap)).run P w = .ok (.string ⟨l.toArray⟩) w := by
  subst hl
  refine run_convert_bytes_back (P := P) w src dst e ⟨g, 0, none⟩ cap l hs he hd (fun i hi => ?_)
  have e1 : (⟨g, 0, none⟩ : Addr).add i = ⟨g, i, none⟩ := by simp [Addr.add]; intro h; omega
  rw [e1, ho.cellAt i (by omega)]
  simp [hi]

theorem ret_str {a b : ByteArray} (h : a = b) : Ending.returned (.tuple #[.string a, .int .i64 0]) = .returned (.tuple #[.string b, .int .i64 0]) := by rw [h]

set_option maxHeartbeats 400000 in
theorem of_no (n width : Int) (w : World) (h : width < 0 ∨ 64 < width ∨ (0 ≤ width ∧ (n / 2 ^ width.toNat != 0) = true)) :
    Calls Try.prog 9 #[.int .u64 n, .int .i64 width] w fun e w' => e = .returned (.tuple #[.string ⟨#[]⟩, .int .i64 1]) ∧ w = w' := by
  go_enter Try.func9, Try.ntmps9
  by_cases h1 : width < 0
  · clear h
    go_wp2
    go_ret2
    exact ⟨rfl, rfl⟩
  · by_cases h2 : 64 < width
    · clear h
      go_wp2
      go_ret2
      exact ⟨rfl, rfl⟩
    · have h3 : (n / 2 ^ width.toNat != 0) = true := by rcases h with h | h | h; omega; omega; exact h.2
      clear h
      go_wp2
      go_ret2
      exact ⟨rfl, rfl⟩

set_option maxHeartbeats 400000 in
theorem of_yes (n k : Nat) (w : World) (h1 : k ≤ 64) (hn : n < 2 ^ k) :
    Calls Try.prog 9 #[.int .u64 n, .int .i64 k] w fun e w' => e = .returned (.tuple #[.string (B.ofn n k), .int .i64 0]) ∧ Below w.heap.size w w' := by
  go_enter Try.func9, Try.ntmps9
  obtain ⟨i0, hi, hz0, hz1, hz2⟩ := info_parts Try.info5
  have h3 : ((n : Int) / 2 ^ k != 0) = false := B.shr_zero n k hn
  obtain ⟨B0, hB⟩ : ∃ b, b = w.heap.size := ⟨_, rfl⟩
  rw [← hB]
  have HB := Lib.hid hB
  clear hB
  go_wp2_with (at_make; refine wpList_make_full _ rfl _ _ 52 rfl B0 5 i0 (.int .u8 0) 1 Try.underlying52 hi hz0 hz1 _ _ _ _ k rfl rfl rfl rfl ?b1 ?b2 ?b3 ?_)
  case b1 => rw [hz2]; omega
  case b2 => unfold maxLen; omega
  case b3 => rw [HB.out]; exact Nat.le_refl _
  intro w1 hown hgr
  rw [← HB.out] at hown
  rw [← HB.out]
  have hb1 : Below B0 w w1 := (Below.refl _ _).grown hgr (by rw [HB.out]; exact Nat.le_refl _) (by intro _ h; cases h)
  clear hgr
  go_wp2
  go_loopw [24] (fun i wr => ∃ j : Nat, j ≤ k ∧ i = .int .i64 j ∧ wr.ownsRow B0 5 1 (.slice (some ⟨B0, 0, none⟩) k k) k (B.rowAt n k j) ∧ Below B0 w wr) (fun i _ => k - (intOf i).toNat)
  case atStart => exact ⟨0, Nat.zero_le _, rfl, by rw [B.rowAt_zero, ← toList_madeCells_one]; exact hown, hb1⟩
  case round =>
    obtain ⟨j, hj, rfl, ho, hb⟩ := hrel
    by_cases hlt : j < k
    · have hz := ho.frozenAt j
      obtain ⟨v0, hv0⟩ := B.rowAt_some n k j hlt
      have hc := ho.cellAt j (by omega)
      rw [hv0] at hc
      have hst := Lib.hid (B.byte_step n k j hn h1)
      have hset := Lib.hid (B.rowAt_set n k j hlt)
      have HO := Lib.hid ho
      clear hown ho hv0
      go_wp2
      go_roundw
      case rel =>
        refine ⟨j + 1, by omega, by go_num, ?_, hb.setCell (Nat.le_refl _) _⟩
        rw [hst.out, ← hset.out]
        exact (HO.out.stored j _).1
      case measure => simp [intOf]; omega
    · have hjk : j = k := by omega
      rw [hjk, B.rowAt_full] at ho
      have hback := run_back_own (P := Try.prog) 52 9 (B.ofl n k) (B.ofl_length n k) Try.underlying52 Try.underlying5 Try.underlying9 ho
      clear hown hjk ho
      go_wp2
      go_ret2
      exact ⟨rfl, hb⟩
end Go.Proofs.Ytfnofajglbjgjaa
