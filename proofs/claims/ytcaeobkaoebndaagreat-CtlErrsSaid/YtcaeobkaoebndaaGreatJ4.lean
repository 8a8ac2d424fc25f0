/- Own texts joined: RefNum Ref4c Ref4d Right Number. -/
import Derived.Test.YtcaeobkaoebndaaGreatJ2
import Derived.Test.YtcaeobkaoebndaaGreatPlain
import Derived.Test.YtcaeobkaoebndaaGreatRef4b
import Derived.Deep.RegionHeld3
import Derived.Deep.DrawnRows
import Derived.Test.YtcaeobkaoebndaaGreatRows
import Derived.WalkKit
import Derived.WalkSpells
import Derived.WalkLawsBesides
import Derived.Deep.QuietTactic
import Derived.BigQuiet
import Derived.WalkSmall
import Derived.Deep.AppendLies
import Derived.Test.YtcaeobkaoebndaaGreatJ1
/- RefNum -/
namespace Go.Proofs.YtcaeobkaoebndaaGreat
open Go.RowKit Go.Lib

theorem B.num_dbl (m : Nat) (hm : m < 2 ^ 63) : IntKind.u64.wrap (2 * (m : Int)) = ((2 * m : Nat) : Int) := by
  have e : (2 * (m : Int)) = ((2 * m : Nat) : Int) := by omega
  rw [e]; exact IntWalk.u64_in _ (by omega)

end Go.Proofs.YtcaeobkaoebndaaGreat

/- Ref4c -/
namespace Go.Proofs.YtcaeobkaoebndaaGreat
open Go.RowKit Go.Lib

theorem bitAt_of (s : ByteArray) (i : Nat) (h : i < s.size) : B.bitAt s.data.toList i = s[i] := by
  unfold B.bitAt
  rw [List.getD_eq_getElem?_getD, List.getElem?_eq_getElem (by rw [B.size_len]; exact h)]; rfl
theorem cutL_of (s : ByteArray) (a b : Nat) : B.cutL s.data.toList a b = (s.extract a b).data.toList := by
  unfold B.cutL; rw [Lib.extract_data, List.drop_take]
theorem base_of (s : ByteArray) (h : 13 < s.size) : B.baseL s.data.toList = if s[13].toNat = 49 then 39 else 19 := by
  unfold B.baseL
  rw [bitAt_of s 13 h]
  by_cases e : s[13].toNat = 49
  · rw [if_pos e, if_pos (UInt8.toNat_inj.1 e)]
  · rw [if_neg e, if_neg (fun e2 => e (by rw [e2]; rfl))]
theorem right_cut {s : ByteArray} (hr : B.right s = true) (a b : Nat) : B.right (s.extract a b) = true := by
  have h4 := B.right_size hr
  refine right_of_all (by rw [ByteArray.size_extract]; omega) ?_
  rw [Lib.extract_data]
  refine B.all_take ?_ _
  have := B.right_all hr
  rw [List.all_eq_true] at *; intro x hx; exact this x (List.mem_of_mem_drop hx)
theorem right_cat {a b : ByteArray} (ha : B.right a = true) (hb : B.right b = true) (hz : a.size + b.size ≤ 4000) : B.right (a ++ b) = true :=
  right_of_all (by rw [ByteArray.size_append]; exact hz) (by rw [B.cat_list, List.all_append, B.right_all ha, B.right_all hb]; rfl)
theorem size_14 {s : ByteArray} (h : s.size < 14) : B.sizeL s.data.toList = (0, 3) := by
  unfold B.sizeL; rw [if_pos (by rw [B.size_len]; exact h)]
theorem size_base {s : ByteArray} {n : Nat} (h : 13 < s.size) (hb : (if s[13].toNat = 49 then 39 else 19) = n) (hn : s.size < n) : B.sizeL s.data.toList = (0, 3) := by
  unfold B.sizeL; rw [if_neg (by rw [B.size_len]; omega), base_of s h, hb, if_pos (by rw [B.size_len]; exact hn)]
theorem size_dlc {s : ByteArray} {n : Nat} (h : 13 < s.size) (hb : (if s[13].toNat = 49 then 39 else 19) = n) (hn : n ≤ s.size) (hd : 8 < B.num (s.extract (n - 4) n).data.toList) : B.sizeL s.data.toList = (0, 12) := by
  unfold B.sizeL; rw [if_neg (by rw [B.size_len]; omega), base_of s h, hb, if_neg (by rw [B.size_len]; omega), cutL_of, if_pos hd]
theorem size_ok {s : ByteArray} {n : Nat} (h : 13 < s.size) (hb : (if s[13].toNat = 49 then 39 else 19) = n) (hn : n ≤ s.size) (hd : B.num (s.extract (n - 4) n).data.toList ≤ 8) (h7 : n - 7 < s.size) :
    B.sizeL s.data.toList = (n + 8 * (if s[n - 7].toNat = 49 then 0 else B.num (s.extract (n - 4) n).data.toList), 0) := by
  unfold B.sizeL
  rw [if_neg (by rw [B.size_len]; omega), base_of s h, hb, if_neg (by rw [B.size_len]; omega), cutL_of, if_neg (by omega), bitAt_of s _ h7]
  congr 3
  by_cases e : s[n - 7].toNat = 49
  · rw [if_pos e, if_pos (UInt8.toNat_inj.1 e)]
  · rw [if_neg e, if_neg (fun e2 => e (by rw [e2]; rfl))]
theorem ret_two {a b c d : Int} (h : a = c) (k : b = d) : Ending.returned (.tuple #[.int .i64 a, .int .i64 b]) = .returned (.tuple #[.int .i64 c, .int .i64 d]) := by rw [h, k]

end Go.Proofs.YtcaeobkaoebndaaGreat

/- Ref4d -/
namespace Go.Proofs.YtcaeobkaoebndaaGreat
open Go.RowKit Go.Lib
attribute [local go_sem ↓] Go.wp_at_zero Go.wp_at_succ

theorem B.bytesL_succ : ∀ (j : Nat) (l : List UInt8), B.bytesL (j + 1) l = B.bytesL j l ++ [UInt8.ofNat (B.num ((l.drop (8 * j)).take 8))] := by
  intro j
  induction j with
  | zero => intro l; simp [B.bytesL]
  | succ j ih =>
    intro l
    rw [B.bytesL, ih (l.drop 8), B.bytesL, List.drop_drop, show 8 + 8 * j = 8 * (j + 1) from by omega]; rfl
theorem B.bytesL_length (j : Nat) (l : List UInt8) : (B.bytesL j l).length = j := by
  induction j generalizing l with
  | zero => rfl
  | succ j ih => rw [B.bytesL, List.length_cons, ih]

theorem cut_lt {s : ByteArray} (hr : B.right s = true) (a b k : Nat) (hb : b ≤ s.size) (hk : b - a = k) : B.num (s.extract a b).data.toList < 2 ^ k := by
  have hl := B.num_lt _ (B.right_all (right_cut hr a b))
  have : (s.extract a b).data.toList.length = k := by rw [B.size_len, ByteArray.size_extract]; omega
  rwa [this] at hl
theorem vals_next (s : ByteArray) (n j k : Nat) (hk : k = n + 8 * j) (hm : B.num (s.extract k (k + 8)).data.toList < 256) :
    B.vals (B.bytesL j (s.data.toList.drop n)) ++ [.int .u8 (B.num (s.extract k (k + 8)).data.toList : Int)] = B.vals (B.bytesL (j + 1) (s.data.toList.drop n)) := by
  have e : List.take 8 (List.drop (8 * j) (List.drop n s.data.toList)) = (s.extract k (k + 8)).data.toList := by
    rw [Lib.extract_data, List.drop_drop, hk]; congr 1; omega
  rw [B.bytesL_succ, e]
  simp only [List.map_append, List.map_cons, List.map_nil]
  rw [UInt8.toNat_ofNat', Nat.mod_eq_of_lt hm]
theorem frI_of {f : B.Fr} (h : B.FrR f) : B.frI f.id f.ext f.remote (f.dlc : Int) (⟨f.data.toArray⟩ : ByteArray).size = true := by
  obtain ⟨h1, h2, h3⟩ := h
  unfold B.frI
  rw [size_of, Bool.and_eq_true, Bool.and_eq_true, decide_eq_true_eq, decide_eq_true_eq]
  refine ⟨⟨by omega, ?_⟩, h3⟩
  split at h2
  · rename_i hr; rw [if_pos hr, h2]; rfl
  · rename_i hr; rw [if_neg hr, h2]; simp
/-- is the row just the frame's head -/
def B.headB (f : B.Fr) (s : ByteArray) : Bool := (⟨(B.headL f).toArray⟩ : ByteArray).toList == s.toList
theorem ret_fr {i j n m : Nat} {x r : Bool} {d : ByteArray} {l : List UInt8} {s : ByteArray} (h : i = j ∧ n = m) :
    Ending.returned (.tuple #[.agg (frV i x r (n : Int) d), .bool (B.headB ⟨i, x, r, n, l⟩ s)]) = .returned (.tuple #[.agg (frV j x r (m : Int) d), .bool (B.headB ⟨j, x, r, m, l⟩ s)]) := by rw [h.1, h.2]
end Go.Proofs.YtcaeobkaoebndaaGreat

/- Right -/
namespace Go.Proofs.YtcaeobkaoebndaaGreat
open Go.RowKit Go.Lib

set_option maxHeartbeats 400000 in
theorem right_any (s : ByteArray) (w : World) (hs : s.size ≤ maxLen) :
    Calls Tryz.prog 82 #[.string s] w fun e w' => e = .returned (.bool (B.right s)) ∧ w = w' := by
  unfold maxLen at hs
  go_enter Tryz.func82, Tryz.ntmps82
  by_cases h : s.size ≤ 4000
  · go_wp2
    go_loop [9] (fun i => ∃ k : Nat, k ≤ s.size ∧ i = .int .i64 k ∧ B.pre s k) (fun i => s.size - (intOf i).toNat)
    case atStart => exact ⟨0, Nat.zero_le _, rfl, B.pre_zero s⟩
    case round =>
      obtain ⟨k, hk, rfl, hp⟩ := hrel
      by_cases hlt : k < s.size
      · by_cases h1 : s[k].toNat = 48
        · have hp' := B.pre_succ hlt hp (.inl h1)
          go_wp2
          go_round
          case rel => exact ⟨k + 1, by omega, by go_num, hp'⟩
          case measure => simp [intOf]; omega
        · by_cases h2 : s[k].toNat = 49
          · have hp' := B.pre_succ hlt hp (.inr h2)
            go_wp2
            go_round
            case rel => exact ⟨k + 1, by omega, by go_num, hp'⟩
            case measure => simp [intOf]; omega
          · have hb := Lib.hid (B.right_bad hlt h1 h2)
            have h3 : ((s[k].toNat : Int) != 48) = true := by simp; omega
            have h4 : ((s[k].toNat : Int) != 49) = true := by simp; omega
            go_wp2
            go_ret
            exact ⟨ret_bool hb.out.symm, rfl⟩
      · have hb := Lib.hid (B.right_of_pre h (by rw [show s.size = k from by omega]; exact hp))
        go_wp2
        go_ret
        exact ⟨ret_bool hb.out.symm, rfl⟩
  · have hb := Lib.hid (B.right_long h)
    have h3 : (4000 : Int) < s.size := by omega
    go_wp2
    go_ret
    exact ⟨ret_bool hb.out.symm, rfl⟩
end Go.Proofs.YtcaeobkaoebndaaGreat

/- Number -/
namespace Go.Proofs.YtcaeobkaoebndaaGreat
open Go.RowKit Go.Lib

set_option maxHeartbeats 400000 in
theorem number_yes (s : ByteArray) (w : World) (hs : s.size ≤ 64) (hr : B.right s = true) :
    Calls Tryz.prog 109 #[.string s] w fun e w' => e = .returned (.tuple #[.int .u64 (B.num s.data.toList), .int .i64 0]) ∧ w = w' := by
  go_enter Tryz.func109, Tryz.ntmps109
  have hs' : s.size ≤ maxLen := by unfold maxLen; omega
  go_wp2_with (go_at_call 82; refine (right_any _ _ hs').mono ?_; rintro e w' ⟨rfl, rfl⟩)
  go_loop [4, 16] (fun n i => ∃ k : Nat, k ≤ s.size ∧ i = .int .i64 k ∧ n = .int .u64 (B.num (s.data.toList.take k))) (fun _ i => s.size - (intOf i).toNat)
  case atStart => exact ⟨0, Nat.zero_le _, rfl, rfl⟩
  case round =>
    obtain ⟨k, hk, rfl, rfl⟩ := hrel
    by_cases hlt : k < s.size
    · have hb : 48 ≤ s[k].toNat ∧ s[k].toNat ≤ 49 := B.right_bound hr k hlt
      have hn : B.num (s.data.toList.take k) < 2 ^ 63 := B.num_take_lt hr k (by omega)
      obtain ⟨m, hm⟩ : ∃ m, m = B.num (s.data.toList.take k) := ⟨_, rfl⟩
      obtain ⟨b, hbb⟩ : ∃ b, b = s[k].toNat - 48 := ⟨_, rfl⟩
      have hm2 : (m : Int) < 9223372036854775808 := by omega
      have hst := Lib.hid (B.or_step m b (by omega) (by omega))
      have hsn := Lib.hid (B.num_take_succ s k hlt)
      rw [← hm]
      have hm' := Lib.hid hm
      clear hm
      have hbb' := Lib.hid hbb
      clear hbb hn
      go_wp2
      go_round
      case rel => exact ⟨k + 1, by omega, by go_num, val_u64 (by rw [show ((s[k].toNat : Int) - 48) = ((b : Nat) : Int) from by have := hbb'.out; omega, hst.out, hsn.out, ← hm'.out, hbb'.out])⟩
      case measure => simp [intOf]; omega
    · have hb := Lib.hid (show s.data.toList.take k = s.data.toList from List.take_of_length_le (by rw [B.size_len]; omega))
      go_wp2
      go_ret2
      exact ⟨ret_u64 (by rw [hb.out]), rfl⟩

set_option maxHeartbeats 400000 in
theorem number_no (s : ByteArray) (w : World) (hs : s.size ≤ maxLen) (hr : B.right s = false ∨ 64 < s.size) :
    Calls Tryz.prog 109 #[.string s] w fun e w' => e = .returned (.tuple #[.int .u64 0, .int .i64 1]) ∧ w = w' := by
  go_enter Tryz.func109, Tryz.ntmps109
  by_cases h : 64 < s.size
  · have h' : (64 : Int) < s.size := by omega
    go_wp2_with (go_at_call 82; refine (right_any _ _ hs).mono ?_; rintro e w' ⟨rfl, rfl⟩)
    go_ret2
    exact ⟨rfl, rfl⟩
  · have hr' : B.right s = false := by rcases hr with h1 | h1; exact h1; omega
    have h' : ¬ (64 : Int) < s.size := by omega
    clear hr
    go_wp2_with (go_at_call 82; refine (right_any _ _ hs).mono ?_; rintro e w' ⟨rfl, rfl⟩)
    go_ret2
    exact ⟨rfl, rfl⟩
end Go.Proofs.YtcaeobkaoebndaaGreat
