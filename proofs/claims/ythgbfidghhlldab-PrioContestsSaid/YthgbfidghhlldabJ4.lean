/- Own texts joined: Ref4d Step Right. -/
import Derived.Test.YthgbfidghhlldabRef4b
import Derived.Test.YthgbfidghhlldabJ3
import Derived.Deep.RegionHeld3
import Derived.Deep.DrawnRows
import Derived.Test.YthgbfidghhlldabUtil
import Derived.Test.YthgbfidghhlldabPlain
import Derived.Test.YthgbfidghhlldabRows
import Derived.WalkKit
import Derived.WalkSpells
import Derived.WalkLawsBesides
import Derived.Deep.QuietTactic
import Derived.BigQuiet
import Derived.WalkSmall
import Derived.Deep.AppendLies
/- Ref4d -/
namespace Go.Proofs.Ythgbfidghhlldab
open Go.RowKit Go.Lib
attribute [local go_sem ↓] Go.wp_at_zero Go.wp_at_succ

theorem B.bytesL_succ : ∀ (j : Nat) (l : List UInt8), B.bytesL (j + 1) l = B.bytesL j l ++ [UInt8.ofNat (B.num ((l.drop (8 * j)).take 8))] := by
  intro j
  induction j with
  | zero => intro l; simp [B.bytesL]
  | succ j ih =>
    intro l
    rw [B.bytesL, ih (l.drop 8), B.bytesL, List.drop_drop, show 8 + 8 * j = 8 * (j + 1) from by omega]; rfl
theorem B.bytesL_length (j : Nat) (l : List UInt8) : (B.bytesL j l).length = j := by
  induction j generalizing l with
  | zero => rfl
  | succ j ih => rw [B.bytesL, List.length_cons, ih]

theorem cut_lt {s : ByteArray} (hr : B.right s = true) (a b k : Nat) (hb : b ≤ s.size) (hk : b - a = k) : B.num (s.extract a b).data.toList < 2 ^ k := by
  have hl := B.num_lt _ (B.right_all (right_cut hr a b))
  have : (s.extract a b).data.toList.length = k := by rw [B.size_len, ByteArray.size_extract]; omega
  rwa [this] at hl
theorem vals_next (s : ByteArray) (n j k : Nat) (hk : k = n + 8 * j) (hm : B.num (s.extract k (k + 8)).data.toList < 256) :
    B.vals (B.bytesL j (s.data.toList.drop n)) ++ [.int .u8 (B.num (s.extract k (k + 8)).data.toList : Int)] = B.vals (B.bytesL (j + 1) (s.data.toList.drop n)) := by
  have e : List.take 8 (List.drop (8 * j) (List.drop n s.data.toList)) = (s.extract k (k + 8)).data.toList := by
    rw [Lib.extract_data, List.drop_drop, hk]; congr 1; omega
  rw [B.bytesL_succ, e]
  simp only [List.map_append, List.map_cons, List.map_nil]
  rw [UInt8.toNat_ofNat', Nat.mod_eq_of_lt hm]
theorem frI_of {f : B.Fr} (h : B.FrR f) : B.frI f.id f.ext f.remote (f.dlc : Int) (⟨f.data.toArray⟩ : ByteArray).size = true := by
  obtain ⟨h1, h2, h3⟩ := h
  unfold B.frI
  rw [size_of, Bool.and_eq_true, Bool.and_eq_true, decide_eq_true_eq, decide_eq_true_eq]
  refine ⟨⟨by omega, ?_⟩, h3⟩
  split at h2
  · rename_i hr; rw [if_pos hr, h2]; rfl
  · rename_i hr; rw [if_neg hr, h2]; simp
/-- is the row just the frame's head -/
def B.headB (f : B.Fr) (s : ByteArray) : Bool := (⟨(B.headL f).toArray⟩ : ByteArray).toList == s.toList
theorem ret_fr {i j n m : Nat} {x r : Bool} {d : ByteArray} {l : List UInt8} {s : ByteArray} (h : i = j ∧ n = m) :
    Ending.returned (.tuple #[.agg (frV i x r (n : Int) d), .bool (B.headB ⟨i, x, r, n, l⟩ s)]) = .returned (.tuple #[.agg (frV j x r (m : Int) d), .bool (B.headB ⟨j, x, r, m, l⟩ s)]) := by rw [h.1, h.2]
end Go.Proofs.Ythgbfidghhlldab

/- Step -/
namespace Go.Proofs.Ythgbfidghhlldab
open Go.RowKit Go.Lib

theorem ret_u32 {a b : Int} (h : a = b) : Ending.returned (.int .u32 a) = .returned (.int .u32 b) := by rw [h]

end Go.Proofs.Ythgbfidghhlldab

/- Right -/
namespace Go.Proofs.Ythgbfidghhlldab
open Go.RowKit Go.Lib

set_option maxHeartbeats 400000 in
theorem right_any (s : ByteArray) (w : World) (hs : s.size ≤ maxLen) :
    Calls Try.prog 54 #[.string s] w fun e w' => e = .returned (.bool (B.right s)) ∧ w = w' := by
  unfold maxLen at hs
  go_enter Try.func54, Try.ntmps54
  by_cases h : s.size ≤ 4000
  · go_wp2
    go_loop [9] (fun i => ∃ k : Nat, k ≤ s.size ∧ i = .int .i64 k ∧ B.pre s k) (fun i => s.size - (intOf i).toNat)
    case atStart => exact ⟨0, Nat.zero_le _, rfl, B.pre_zero s⟩
    case round =>
      obtain ⟨k, hk, rfl, hp⟩ := hrel
      by_cases hlt : k < s.size
      · by_cases h1 : s[k].toNat = 48
        · have hp' := B.pre_succ hlt hp (.inl h1)
          go_wp2
          go_round
          case rel => exact ⟨k + 1, by omega, by go_num, hp'⟩
          case measure => simp [intOf]; omega
        · by_cases h2 : s[k].toNat = 49
          · have hp' := B.pre_succ hlt hp (.inr h2)
            go_wp2
            go_round
            case rel => exact ⟨k + 1, by omega, by go_num, hp'⟩
            case measure => simp [intOf]; omega
          · have hb := Lib.hid (B.right_bad hlt h1 h2)
            have h3 : ((s[k].toNat : Int) != 48) = true := by simp; omega
            have h4 : ((s[k].toNat : Int) != 49) = true := by simp; omega
            go_wp2
            go_ret
            exact ⟨ret_bool hb.out.symm, rfl⟩
      · have hb := Lib.hid (B.right_of_pre h (by rw [show s.size = k from by omega]; exact hp))
        go_wp2
        go_ret
        exact ⟨ret_bool hb.out.symm, rfl⟩
  · have hb := Lib.hid (B.right_long h)
    have h3 : (4000 : Int) < s.size := by omega
    go_wp2
    go_ret
    exact ⟨ret_bool hb.out.symm, rfl⟩
end Go.Proofs.Ythgbfidghhlldab
