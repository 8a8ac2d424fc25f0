/- The reference's Read (layer 4), of any row that may be. -/
import Derived.Test.YtdpfmpbnahhjmaaRef4d
namespace Go.Proofs.Ytdpfmpbnahhjmaa
open Go.RowKit Go.Lib

/-- a row that is as long as a head says is that of a frame that may be -/
theorem B.size_parts {l : List UInt8} (h : B.sizeL l = (l.length, 0)) : 14 ≤ l.length ∧ B.baseL l ≤ l.length ∧ B.num (B.cutL l (B.baseL l - 4) (B.baseL l)) ≤ 8 ∧
    l.length = B.baseL l + 8 * (if B.bitAt l (B.baseL l - 7) = 49 then 0 else B.num (B.cutL l (B.baseL l - 4) (B.baseL l))) := by
  unfold B.sizeL at h
  split at h
  · simp at h
  · split at h
    · simp at h
    · split at h
      · simp at h
      · rename_i h1 h2 h3
        simp only [Prod.mk.injEq, and_true] at h
        exact ⟨by omega, by omega, by omega, h.symm⟩
theorem B.cut_num_lt {l : List UInt8} (hl : l.all B.okc = true) (a b k : Nat) (hb : b ≤ l.length) (hk : b - a = k) : B.num (B.cutL l a b) < 2 ^ k := by
  have ha : (B.cutL l a b).all B.okc = true := by
    unfold B.cutL
    have := B.all_take hl b
    rw [List.all_eq_true] at *; intro x hx; exact this x (List.mem_of_mem_drop hx)
  have := B.num_lt _ ha
  have hlen : (B.cutL l a b).length = k := by unfold B.cutL; rw [List.length_drop, List.length_take]; omega
  rwa [hlen] at this
theorem B.decode_fr {l : List UInt8} (hl : l.all B.okc = true) (h : B.sizeL l = (l.length, 0)) : B.FrR (B.decode l) := by
  obtain ⟨h14, hb, h8, hlen⟩ := B.size_parts h
  have hbo := B.baseL_or l
  have l1 := B.cut_num_lt hl 1 12 11 (by omega) rfl
  have hK : (B.decode l).data.length = (l.length - B.baseL l) / 8 := B.bytesL_length _ _
  refine ⟨h8, ?_, ?_⟩
  · by_cases hr : B.bitAt l (B.baseL l - 7) = 49
    · rw [if_pos hr] at hlen
      have : (B.decode l).remote = true := by show (B.bitAt l (B.baseL l - 7) == 49) = true; rw [hr]; rfl
      rw [if_pos this, ← List.length_eq_zero_iff, hK]; omega
    · rw [if_neg hr] at hlen
      have : ¬ (B.decode l).remote = true := by show ¬ (B.bitAt l (B.baseL l - 7) == 49) = true; simpa using hr
      rw [if_neg this, hK]
      show (l.length - B.baseL l) / 8 = B.num (B.cutL l (B.baseL l - 4) (B.baseL l))
      omega
  · by_cases he : B.bitAt l 13 = 49
    · have hb39 : B.baseL l = 39 := by unfold B.baseL; rw [if_pos he]
      have l3 := B.cut_num_lt hl 14 32 18 (by omega) rfl
      have : (B.decode l).ext = true := by show (B.bitAt l 13 == 49) = true; rw [he]; rfl
      rw [if_pos this]
      show (if B.bitAt l 13 = 49 then B.num (B.cutL l 1 12) * 262144 + B.num (B.cutL l 14 32) else B.num (B.cutL l 1 12)) < 536870912
      rw [if_pos he]; omega
    · have : ¬ (B.decode l).ext = true := by show ¬ (B.bitAt l 13 == 49) = true; simpa using he
      rw [if_neg this]
      show (if B.bitAt l 13 = 49 then B.num (B.cutL l 1 12) * 262144 + B.num (B.cutL l 14 32) else B.num (B.cutL l 1 12)) < 2048
      rw [if_neg he]; omega

set_option maxHeartbeats 1000000 in
theorem refread_no (s : ByteArray) (w : World) (hr : B.right s = true) (h : ¬ B.sizeL s.data.toList = (s.size, 0)) :
    Calls Try.prog 22 #[.string s] w fun e w' => e = .returned (.tuple #[.agg (frV 0 false false 0 ⟨#[]⟩), .bool false]) ∧ Below w.heap.size w w' := by
  have h4 := B.right_size hr
  have CS := Lib.hid (fun w => refsize_any s w hr)
  obtain ⟨n, e, hne⟩ : ∃ n e, B.sizeL s.data.toList = (n, e) := ⟨_, _, rfl⟩
  rw [hne] at CS h
  clear hne
  simp only [Prod.mk.injEq, not_and] at h CS
  have hB : Below w.heap.size w (w.alloc (.cells (frV 0 false false 0 ⟨#[]⟩) 24)) := (Below.refl _ _).alloc (Nat.le_refl _) _
  by_cases he : e = 0
  · have hn : ((n : Int) != s.size) = true := by have := h; simp; omega
    subst he
    clear h
    go_enter Try.func22, Try.ntmps22
    go_wp2_with (go_at_call 21; (with_reducible refine (CS.out _).mono ?_); rintro e w' ⟨rfl, rfl⟩)
    refine bodyPost_ret (v := .tuple #[.agg (frV 0 false false 0 ⟨#[]⟩), .bool false]) (by simp [results, Try.results22, go_sem]) rfl ⟨rfl, ?_⟩
    exact hB
  · have he' : ((e : Int) != 0) = true := by simp; omega
    clear h
    go_enter Try.func22, Try.ntmps22
    go_wp2_with (go_at_call 21; (with_reducible refine (CS.out _).mono ?_); rintro e w' ⟨rfl, rfl⟩)
    refine bodyPost_ret (v := .tuple #[.agg (frV 0 false false 0 ⟨#[]⟩), .bool false]) (by simp [results, Try.results22, go_sem]) rfl ⟨rfl, ?_⟩
    exact hB

/-- Read, of a row that is as long as a head says -/
theorem refread_yes (s : ByteArray) (w : World) (hr : B.right s = true) (h : B.sizeL s.data.toList = (s.size, 0)) :
    Calls Try.prog 22 #[.string s] w fun e w' => e = .returned (.tuple #[.agg (frV (B.decode s.data.toList).id (B.decode s.data.toList).ext (B.decode s.data.toList).remote ((B.decode s.data.toList).dlc : Int) ⟨(B.decode s.data.toList).data.toArray⟩), .bool (B.headB (B.decode s.data.toList) s)]) ∧ Below w.heap.size w w' := by
  have hall := B.right_all hr
  have h' : B.sizeL s.data.toList = (s.data.toList.length, 0) := by rw [B.size_len]; exact h
  have hfr := B.decode_fr hall h'
  obtain ⟨h14, hb, h8, hlen⟩ := B.size_parts h'
  rw [B.size_len] at h14 hb hlen
  have h13l : 13 < s.size := by omega
  have hbase := base_of s h13l
  by_cases h13 : s[13].toNat = 49
  · rw [if_pos h13] at hbase
    rw [hbase] at hb hlen h8
    have h7 : 32 < s.size := by omega
    have hbit : B.bitAt s.data.toList 13 = 49 := by rw [bitAt_of s 13 h13l]; exact UInt8.toNat_inj.1 h13
    have hK : s.size = 39 + 8 * ((s.size - 39) / 8) := by split at hlen <;> omega
    have hd : B.decode s.data.toList = ⟨B.num (s.extract 1 12).data.toList * 262144 + B.num (s.extract 14 32).data.toList, true, (s[32] == 49), B.num (s.extract 35 39).data.toList, B.bytesL ((s.size - 39) / 8) (s.data.toList.drop 39)⟩ := by
      unfold B.decode
      rw [hbit, hbase, cutL_of, cutL_of, cutL_of, bitAt_of s _ h7, B.size_len]; rfl
    rw [hd] at hfr ⊢
    have e32 : ((s[32].toNat : Int) == 49) = (s[32] == 49) := by rw [Bool.eq_iff_iff]; simp [← UInt8.toNat_inj]; omega
    exact refread_39 s w hr h h13l h13 hb _ hK (by split at hlen <;> omega) _ h7 e32 hfr
  · rw [if_neg h13] at hbase
    rw [hbase] at hb hlen h8
    have h7 : 12 < s.size := by omega
    have hbit : ¬ B.bitAt s.data.toList 13 = 49 := by rw [bitAt_of s 13 h13l]; intro e; exact h13 (by rw [e]; rfl)
    have hK : s.size = 19 + 8 * ((s.size - 19) / 8) := by split at hlen <;> omega
    have hbf : (B.bitAt s.data.toList 13 == 49) = false := by simpa using hbit
    have hd : B.decode s.data.toList = ⟨B.num (s.extract 1 12).data.toList, false, (s[12] == 49), B.num (s.extract 15 19).data.toList, B.bytesL ((s.size - 19) / 8) (s.data.toList.drop 19)⟩ := by
      unfold B.decode
      rw [if_neg hbit, hbf, hbase, cutL_of, cutL_of, bitAt_of s _ h7, B.size_len]
    rw [hd] at hfr ⊢
    have e12 : ((s[12].toNat : Int) == 49) = (s[12] == 49) := by rw [Bool.eq_iff_iff]; simp [← UInt8.toNat_inj]; omega
    exact refread_19 s w hr h h13l h13 hb _ hK (by split at hlen <;> omega) _ h7 e12 hfr
end Go.Proofs.Ytdpfmpbnahhjmaa
