/- The walks of the reference's Head, Sum and Bits (layer 4). -/
import Derived.Test.YtcaeobkaoebndaaGreatJ2
import Derived.Test.YtcaeobkaoebndaaGreatRefCrc
import Derived.Test.YtcaeobkaoebndaaGreatJ3
import Derived.BigQuiet
namespace Go.Proofs.YtcaeobkaoebndaaGreat
open Go.RowKit Go.Lib

theorem bytes_eq {a : ByteArray} {l : List UInt8} (h : a.data.toList = l) : a = ⟨l.toArray⟩ := by rw [← h, of_list]
/-- the reference's Of, of a byte -/
theorem ref_byte (c : UInt8) (w : World) : Calls Tryz.prog 44 #[.int .u64 (IntKind.u64.wrap (c.toNat : Int)), .int .i64 8] w fun e w' => e = .returned (.string (B.ofn c.toNat 8)) ∧ w = w' := by
  have := c.toNat_lt
  rw [IntWalk.u64_in _ (by omega)]
  exact refof_any c.toNat 8 w (by omega) (by omega)
theorem B.dataL_take (s : ByteArray) (k : Nat) (h : k < s.size) : B.dataL (s.data.toList.take (k + 1)) = B.dataL (s.data.toList.take k) ++ B.ofl s[k].toNat 8 := by
  rw [B.take_snoc s k h]; simp [B.dataL]

set_option maxRecDepth 100000 in
set_option maxHeartbeats 2000000 in
theorem refhead_std0 (id dlc : Nat) (data : ByteArray) (w : World) (h : B.FrR ⟨id, false, false, dlc, data.data.toList⟩) :
    Calls Tryz.prog 24 #[.agg (frV id false false dlc data)] w fun e w' => e = .returned (.string ⟨(B.headL ⟨id, false, false, dlc, data.data.toList⟩).toArray⟩) ∧ Below w.heap.size w w' := by
  have hd : data.size ≤ 8 := by
    obtain ⟨h8, hd, _⟩ := h
    simp only at h8 hd
    split at hd
    · rw [← B.size_len, hd]; simp
    · rw [← B.size_len]; omega
  have hid : id < 2048 := by have := h.2.2; simpa using this
  have hdl : dlc ≤ 8 := h.1
  have C1 : Hid (∀ w, Calls Tryz.prog 44 #[.int .u64 (id : Int), .int .i64 11] w fun e w' => e = .returned (.string (B.ofn id 11)) ∧ w = w') := Lib.hid fun w => refof_any id 11 w (by omega) (by omega)
  have C2 : Hid (∀ w, Calls Tryz.prog 44 #[.int .u64 (dlc : Int), .int .i64 4] w fun e w' => e = .returned (.string (B.ofn dlc 4)) ∧ w = w') := Lib.hid fun w => refof_any dlc 4 w (by omega) (by omega)
  have z1 := B.ofn_size id 11
  have z2 := B.ofn_size dlc 4
  have HS := Lib.hid (show ((((⟨#[48]⟩ : ByteArray) ++ B.ofn id 11) ++ ⟨#[48]⟩) ++ ⟨#[48, 48]⟩) ++ B.ofn dlc 4 = ⟨(B.preL ⟨id, false, false, dlc, data.data.toList⟩ ++ B.dataL []).toArray⟩ from bytes_eq (by
    simp only [B.cat_list, B.ofn_list]
    unfold B.preL B.idL B.dataL
    simp [B.rb]))
  have hpl := B.preL_length ⟨id, false, false, dlc, data.data.toList⟩
  have hbo := B.base_or ⟨id, false, false, dlc, data.data.toList⟩
  obtain ⟨v1, hv1⟩ : ∃ v, v = B.ofn id 11 := ⟨_, rfl⟩
  obtain ⟨v2, hv2⟩ : ∃ v, v = B.ofn dlc 4 := ⟨_, rfl⟩
  rw [← hv1] at C1 z1 HS
  rw [← hv2] at C2 HS z2
  clear hv1 hv2 h
  have hB : Below w.heap.size w (w.alloc (.cells (frV id false false dlc data) 24)) := (Below.refl _ _).alloc (Nat.le_refl _) _
  obtain ⟨p, hp⟩ : ∃ p, p = B.preL ⟨id, false, false, dlc, data.data.toList⟩ := ⟨_, rfl⟩
  have HH := Lib.hid (show B.headL ⟨id, false, false, dlc, data.data.toList⟩ = p ++ B.dataL data.data.toList from by rw [hp]; rfl)
  rw [← hp] at HS hpl
  have hpl2 : p.length ≤ 39 := by omega
  clear hp hpl hbo
  go_enter Tryz.func24, Tryz.ntmps24
  go_wp2_with (first
    | (go_at_call 44; (with_reducible refine (C1.out _).mono ?_); rintro e w' ⟨rfl, rfl⟩)
    | (go_at_call 44; (with_reducible refine (C2.out _).mono ?_); rintro e w' ⟨rfl, rfl⟩))
  go_loopw [4, 6] (fun o i wr => ∃ k : Nat, k ≤ data.size ∧ i = .int .i64 k ∧ o = .string ⟨(p ++ B.dataL (data.data.toList.take k)).toArray⟩ ∧ wr = w.alloc (.cells (frV id false false dlc data) 24)) (fun _ i _ => data.size - (intOf i).toNat)
  case atStart => exact ⟨0, Nat.zero_le _, rfl, val_str HS.out, rfl⟩
  case round =>
    obtain ⟨k, hk, rfl, rfl, rfl⟩ := hrel
    by_cases hlt : k < data.size
    · have CB := Lib.hid (ref_byte data[k])
      have z3 := B.ofn_size data[k].toNat 8
      have hnx := Lib.hid (show (⟨(p ++ B.dataL (data.data.toList.take k)).toArray⟩ : ByteArray) ++ B.ofn data[k].toNat 8 = ⟨(p ++ B.dataL (data.data.toList.take (k + 1))).toArray⟩ from bytes_eq (by
        rw [B.cat_list, B.dataL_take data k hlt, B.ofn_list]; simp))
      have hoz : (⟨(p ++ B.dataL (data.data.toList.take k)).toArray⟩ : ByteArray).size ≤ 103 := by
        rw [size_of, List.length_append, B.dataL_length, List.length_take]; omega
      obtain ⟨o, ho⟩ : ∃ o : ByteArray, o = ⟨(p ++ B.dataL (data.data.toList.take k)).toArray⟩ := ⟨_, rfl⟩
      rw [← ho] at hnx hoz ⊢
      obtain ⟨v, hv⟩ : ∃ v, v = B.ofn data[k].toNat 8 := ⟨_, rfl⟩
      rw [← hv] at CB z3 hnx
      clear ho hv
      have q0 : (0 : Int) ≤ (k : Int) := by omega
      have q2 : (k : Int) < (data.size : Int) := by omega
      go_wp2_with (go_at_call 44; (with_reducible refine (CB.out _).mono ?_); rintro e w' ⟨rfl, rfl⟩)
      go_roundw
      case rel => exact ⟨k + 1, by omega, by go_num, val_str hnx.out, trivial⟩
      case measure => simp [intOf]; omega
    · have hE := Lib.hid (show data.data.toList.take k = data.data.toList from List.take_of_length_le (by rw [B.size_len]; omega))
      rw [hE.out, ← HH.out]
      go_wp2
      go_ret
      exact ⟨rfl, hB⟩

set_option maxRecDepth 100000 in
set_option maxHeartbeats 2000000 in
theorem refhead_std1 (id dlc : Nat) (data : ByteArray) (w : World) (h : B.FrR ⟨id, false, true, dlc, data.data.toList⟩) :
    Calls Tryz.prog 24 #[.agg (frV id false true dlc data)] w fun e w' => e = .returned (.string ⟨(B.headL ⟨id, false, true, dlc, data.data.toList⟩).toArray⟩) ∧ Below w.heap.size w w' := by
  have hd : data.size ≤ 8 := by
    obtain ⟨h8, hd, _⟩ := h
    simp only at h8 hd
    split at hd
    · rw [← B.size_len, hd]; simp
    · rw [← B.size_len]; omega
  have hid : id < 2048 := by have := h.2.2; simpa using this
  have hdl : dlc ≤ 8 := h.1
  have C1 : Hid (∀ w, Calls Tryz.prog 44 #[.int .u64 (id : Int), .int .i64 11] w fun e w' => e = .returned (.string (B.ofn id 11)) ∧ w = w') := Lib.hid fun w => refof_any id 11 w (by omega) (by omega)
  have C2 : Hid (∀ w, Calls Tryz.prog 44 #[.int .u64 (dlc : Int), .int .i64 4] w fun e w' => e = .returned (.string (B.ofn dlc 4)) ∧ w = w') := Lib.hid fun w => refof_any dlc 4 w (by omega) (by omega)
  have z1 := B.ofn_size id 11
  have z2 := B.ofn_size dlc 4
  have HS := Lib.hid (show ((((⟨#[48]⟩ : ByteArray) ++ B.ofn id 11) ++ ⟨#[49]⟩) ++ ⟨#[48, 48]⟩) ++ B.ofn dlc 4 = ⟨(B.preL ⟨id, false, true, dlc, data.data.toList⟩ ++ B.dataL []).toArray⟩ from bytes_eq (by
    simp only [B.cat_list, B.ofn_list]
    unfold B.preL B.idL B.dataL
    simp [B.rb]))
  have hpl := B.preL_length ⟨id, false, true, dlc, data.data.toList⟩
  have hbo := B.base_or ⟨id, false, true, dlc, data.data.toList⟩
  obtain ⟨v1, hv1⟩ : ∃ v, v = B.ofn id 11 := ⟨_, rfl⟩
  obtain ⟨v2, hv2⟩ : ∃ v, v = B.ofn dlc 4 := ⟨_, rfl⟩
  rw [← hv1] at C1 z1 HS
  rw [← hv2] at C2 HS z2
  clear hv1 hv2 h
  have hB : Below w.heap.size w (w.alloc (.cells (frV id false true dlc data) 24)) := (Below.refl _ _).alloc (Nat.le_refl _) _
  obtain ⟨p, hp⟩ : ∃ p, p = B.preL ⟨id, false, true, dlc, data.data.toList⟩ := ⟨_, rfl⟩
  have HH := Lib.hid (show B.headL ⟨id, false, true, dlc, data.data.toList⟩ = p ++ B.dataL data.data.toList from by rw [hp]; rfl)
  rw [← hp] at HS hpl
  have hpl2 : p.length ≤ 39 := by omega
  clear hp hpl hbo
  go_enter Tryz.func24, Tryz.ntmps24
  go_wp2_with (first
    | (go_at_call 44; (with_reducible refine (C1.out _).mono ?_); rintro e w' ⟨rfl, rfl⟩)
    | (go_at_call 44; (with_reducible refine (C2.out _).mono ?_); rintro e w' ⟨rfl, rfl⟩))
  go_loopw [4, 6] (fun o i wr => ∃ k : Nat, k ≤ data.size ∧ i = .int .i64 k ∧ o = .string ⟨(p ++ B.dataL (data.data.toList.take k)).toArray⟩ ∧ wr = w.alloc (.cells (frV id false true dlc data) 24)) (fun _ i _ => data.size - (intOf i).toNat)
  case atStart => exact ⟨0, Nat.zero_le _, rfl, val_str HS.out, rfl⟩
  case round =>
    obtain ⟨k, hk, rfl, rfl, rfl⟩ := hrel
    by_cases hlt : k < data.size
    · have CB := Lib.hid (ref_byte data[k])
      have z3 := B.ofn_size data[k].toNat 8
      have hnx := Lib.hid (show (⟨(p ++ B.dataL (data.data.toList.take k)).toArray⟩ : ByteArray) ++ B.ofn data[k].toNat 8 = ⟨(p ++ B.dataL (data.data.toList.take (k + 1))).toArray⟩ from bytes_eq (by
        rw [B.cat_list, B.dataL_take data k hlt, B.ofn_list]; simp))
      have hoz : (⟨(p ++ B.dataL (data.data.toList.take k)).toArray⟩ : ByteArray).size ≤ 103 := by
        rw [size_of, List.length_append, B.dataL_length, List.length_take]; omega
      obtain ⟨o, ho⟩ : ∃ o : ByteArray, o = ⟨(p ++ B.dataL (data.data.toList.take k)).toArray⟩ := ⟨_, rfl⟩
      rw [← ho] at hnx hoz ⊢
      obtain ⟨v, hv⟩ : ∃ v, v = B.ofn data[k].toNat 8 := ⟨_, rfl⟩
      rw [← hv] at CB z3 hnx
      clear ho hv
      have q0 : (0 : Int) ≤ (k : Int) := by omega
      have q2 : (k : Int) < (data.size : Int) := by omega
      go_wp2_with (go_at_call 44; (with_reducible refine (CB.out _).mono ?_); rintro e w' ⟨rfl, rfl⟩)
      go_roundw
      case rel => exact ⟨k + 1, by omega, by go_num, val_str hnx.out, trivial⟩
      case measure => simp [intOf]; omega
    · have hE := Lib.hid (show data.data.toList.take k = data.data.toList from List.take_of_length_le (by rw [B.size_len]; omega))
      rw [hE.out, ← HH.out]
      go_wp2
      go_ret
      exact ⟨rfl, hB⟩

set_option maxRecDepth 100000 in
set_option maxHeartbeats 2000000 in
theorem refhead_ext0 (id dlc : Nat) (data : ByteArray) (w : World) (h : B.FrR ⟨id, true, false, dlc, data.data.toList⟩) :
    Calls Tryz.prog 24 #[.agg (frV id true false dlc data)] w fun e w' => e = .returned (.string ⟨(B.headL ⟨id, true, false, dlc, data.data.toList⟩).toArray⟩) ∧ Below w.heap.size w w' := by
  have hd : data.size ≤ 8 := by
    obtain ⟨h8, hd, _⟩ := h
    simp only at h8 hd
    split at hd
    · rw [← B.size_len, hd]; simp
    · rw [← B.size_len]; omega
  have hid : id < 536870912 := by have := h.2.2; simpa using this
  have hdl : dlc ≤ 8 := h.1
  have C1 : Hid (∀ w, Calls Tryz.prog 44 #[.int .u64 (id : Int), .int .i64 11] w fun e w' => e = .returned (.string (B.ofn id 11)) ∧ w = w') := Lib.hid fun w => refof_any id 11 w (by omega) (by omega)
  have C2 : Hid (∀ w, Calls Tryz.prog 44 #[.int .u64 (dlc : Int), .int .i64 4] w fun e w' => e = .returned (.string (B.ofn dlc 4)) ∧ w = w') := Lib.hid fun w => refof_any dlc 4 w (by omega) (by omega)
  have C3 : Hid (∀ w, Calls Tryz.prog 44 #[.int .u64 (id : Int), .int .i64 29] w fun e w' => e = .returned (.string (B.ofn id 29)) ∧ w = w') := Lib.hid fun w => refof_any id 29 w (by omega) (by omega)
  have z3 := B.ofn_size id 29
  have z1 := B.ofn_size id 11
  have z2 := B.ofn_size dlc 4
  have HS := Lib.hid (show ((((((⟨#[48]⟩ : ByteArray) ++ (B.ofn id 29).extract 0 11) ++ ⟨#[49, 49]⟩) ++ (B.ofn id 29).extract 11 29) ++ ⟨#[48]⟩) ++ ⟨#[48, 48]⟩) ++ B.ofn dlc 4 = ⟨(B.preL ⟨id, true, false, dlc, data.data.toList⟩ ++ B.dataL []).toArray⟩ from bytes_eq (by
    simp only [B.cat_list, B.ofn_list, Lib.extract_data, List.drop_zero]
    have hl : (B.ofl id 29).length = 29 := B.ofl_length _ _
    unfold B.preL B.idL B.dataL
    rw [List.take_of_length_le (l := List.drop 11 (B.ofl id 29)) (by rw [List.length_drop]; omega)]
    simp [B.rb]))
  have hpl := B.preL_length ⟨id, true, false, dlc, data.data.toList⟩
  have hbo := B.base_or ⟨id, true, false, dlc, data.data.toList⟩
  obtain ⟨v3, hv3⟩ : ∃ v, v = B.ofn id 29 := ⟨_, rfl⟩
  rw [← hv3] at C3 HS z3
  obtain ⟨v1, hv1⟩ : ∃ v, v = B.ofn id 11 := ⟨_, rfl⟩
  obtain ⟨v2, hv2⟩ : ∃ v, v = B.ofn dlc 4 := ⟨_, rfl⟩
  rw [← hv1] at C1 z1
  rw [← hv2] at C2 HS z2
  clear hv1 hv2 hv3 h
  have hB : Below w.heap.size w (w.alloc (.cells (frV id true false dlc data) 24)) := (Below.refl _ _).alloc (Nat.le_refl _) _
  obtain ⟨p, hp⟩ : ∃ p, p = B.preL ⟨id, true, false, dlc, data.data.toList⟩ := ⟨_, rfl⟩
  have HH := Lib.hid (show B.headL ⟨id, true, false, dlc, data.data.toList⟩ = p ++ B.dataL data.data.toList from by rw [hp]; rfl)
  rw [← hp] at HS hpl
  have hpl2 : p.length ≤ 39 := by omega
  clear hp hpl hbo
  go_enter Tryz.func24, Tryz.ntmps24
  have q1 : (11 : Int) ≤ v3.size := by omega
  go_wp2_with (first
    | (go_at_call 44; (with_reducible refine (C1.out _).mono ?_); rintro e w' ⟨rfl, rfl⟩)
    | (go_at_call 44; (with_reducible refine (C3.out _).mono ?_); rintro e w' ⟨rfl, rfl⟩)
    | (go_at_call 44; (with_reducible refine (C2.out _).mono ?_); rintro e w' ⟨rfl, rfl⟩))
  go_quiet (fail)
  rename_i nq
  go_wp2_with (first
    | (go_at_call 44; (with_reducible refine (C1.out _).mono ?_); rintro e w' ⟨rfl, rfl⟩)
    | (go_at_call 44; (with_reducible refine (C3.out _).mono ?_); rintro e w' ⟨rfl, rfl⟩)
    | (go_at_call 44; (with_reducible refine (C2.out _).mono ?_); rintro e w' ⟨rfl, rfl⟩))
  go_loopw [4, 6] (fun o i wr => ∃ k : Nat, k ≤ data.size ∧ i = .int .i64 k ∧ o = .string ⟨(p ++ B.dataL (data.data.toList.take k)).toArray⟩ ∧ wr = (w.alloc (.cells (frV id true false dlc data) 24)).drewN nq) (fun _ i _ => data.size - (intOf i).toNat)
  case atStart => exact ⟨0, Nat.zero_le _, rfl, val_str HS.out, rfl⟩
  case round =>
    obtain ⟨k, hk, rfl, rfl, rfl⟩ := hrel
    by_cases hlt : k < data.size
    · have CB := Lib.hid (ref_byte data[k])
      have z3 := B.ofn_size data[k].toNat 8
      have hnx := Lib.hid (show (⟨(p ++ B.dataL (data.data.toList.take k)).toArray⟩ : ByteArray) ++ B.ofn data[k].toNat 8 = ⟨(p ++ B.dataL (data.data.toList.take (k + 1))).toArray⟩ from bytes_eq (by
        rw [B.cat_list, B.dataL_take data k hlt, B.ofn_list]; simp))
      have hoz : (⟨(p ++ B.dataL (data.data.toList.take k)).toArray⟩ : ByteArray).size ≤ 103 := by
        rw [size_of, List.length_append, B.dataL_length, List.length_take]; omega
      obtain ⟨o, ho⟩ : ∃ o : ByteArray, o = ⟨(p ++ B.dataL (data.data.toList.take k)).toArray⟩ := ⟨_, rfl⟩
      rw [← ho] at hnx hoz ⊢
      obtain ⟨v, hv⟩ : ∃ v, v = B.ofn data[k].toNat 8 := ⟨_, rfl⟩
      rw [← hv] at CB z3 hnx
      clear ho hv
      have q0 : (0 : Int) ≤ (k : Int) := by omega
      have q2 : (k : Int) < (data.size : Int) := by omega
      go_wp2_with (go_at_call 44; (with_reducible refine (CB.out _).mono ?_); rintro e w' ⟨rfl, rfl⟩)
      go_roundw
      case rel => exact ⟨k + 1, by omega, by go_num, val_str hnx.out, trivial⟩
      case measure => simp [intOf]; omega
    · have hE := Lib.hid (show data.data.toList.take k = data.data.toList from List.take_of_length_le (by rw [B.size_len]; omega))
      rw [hE.out, ← HH.out]
      go_wp2
      go_ret
      exact ⟨rfl, below_drewN hB _⟩

set_option maxRecDepth 100000 in
set_option maxHeartbeats 2000000 in
theorem refhead_ext1 (id dlc : Nat) (data : ByteArray) (w : World) (h : B.FrR ⟨id, true, true, dlc, data.data.toList⟩) :
    Calls Tryz.prog 24 #[.agg (frV id true true dlc data)] w fun e w' => e = .returned (.string ⟨(B.headL ⟨id, true, true, dlc, data.data.toList⟩).toArray⟩) ∧ Below w.heap.size w w' := by
  have hd : data.size ≤ 8 := by
    obtain ⟨h8, hd, _⟩ := h
    simp only at h8 hd
    split at hd
    · rw [← B.size_len, hd]; simp
    · rw [← B.size_len]; omega
  have hid : id < 536870912 := by have := h.2.2; simpa using this
  have hdl : dlc ≤ 8 := h.1
  have C1 : Hid (∀ w, Calls Tryz.prog 44 #[.int .u64 (id : Int), .int .i64 11] w fun e w' => e = .returned (.string (B.ofn id 11)) ∧ w = w') := Lib.hid fun w => refof_any id 11 w (by omega) (by omega)
  have C2 : Hid (∀ w, Calls Tryz.prog 44 #[.int .u64 (dlc : Int), .int .i64 4] w fun e w' => e = .returned (.string (B.ofn dlc 4)) ∧ w = w') := Lib.hid fun w => refof_any dlc 4 w (by omega) (by omega)
  have C3 : Hid (∀ w, Calls Tryz.prog 44 #[.int .u64 (id : Int), .int .i64 29] w fun e w' => e = .returned (.string (B.ofn id 29)) ∧ w = w') := Lib.hid fun w => refof_any id 29 w (by omega) (by omega)
  have z3 := B.ofn_size id 29
  have z1 := B.ofn_size id 11
  have z2 := B.ofn_size dlc 4
  have HS := Lib.hid (show ((((((⟨#[48]⟩ : ByteArray) ++ (B.ofn id 29).extract 0 11) ++ ⟨#[49, 49]⟩) ++ (B.ofn id 29).extract 11 29) ++ ⟨#[49]⟩) ++ ⟨#[48, 48]⟩) ++ B.ofn dlc 4 = ⟨(B.preL ⟨id, true, true, dlc, data.data.toList⟩ ++ B.dataL []).toArray⟩ from bytes_eq (by
    simp only [B.cat_list, B.ofn_list, Lib.extract_data, List.drop_zero]
    have hl : (B.ofl id 29).length = 29 := B.ofl_length _ _
    unfold B.preL B.idL B.dataL
    rw [List.take_of_length_le (l := List.drop 11 (B.ofl id 29)) (by rw [List.length_drop]; omega)]
    simp [B.rb]))
  have hpl := B.preL_length ⟨id, true, true, dlc, data.data.toList⟩
  have hbo := B.base_or ⟨id, true, true, dlc, data.data.toList⟩
  obtain ⟨v3, hv3⟩ : ∃ v, v = B.ofn id 29 := ⟨_, rfl⟩
  rw [← hv3] at C3 HS z3
  obtain ⟨v1, hv1⟩ : ∃ v, v = B.ofn id 11 := ⟨_, rfl⟩
  obtain ⟨v2, hv2⟩ : ∃ v, v = B.ofn dlc 4 := ⟨_, rfl⟩
  rw [← hv1] at C1 z1
  rw [← hv2] at C2 HS z2
  clear hv1 hv2 hv3 h
  have hB : Below w.heap.size w (w.alloc (.cells (frV id true true dlc data) 24)) := (Below.refl _ _).alloc (Nat.le_refl _) _
  obtain ⟨p, hp⟩ : ∃ p, p = B.preL ⟨id, true, true, dlc, data.data.toList⟩ := ⟨_, rfl⟩
  have HH := Lib.hid (show B.headL ⟨id, true, true, dlc, data.data.toList⟩ = p ++ B.dataL data.data.toList from by rw [hp]; rfl)
  rw [← hp] at HS hpl
  have hpl2 : p.length ≤ 39 := by omega
  clear hp hpl hbo
  go_enter Tryz.func24, Tryz.ntmps24
  have q1 : (11 : Int) ≤ v3.size := by omega
  go_wp2_with (first
    | (go_at_call 44; (with_reducible refine (C1.out _).mono ?_); rintro e w' ⟨rfl, rfl⟩)
    | (go_at_call 44; (with_reducible refine (C3.out _).mono ?_); rintro e w' ⟨rfl, rfl⟩)
    | (go_at_call 44; (with_reducible refine (C2.out _).mono ?_); rintro e w' ⟨rfl, rfl⟩))
  go_quiet (fail)
  rename_i nq
  go_wp2_with (first
    | (go_at_call 44; (with_reducible refine (C1.out _).mono ?_); rintro e w' ⟨rfl, rfl⟩)
    | (go_at_call 44; (with_reducible refine (C3.out _).mono ?_); rintro e w' ⟨rfl, rfl⟩)
    | (go_at_call 44; (with_reducible refine (C2.out _).mono ?_); rintro e w' ⟨rfl, rfl⟩))
  go_loopw [4, 6] (fun o i wr => ∃ k : Nat, k ≤ data.size ∧ i = .int .i64 k ∧ o = .string ⟨(p ++ B.dataL (data.data.toList.take k)).toArray⟩ ∧ wr = (w.alloc (.cells (frV id true true dlc data) 24)).drewN nq) (fun _ i _ => data.size - (intOf i).toNat)
  case atStart => exact ⟨0, Nat.zero_le _, rfl, val_str HS.out, rfl⟩
  case round =>
    obtain ⟨k, hk, rfl, rfl, rfl⟩ := hrel
    by_cases hlt : k < data.size
    · have CB := Lib.hid (ref_byte data[k])
      have z3 := B.ofn_size data[k].toNat 8
      have hnx := Lib.hid (show (⟨(p ++ B.dataL (data.data.toList.take k)).toArray⟩ : ByteArray) ++ B.ofn data[k].toNat 8 = ⟨(p ++ B.dataL (data.data.toList.take (k + 1))).toArray⟩ from bytes_eq (by
        rw [B.cat_list, B.dataL_take data k hlt, B.ofn_list]; simp))
      have hoz : (⟨(p ++ B.dataL (data.data.toList.take k)).toArray⟩ : ByteArray).size ≤ 103 := by
        rw [size_of, List.length_append, B.dataL_length, List.length_take]; omega
      obtain ⟨o, ho⟩ : ∃ o : ByteArray, o = ⟨(p ++ B.dataL (data.data.toList.take k)).toArray⟩ := ⟨_, rfl⟩
      rw [← ho] at hnx hoz ⊢
      obtain ⟨v, hv⟩ : ∃ v, v = B.ofn data[k].toNat 8 := ⟨_, rfl⟩
      rw [← hv] at CB z3 hnx
      clear ho hv
      have q0 : (0 : Int) ≤ (k : Int) := by omega
      have q2 : (k : Int) < (data.size : Int) := by omega
      go_wp2_with (go_at_call 44; (with_reducible refine (CB.out _).mono ?_); rintro e w' ⟨rfl, rfl⟩)
      go_roundw
      case rel => exact ⟨k + 1, by omega, by go_num, val_str hnx.out, trivial⟩
      case measure => simp [intOf]; omega
    · have hE := Lib.hid (show data.data.toList.take k = data.data.toList from List.take_of_length_le (by rw [B.size_len]; omega))
      rw [hE.out, ← HH.out]
      go_wp2
      go_ret
      exact ⟨rfl, below_drewN hB _⟩

theorem refhead_any (id dlc : Nat) (ext rem : Bool) (data : ByteArray) (w : World) (h : B.FrR ⟨id, ext, rem, dlc, data.data.toList⟩) :
    Calls Tryz.prog 24 #[.agg (frV id ext rem dlc data)] w fun e w' => e = .returned (.string ⟨(B.headL ⟨id, ext, rem, dlc, data.data.toList⟩).toArray⟩) ∧ Below w.heap.size w w' := by
  cases ext
  · cases rem
    · exact refhead_std0 id dlc data w h
    · exact refhead_std1 id dlc data w h
  · cases rem
    · exact refhead_ext0 id dlc data w h
    · exact refhead_ext1 id dlc data w h

theorem head_right {f : B.Fr} (h : B.FrR f) : B.right ⟨(B.headL f).toArray⟩ = true := by
  have := B.bits_length h
  have hl := B.headL_length f
  have hb := B.base_or f
  have hd : f.data.length ≤ 8 := by
    obtain ⟨h8, hd, _⟩ := h
    split at hd
    · rw [hd]; simp
    · omega
  exact right_of_all (by rw [size_of]; omega) (by rw [list_of]; exact B.headL_all f)
theorem framed_list (s : ByteArray) : (B.framed s).data.toList = B.sumL s.data.toList := by
  unfold B.framed B.sumL B.sum
  rw [B.cat_list, B.ofn_list]

set_option maxRecDepth 100000 in
set_option maxHeartbeats 400000 in
theorem refsum4_any (s : ByteArray) (w : World) (hr : B.right s = true) (hz : s.size ≤ 3985) :
    Calls Tryz.prog 23 #[.string s] w fun e w' => e = .returned (.string (B.framed s)) ∧ Below w.heap.size w w' := by
  have hl := B.sum_lt s
  have CC := Lib.hid (fun w => refcrc_any s w hr)
  have CO : Hid (∀ w, Calls Tryz.prog 44 #[.int .u64 (B.sum s : Int), .int .i64 15] w fun e w' => e = .returned (.string (B.ofn (B.sum s) 15)) ∧ w = w') := Lib.hid fun w => refof_any (B.sum s) 15 w (by omega) (by omega)
  have hv := Lib.hid (show s ++ B.ofn (B.sum s) 15 = B.framed s from rfl)
  have z := B.ofn_size (B.sum s) 15
  obtain ⟨v, hv1⟩ : ∃ v, v = B.ofn (B.sum s) 15 := ⟨_, rfl⟩
  rw [← hv1] at CO hv z
  obtain ⟨n, hn⟩ : ∃ n, n = B.sum s := ⟨_, rfl⟩
  rw [← hn] at CC CO hl
  clear hv1 hn
  go_enter Tryz.func23, Tryz.ntmps23
  go_wp2_with (first
    | (go_at_call 45; (with_reducible refine (CC.out _).mono ?_); rintro e w' ⟨rfl, hb⟩)
    | (go_at_call 44; (with_reducible refine (CO.out _).mono ?_); rintro e w' ⟨rfl, rfl⟩))
  go_ret
  exact ⟨ret_str1 hv.out, hb⟩

theorem bits_ones (f : B.Fr) : (⟨(B.stf (B.framed ⟨(B.headL f).toArray⟩).data.toList).2.toArray⟩ : ByteArray) ++ ⟨#[49, 49, 49, 49, 49, 49, 49, 49, 49, 49]⟩ = ⟨(B.bitsL f).toArray⟩ := bytes_eq (by
  rw [B.cat_list, framed_list, list_of, list_of]; rfl)

set_option maxRecDepth 100000 in
set_option maxHeartbeats 400000 in
theorem refbits_any (id dlc : Nat) (ext rem : Bool) (data : ByteArray) (w : World) (h : B.FrR ⟨id, ext, rem, dlc, data.data.toList⟩) :
    Calls Tryz.prog 12 #[.agg (frV id ext rem dlc data)] w fun e w' => e = .returned (.string ⟨(B.bitsL ⟨id, ext, rem, dlc, data.data.toList⟩).toArray⟩) ∧ Below w.heap.size w w' := by
  have hhr := head_right h
  have hbl := B.bits_length h
  have hbits := Lib.hid (bits_ones ⟨id, ext, rem, dlc, data.data.toList⟩)
  have hsz : (⟨(B.stf (B.framed ⟨(B.headL ⟨id, ext, rem, dlc, data.data.toList⟩).toArray⟩).data.toList).2.toArray⟩ : ByteArray).size ≤ 160 := by
    rw [size_of, framed_list, list_of]; unfold B.bitsL at hbl; rw [List.length_append] at hbl; omega
  have hhz : (⟨(B.headL ⟨id, ext, rem, dlc, data.data.toList⟩).toArray⟩ : ByteArray).size ≤ 160 := by
    have hl := B.stf_length (B.sumL_all (B.headL_all ⟨id, ext, rem, dlc, data.data.toList⟩))
    rw [size_of]; unfold B.bitsL at hbl; rw [List.length_append] at hbl; rw [B.sumL_length] at hl; omega
  have CH := Lib.hid (fun w => refhead_any id dlc ext rem data w h)
  obtain ⟨u, hu⟩ : ∃ u : ByteArray, u = ⟨(B.headL ⟨id, ext, rem, dlc, data.data.toList⟩).toArray⟩ := ⟨_, rfl⟩
  rw [← hu] at CH hhr hhz hsz hbits
  have CS := Lib.hid (fun w => refsum4_any u w hhr (by omega))
  have hfz := B.framed_size u
  have CT := Lib.hid (fun w => refstuff_any (B.framed u) w (by omega) (B.right_all (B.framed_right hhr (by omega))))
  obtain ⟨v, hv⟩ : ∃ v, v = B.framed u := ⟨_, rfl⟩
  rw [← hv] at CS CT hsz hbits
  obtain ⟨x, hx⟩ : ∃ x : ByteArray, x = ⟨(B.stf v.data.toList).2.toArray⟩ := ⟨_, rfl⟩
  rw [← hx] at CT hsz hbits
  clear hu hv hx hfz hhr hbl h
  have hB : Below w.heap.size w (w.alloc (.cells (frV id ext rem dlc data) 24)) := (Below.refl _ _).alloc (Nat.le_refl _) _
  go_enter Tryz.func12, Tryz.ntmps12
  go_wp2_with (first
    | (go_at_call 24; (with_reducible refine (CH.out _).mono ?_); rintro e w' ⟨rfl, hb⟩; replace hB := hB.trans (hb.mono hB.size))
    | (go_at_call 23; (with_reducible refine (CS.out _).mono ?_); rintro e w' ⟨rfl, hb⟩; replace hB := hB.trans (hb.mono hB.size))
    | (go_at_call 22; (with_reducible refine (CT.out _).mono ?_); rintro e w' ⟨rfl, hb⟩; replace hB := hB.trans (hb.mono hB.size)))
  go_ret
  exact ⟨ret_str1 hbits.out, hB⟩
end Go.Proofs.YtcaeobkaoebndaaGreat
