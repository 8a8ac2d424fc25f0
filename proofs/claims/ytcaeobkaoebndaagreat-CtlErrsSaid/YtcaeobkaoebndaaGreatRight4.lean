/- Package frame's dataBytes and Right. -/
import Derived.Test.YtcaeobkaoebndaaGreatJ2
namespace Go.Proofs.YtcaeobkaoebndaaGreat
open Go.RowKit Go.Lib

set_option maxHeartbeats 400000 in
theorem databytes_any (dlc : Int) (rem : Bool) (w : World) :
    Calls Tryz.prog 55 #[.int .i64 dlc, .bool rem] w fun e w' => e = .returned (.int .i64 (if rem then 0 else dlc)) ∧ w = w' := by
  cases rem
  all_goals
    go_enter Tryz.func55, Tryz.ntmps55
    go_wp2
    go_ret
    exact ⟨rfl, rfl⟩

theorem B.frI_id {id : Nat} {ext rem : Bool} {dlc : Int} {n : Nat} (h : ¬ id < if ext then 536870912 else 2048) : B.frI id ext rem dlc n = false := by
  unfold B.frI; rw [decide_eq_false h, Bool.and_false]
theorem B.frI_dlc {id : Nat} {ext rem : Bool} {dlc : Int} {n : Nat} (h : ¬ (0 ≤ dlc ∧ dlc ≤ 8)) : B.frI id ext rem dlc n = false := by
  unfold B.frI; rw [decide_eq_false h]; rfl
theorem B.frI_yes {id : Nat} {ext rem : Bool} {dlc : Int} {n : Nat} (h : 0 ≤ dlc ∧ dlc ≤ 8) (hi : id < if ext then 536870912 else 2048) : B.frI id ext rem dlc n = ((n : Int) == if rem then 0 else dlc) := by
  unfold B.frI; rw [decide_eq_true h, decide_eq_true hi]
  cases rem <;> rw [Bool.eq_iff_iff] <;> simp

set_option maxRecDepth 100000 in
set_option maxHeartbeats 2000000 in
theorem right4_id_f (id : Nat) (rem : Bool) (dlc : Int) (data : ByteArray) (w : World) (hi : ¬ id < 2048) :
    Calls Tryz.prog 27 #[.agg (frV id false rem dlc data)] w fun e w' => e = .returned (.bool (B.frI id false rem dlc data.size)) ∧ Below w.heap.size w w' := by
  have hB : Below w.heap.size w (w.alloc (.cells (frV id false rem dlc data) 24)) := (Below.refl _ _).alloc (Nat.le_refl _) _
  have CD := Lib.hid (fun w => databytes_any dlc rem w)
  have hid : ((id : Int) / 2048 == 0) = false := by simp; omega
  have hR := Lib.hid (B.frI_id (id := id) (ext := false) (rem := rem) (dlc := dlc) (n := data.size) (by simpa using hi))
  clear hi
  go_enter Tryz.func27, Tryz.ntmps27
  go_wp2
  go_quiet ((go_at_call 55; exact quiet_mine (CD.out _)))
  go_wp2
  go_ret
  exact ⟨ret_bool hR.out.symm, below_drewN hB _⟩

set_option maxRecDepth 100000 in
set_option maxHeartbeats 2000000 in
theorem right4_neg_f (id : Nat) (rem : Bool) (dlc : Int) (data : ByteArray) (w : World) (hi : id < 2048) (h : dlc < 0) :
    Calls Tryz.prog 27 #[.agg (frV id false rem dlc data)] w fun e w' => e = .returned (.bool (B.frI id false rem dlc data.size)) ∧ Below w.heap.size w w' := by
  have hB : Below w.heap.size w (w.alloc (.cells (frV id false rem dlc data) 24)) := (Below.refl _ _).alloc (Nat.le_refl _) _
  have CD := Lib.hid (fun w => databytes_any dlc rem w)
  have hid : ((id : Int) / 2048 == 0) = true := by simp; omega
  have h0 : decide (0 ≤ dlc) = false := by simp; omega
  have hR := Lib.hid (B.frI_dlc (id := id) (ext := false) (rem := rem) (dlc := dlc) (n := data.size) (by omega))
  clear hi h
  go_enter Tryz.func27, Tryz.ntmps27
  go_wp2
  go_quiet ((go_at_call 55; exact quiet_mine (CD.out _)))
  go_wp2
  go_ret
  exact ⟨ret_bool hR.out.symm, below_drewN hB _⟩

set_option maxRecDepth 100000 in
set_option maxHeartbeats 2000000 in
theorem right4_long_f (id : Nat) (rem : Bool) (dlc : Int) (data : ByteArray) (w : World) (hi : id < 2048) (h0 : 0 ≤ dlc) (h : 8 < dlc) :
    Calls Tryz.prog 27 #[.agg (frV id false rem dlc data)] w fun e w' => e = .returned (.bool (B.frI id false rem dlc data.size)) ∧ Below w.heap.size w w' := by
  have hB : Below w.heap.size w (w.alloc (.cells (frV id false rem dlc data) 24)) := (Below.refl _ _).alloc (Nat.le_refl _) _
  have CD := Lib.hid (fun w => databytes_any dlc rem w)
  have hid : ((id : Int) / 2048 == 0) = true := by simp; omega
  have h8 : decide (dlc ≤ 8) = false := by simp; omega
  have hR := Lib.hid (B.frI_dlc (id := id) (ext := false) (rem := rem) (dlc := dlc) (n := data.size) (by omega))
  clear hi h
  go_enter Tryz.func27, Tryz.ntmps27
  go_wp2
  go_quiet ((go_at_call 55; exact quiet_mine (CD.out _)))
  go_wp2
  go_ret
  exact ⟨ret_bool hR.out.symm, below_drewN hB _⟩

set_option maxRecDepth 100000 in
set_option maxHeartbeats 2000000 in
theorem right4_fit_f (id : Nat) (rem : Bool) (dlc : Int) (data : ByteArray) (w : World) (hi : id < 2048) (h0 : 0 ≤ dlc) (h8 : dlc ≤ 8) :
    Calls Tryz.prog 27 #[.agg (frV id false rem dlc data)] w fun e w' => e = .returned (.bool (B.frI id false rem dlc data.size)) ∧ Below w.heap.size w w' := by
  have hB : Below w.heap.size w (w.alloc (.cells (frV id false rem dlc data) 24)) := (Below.refl _ _).alloc (Nat.le_refl _) _
  have hid : ((id : Int) / 2048 == 0) = true := by simp; omega
  have hR := Lib.hid (B.frI_yes (id := id) (ext := false) (rem := rem) (dlc := dlc) (n := data.size) ⟨h0, h8⟩ (by simpa using hi))
  have CD := Lib.hid (fun w => databytes_any dlc rem w)
  obtain ⟨m, hm⟩ : ∃ m : Int, m = if rem then 0 else dlc := ⟨_, rfl⟩
  rw [← hm] at hR CD
  clear hi hm
  go_enter Tryz.func27, Tryz.ntmps27
  go_wp2
  go_quiet ((go_at_call 55; exact quiet_mine (CD.out _)))
  go_wp2
  go_ret
  exact ⟨ret_bool hR.out.symm, below_drewN hB _⟩

set_option maxRecDepth 100000 in
set_option maxHeartbeats 2000000 in
theorem right4_id_t (id : Nat) (rem : Bool) (dlc : Int) (data : ByteArray) (w : World) (hi : ¬ id < 536870912) :
    Calls Tryz.prog 27 #[.agg (frV id true rem dlc data)] w fun e w' => e = .returned (.bool (B.frI id true rem dlc data.size)) ∧ Below w.heap.size w w' := by
  have hB : Below w.heap.size w (w.alloc (.cells (frV id true rem dlc data) 24)) := (Below.refl _ _).alloc (Nat.le_refl _) _
  have CD := Lib.hid (fun w => databytes_any dlc rem w)
  have hid : ((id : Int) / 536870912 == 0) = false := by simp; omega
  have hR := Lib.hid (B.frI_id (id := id) (ext := true) (rem := rem) (dlc := dlc) (n := data.size) (by simpa using hi))
  clear hi
  go_enter Tryz.func27, Tryz.ntmps27
  go_wp2
  go_quiet ((go_at_call 55; exact quiet_mine (CD.out _)))
  go_wp2
  go_ret
  exact ⟨ret_bool hR.out.symm, below_drewN hB _⟩

set_option maxRecDepth 100000 in
set_option maxHeartbeats 2000000 in
theorem right4_neg_t (id : Nat) (rem : Bool) (dlc : Int) (data : ByteArray) (w : World) (hi : id < 536870912) (h : dlc < 0) :
    Calls Tryz.prog 27 #[.agg (frV id true rem dlc data)] w fun e w' => e = .returned (.bool (B.frI id true rem dlc data.size)) ∧ Below w.heap.size w w' := by
  have hB : Below w.heap.size w (w.alloc (.cells (frV id true rem dlc data) 24)) := (Below.refl _ _).alloc (Nat.le_refl _) _
  have CD := Lib.hid (fun w => databytes_any dlc rem w)
  have hid : ((id : Int) / 536870912 == 0) = true := by simp; omega
  have h0 : decide (0 ≤ dlc) = false := by simp; omega
  have hR := Lib.hid (B.frI_dlc (id := id) (ext := true) (rem := rem) (dlc := dlc) (n := data.size) (by omega))
  clear hi h
  go_enter Tryz.func27, Tryz.ntmps27
  go_wp2
  go_quiet ((go_at_call 55; exact quiet_mine (CD.out _)))
  go_wp2
  go_ret
  exact ⟨ret_bool hR.out.symm, below_drewN hB _⟩

set_option maxRecDepth 100000 in
set_option maxHeartbeats 2000000 in
theorem right4_long_t (id : Nat) (rem : Bool) (dlc : Int) (data : ByteArray) (w : World) (hi : id < 536870912) (h0 : 0 ≤ dlc) (h : 8 < dlc) :
    Calls Tryz.prog 27 #[.agg (frV id true rem dlc data)] w fun e w' => e = .returned (.bool (B.frI id true rem dlc data.size)) ∧ Below w.heap.size w w' := by
  have hB : Below w.heap.size w (w.alloc (.cells (frV id true rem dlc data) 24)) := (Below.refl _ _).alloc (Nat.le_refl _) _
  have CD := Lib.hid (fun w => databytes_any dlc rem w)
  have hid : ((id : Int) / 536870912 == 0) = true := by simp; omega
  have h8 : decide (dlc ≤ 8) = false := by simp; omega
  have hR := Lib.hid (B.frI_dlc (id := id) (ext := true) (rem := rem) (dlc := dlc) (n := data.size) (by omega))
  clear hi h
  go_enter Tryz.func27, Tryz.ntmps27
  go_wp2
  go_quiet ((go_at_call 55; exact quiet_mine (CD.out _)))
  go_wp2
  go_ret
  exact ⟨ret_bool hR.out.symm, below_drewN hB _⟩

set_option maxRecDepth 100000 in
set_option maxHeartbeats 2000000 in
theorem right4_fit_t (id : Nat) (rem : Bool) (dlc : Int) (data : ByteArray) (w : World) (hi : id < 536870912) (h0 : 0 ≤ dlc) (h8 : dlc ≤ 8) :
    Calls Tryz.prog 27 #[.agg (frV id true rem dlc data)] w fun e w' => e = .returned (.bool (B.frI id true rem dlc data.size)) ∧ Below w.heap.size w w' := by
  have hB : Below w.heap.size w (w.alloc (.cells (frV id true rem dlc data) 24)) := (Below.refl _ _).alloc (Nat.le_refl _) _
  have hid : ((id : Int) / 536870912 == 0) = true := by simp; omega
  have hR := Lib.hid (B.frI_yes (id := id) (ext := true) (rem := rem) (dlc := dlc) (n := data.size) ⟨h0, h8⟩ (by simpa using hi))
  have CD := Lib.hid (fun w => databytes_any dlc rem w)
  obtain ⟨m, hm⟩ : ∃ m : Int, m = if rem then 0 else dlc := ⟨_, rfl⟩
  rw [← hm] at hR CD
  clear hi hm
  go_enter Tryz.func27, Tryz.ntmps27
  go_wp2
  go_quiet ((go_at_call 55; exact quiet_mine (CD.out _)))
  go_wp2
  go_ret
  exact ⟨ret_bool hR.out.symm, below_drewN hB _⟩

/-- frame.Right -/
theorem right4_any (id : Nat) (ext rem : Bool) (dlc : Int) (data : ByteArray) (w : World) :
    Calls Tryz.prog 27 #[.agg (frV id ext rem dlc data)] w fun e w' => e = .returned (.bool (B.frI id ext rem dlc data.size)) ∧ Below w.heap.size w w' := by
  cases ext
  · by_cases hi : id < 2048
    · by_cases h0 : dlc < 0
      · exact right4_neg_f id rem dlc data w hi h0
      · by_cases h8 : 8 < dlc
        · exact right4_long_f id rem dlc data w hi (by omega) h8
        · exact right4_fit_f id rem dlc data w hi (by omega) (by omega)
    · exact right4_id_f id rem dlc data w hi
  · by_cases hi : id < 536870912
    · by_cases h0 : dlc < 0
      · exact right4_neg_t id rem dlc data w hi h0
      · by_cases h8 : 8 < dlc
        · exact right4_long_t id rem dlc data w hi (by omega) h8
        · exact right4_fit_t id rem dlc data w hi (by omega) (by omega)
    · exact right4_id_t id rem dlc data w hi
end Go.Proofs.YtcaeobkaoebndaaGreat
