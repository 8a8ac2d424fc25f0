/- The walk of the law BitsBack. -/
import Derived.Test.YtfnofajglbjgjaaLaw01
namespace Go.Proofs.Ytfnofajglbjgjaa
open Go.RowKit Go.Lib

set_option maxHeartbeats 800000 in
theorem back_any (n : Nat) (s : ByteArray) (w : World) (hn : n < 18446744073709551616) :
    Calls Try.prog 5 #[.int .u64 n, .string s] w fun e w' => e = .returned (.bool true) ∧ Below w.heap.size w w' := by
  have c1 : ∀ w, Calls Try.prog 9 #[.int .u64 n, .int .i64 64] w fun e w' => e = .returned (.tuple #[.string (B.ofn n 64), .int .i64 0]) ∧ Below w.heap.size w w' := fun w => of_yes n 64 w (by omega) (by omega)
  have c2 := fun w => number_yes (B.ofn n 64) w (by rw [B.ofn_size]; omega) (B.ofn_right n 64 (by omega))
  rw [B.ofn_list, B.num_ofl n 64 (by omega)] at c2
  have C1 := Lib.hid c1
  have C2 := Lib.hid c2
  clear c1 c2
  have hB : Below w.heap.size w w := Below.refl _ _
  have core : ∃ t : ByteArray, t.size ≤ 64 ∧ ((64 < s.size ∧ s.extract 0 64 = t) ∨ (s.size ≤ 64 ∧ s = t)) := by
    by_cases h64 : 64 < s.size
    · exact ⟨_, by simp [ByteArray.size_extract]; omega, .inl ⟨h64, rfl⟩⟩
    · exact ⟨s, by omega, .inr ⟨by omega, rfl⟩⟩
  obtain ⟨t, htz, ht⟩ := core
  have hz := B.ofn_size n 64
  by_cases hr : B.right t = true
  · have C3 := Lib.hid (fun w => number_yes t w htz hr)
    have C4 := Lib.hid (fun w => of_num t w htz hr)
    clear hr
    rcases ht with ⟨h64, ht⟩ | ⟨h64, rfl⟩
    all_goals
      go_enter Try.func5, Try.ntmps5
      go_wp2_with (first | (go_at_call 9; (with_reducible refine (C1.out _).mono ?_); rintro e w' ⟨rfl, hb⟩; replace hB := hB.trans (hb.mono hB.size)) | (go_at_call 10; (with_reducible refine (C2.out _).mono ?_); rintro e w' ⟨rfl, rfl⟩) | (go_at_call 13; (with_reducible refine (alive_any _).mono ?_); rintro e w' ⟨rfl, hb⟩; replace hB := hB.trans (hb.mono hB.size)) | (go_at_call 10; (with_reducible refine (C3.out _).mono ?_); rintro e w' ⟨rfl, rfl⟩) | (go_at_call 9; (with_reducible refine (C4.out _).mono ?_); rintro e w' ⟨rfl, hb⟩; replace hB := hB.trans (hb.mono hB.size)))
      go_ret
      exact ⟨rfl, hB⟩
  · have hr' : B.right t = false := by simpa using hr
    have hm : t.size ≤ maxLen := by unfold maxLen; omega
    have C3 := Lib.hid (fun w => number_no t w hm (.inl hr'))
    clear hr
    rcases ht with ⟨h64, ht⟩ | ⟨h64, rfl⟩
    all_goals
      go_enter Try.func5, Try.ntmps5
      go_wp2_with (first | (go_at_call 9; (with_reducible refine (C1.out _).mono ?_); rintro e w' ⟨rfl, hb⟩; replace hB := hB.trans (hb.mono hB.size)) | (go_at_call 10; (with_reducible refine (C2.out _).mono ?_); rintro e w' ⟨rfl, rfl⟩) | (go_at_call 13; (with_reducible refine (alive_any _).mono ?_); rintro e w' ⟨rfl, hb⟩; replace hB := hB.trans (hb.mono hB.size)) | (go_at_call 10; (with_reducible refine (C3.out _).mono ?_); rintro e w' ⟨rfl, rfl⟩) | (go_at_call 12; (with_reducible refine (refright_any _ _ hm).mono ?_); rintro e w' ⟨rfl, rfl⟩))
      go_ret
      exact ⟨rfl, hB⟩
end Go.Proofs.Ytfnofajglbjgjaa
