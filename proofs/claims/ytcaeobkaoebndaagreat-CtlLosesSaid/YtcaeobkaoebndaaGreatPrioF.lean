/- The reference's First (layer 5): the first place where two rows part. -/
import Derived.Test.YtcaeobkaoebndaaGreatJ2
import Derived.Test.YtcaeobkaoebndaaGreatPlain
import Derived.BigQuiet
namespace Go.Proofs.YtcaeobkaoebndaaGreat
open Go.RowKit Go.Lib

theorem ret_int {a b : Int} (h : a = b) : Ending.returned (.int .i64 a) = .returned (.int .i64 b) := by rw [h]
theorem take_next {a b : ByteArray} {k : Nat} (ha : k < a.size) (hb : k < b.size) (ht : a.data.toList.take k = b.data.toList.take k) (h : a[k] = b[k]) : a.data.toList.take (k + 1) = b.data.toList.take (k + 1) := by
  rw [List.take_succ_eq_append_getElem (by rw [B.size_len]; exact ha), List.take_succ_eq_append_getElem (by rw [B.size_len]; exact hb), ht]
  congr 1
  show [a[k]] = [b[k]]
  rw [h]

set_option maxHeartbeats 1000000 in
theorem reffirst_any (a b : ByteArray) (w : World) (hna : a.size ≤ 32) :
    Calls Tryz.prog 29 #[.string a, .string b] w fun e w' => e = .returned (.int .i64 (B.firstI a.data.toList b.data.toList)) ∧ Below w.heap.size w w' := by
  go_enter Tryz.func29, Tryz.ntmps29
  go_wp2
  go_loopw [5] (fun i wr => ∃ k : Nat, k ≤ a.size ∧ k ≤ b.size ∧ i = .int .i64 k ∧ Hid (a.data.toList.take k = b.data.toList.take k) ∧ Below w.heap.size w wr) (fun i _ => a.size - (intOf i).toNat)
  case atStart => exact ⟨0, Nat.zero_le _, Nat.zero_le _, rfl, Lib.hid rfl, Below.refl _ _⟩
  case round =>
    obtain ⟨k, hka, hkb, rfl, HT, hW⟩ := hrel
    by_cases hlta : k < a.size
    · by_cases hltb : k < b.size
      · by_cases he : a[k] = b[k]
        · have HN := Lib.hid (take_next hlta hltb HT.out he)
          go_wp2_with fail
          go_quiet (fail)
          rename_i nq
          replace hW := below_drewN hW nq
          generalize wr.drewN nq = wq at *
          go_wp2
          go_roundw
          case rel => exact ⟨k + 1, hlta, hltb, by go_num, HN, hW⟩
          case measure => simp [intOf]; omega
        · have HB := Lib.hid (show B.firstI a.data.toList b.data.toList = (k : Int) by
            unfold B.firstI
            rw [B.firstD_at (k := k) (by rw [B.size_len]; exact hlta) (by rw [B.size_len]; exact hltb) HT.out he])
          have hne : ¬ a[k].toNat = b[k].toNat := fun h => he (UInt8.toNat_inj.1 h)
          go_wp2_with fail
          go_quiet (fail)
          rename_i nq
          replace hW := below_drewN hW nq
          generalize wr.drewN nq = wq at *
          go_wp2
          go_ret
          exact ⟨ret_int HB.out.symm, hW⟩
      · have HB := Lib.hid (show B.firstI a.data.toList b.data.toList = -1 by
          unfold B.firstI
          rw [B.firstD_none HT.out (by rw [B.size_len, B.size_len]; omega)])
        go_wp2
        go_ret
        exact ⟨ret_int HB.out.symm, hW⟩
    · have HB := Lib.hid (show B.firstI a.data.toList b.data.toList = -1 by
        unfold B.firstI
        rw [B.firstD_none HT.out (by rw [B.size_len, B.size_len]; omega)])
      go_wp2
      go_ret
      exact ⟨ret_int HB.out.symm, hW⟩
end Go.Proofs.YtcaeobkaoebndaaGreat
