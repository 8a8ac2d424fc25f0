/- The walk of package bits' Runs. -/
import Derived.Test.YtfnofajglbjgjaaBitsA
import Derived.Test.YtfnofajglbjgjaaRuns1
import Derived.Deep.AppendLies
import Derived.WalkSmall
namespace Go.Proofs.Ytfnofajglbjgjaa
open Go.RowKit Go.Lib

theorem Try.info51 : (Try.prog.info? 51).map (fun i => (i.zero, i.size, i.bytes)) = some (some (.agg #[.int .u8 0, .int .i64 0]), 2, 16) := by kernel_rfl

theorem ownsRow_drewN {w : World} {base : Nat} {e : TypeId} {size : Nat} {v : Value} {n : Nat} {xs : List Value} (h : w.ownsRow base e size v n xs) (k : Nat) : (w.drewN k).ownsRow base e size v n xs := by
  exact h

set_option maxHeartbeats 1000000 in
theorem runs_yes (s : ByteArray) (w : World) (hr : B.right s = true) :
    Calls Try.prog 21 #[.string s] w fun e w' => ∃ v, e = .returned (.tuple #[v, .int .i64 0]) ∧ w'.ownsRow w.heap.size 51 2 v (B.runsOf s.data.toList).length (B.runCells (B.runsOf s.data.toList)) ∧ Below w.heap.size w w' := by
  have hsz := B.right_size hr
  have hs' : s.size ≤ maxLen := by unfold maxLen; omega
  obtain ⟨i0, hi, hz0, hz1, hz2⟩ := info_parts Try.info51
  obtain ⟨B0, hB⟩ : ∃ b, b = w.heap.size := ⟨_, rfl⟩
  rw [← hB]
  have HB := Lib.hid hB
  clear hB
  go_enter Try.func21, Try.ntmps21
  go_wp2_with (go_at_call 11; (with_reducible refine (right_any _ _ hs').mono ?_); rintro e w' ⟨rfl, rfl⟩)
  go_loopw [4, 11] (fun v i wr => ∃ k : Nat, k ≤ s.size ∧ i = .int .i64 k ∧ wr.ownsRow B0 51 2 v (B.runsTo s k).length (B.runCells (B.runsTo s k)) ∧ Below B0 w wr) (fun _ i _ => s.size - (RowKit.intOf i).toNat)
  case atStart => exact ⟨0, Nat.zero_le _, rfl, by rw [B.runsTo_zero]; exact World.ownsRow_nil _ _ _ _, Below.refl _ _⟩
  case round =>
    obtain ⟨k, hk, rfl, ho, hb⟩ := hrel
    by_cases hlt : k < s.size
    · have hle : (B.runsTo s k).length ≤ 4000 := by
        have := B.runs_le (s.data.toList.take k)
        have h2 : (s.data.toList.take k).length ≤ k := List.length_take_le _ _
        unfold B.runsTo; omega
      by_cases h0 : k = 0
      · have hnw := Lib.hid (B.runsTo_new s k hlt (.inl h0))
        subst h0
        obtain ⟨rs, hrs⟩ : ∃ rs, rs = B.runsTo s 0 := ⟨_, rfl⟩
        obtain ⟨n, hn⟩ : ∃ n, n = rs.length := ⟨_, rfl⟩
        rw [← hrs] at ho hle
        rw [← hn] at ho hle
        have HRS := Lib.hid hrs
        have HN := Lib.hid hn
        clear hrs hn
        go_wp2_with fail
        go_quiet (fail)
        rename_i nq
        have ho := ownsRow_drewN ho nq
        have hb := below_drewN hb nq
        generalize wr.drewN nq = wq at *
        have HO := Lib.hid ho
        clear ho
        go_wp2_with (at_builtin; refine wpList_append_own _ rfl (.tmp 26) (.tmp 31) 41 rfl B0 51 i0 (.agg #[.int .u8 0, .int .i64 0]) 2 16 Try.underlying41 hi hz0 hz1 hz2 rfl (by decide) _ _ _ rfl (HO.out.alloc _) ⟨wq.heap.size, 0, none⟩ 1 1 [.int .u8 (s[0].toNat : Int), .int .i64 0] rfl rfl ?c1a ?c2a ?c3a ?c4a ?c5a ?_)
        case c1a =>
          intro j u hj
          match j, hj with
          | 0, hj => simp at hj; subst hj; simp [Addr.add]
          | 1, hj => simp at hj; subst hj; simp [Addr.add]
        case c2a => intro u hu; simp at hu; rcases hu with rfl | rfl <;> rfl
        case c3a => unfold maxLen; omega
        case c4a => omega
        case c5a => have := hb.size; have := HB.out; simp; omega
        intro v' w1 hown' hgrow _
        have hb1 : Below B0 w w1 := (hb.alloc (by have := hb.size; have := HB.out; omega) _).grown hgrow (by have := hb.size; have := HB.out; simp; omega) (fun g hg => (HO.out.lt g hg).1)
        clear hgrow hb
        obtain ⟨g, cap, rfl, hBg, hgl⟩ := hown'.form (by omega)
        have hx : B.runCells rs ++ [.int .u8 (s[0].toNat : Int), .int .i64 0] = B.runCells (rs ++ [(s[0], 0)]) := by rw [B.runCells_append]; rfl
        rw [hx] at hown'
        have hce := hown'.cellAt (n * 2 + 1) (by omega)
        rw [HN.out, B.runCells_at, ← HN.out] at hce
        have hfr := hown'.frozenAt (n * 2 + 1)
        have hst := (hown'.stored (n * 2 + 1) (.int .i64 1)).1
        rw [HN.out, show (Value.int .i64 1) = .int .i64 ((1 : Nat) : Int) from rfl, B.runCells_set, ← HN.out] at hst
        have HST := Lib.hid hst
        clear hst hx hown'
        go_wp2
        go_roundw
        case rel => exact ⟨0 + 1, by omega, by go_num, by rw [hnw.out, ← HRS.out, List.length_append, ← HN.out]; exact HST.out, hb1.setCell hBg _⟩
        case measure => simp [RowKit.intOf]; omega
      · have hk1 : 0 < k := by omega
        have hk2 : k - 1 < s.size := by omega
        have hkf : ((k : Int) == 0) = false := by simp; omega
        by_cases hsame : s[k - 1].toNat = s[k].toNat
        · obtain ⟨c1, hc1⟩ : ∃ c : UInt8, s[k - 1] = c := ⟨_, rfl⟩
          have hne : ((s[k].toNat : Int) != c1.toNat) = false := by rw [hc1] at hsame; simp; omega
          obtain ⟨rs, m, hr1, hr2⟩ := B.runsTo_more s k hlt hk1 hsame
          have hm : m ≤ 4000 := by
            have := B.runs_sum (s.data.toList.take k)
            have h2 : (s.data.toList.take k).length ≤ k := List.length_take_le _ _
            unfold B.runsTo at hr1
            rw [hr1] at this
            simp at this h2
            omega
          rw [hr1] at ho hle
          rw [List.length_append, show [(s[k], m)].length = 1 from rfl] at ho hle
          obtain ⟨n, hn⟩ : ∃ n, n = rs.length := ⟨_, rfl⟩
          rw [← hn] at ho hle
          obtain ⟨g, cap, rfl, hBg, hgl⟩ := ho.form (by omega)
          have hce := ho.cellAt (n * 2 + 1) (by omega)
          rw [hn, B.runCells_at, ← hn] at hce
          have hfr := ho.frozenAt (n * 2 + 1)
          have hst := (ho.stored (n * 2 + 1) (.int .i64 ((m + 1 : Nat) : Int))).1
          rw [hn, B.runCells_set, ← hn] at hst
          have HN := Lib.hid hn
          have HR2 := Lib.hid hr2
          have HST := Lib.hid hst
          clear hst hr1 hr2 hn ho hsame
          have q1 : IntKind.i64.wrap ((k : Int) - 1) = (k : Int) - 1 := IntWalk.i64_in _ (by omega)
          have q2 : ((k : Int) - 1).toNat = k - 1 := by omega
          have q3 : 0 ≤ (k : Int) - 1 := by omega
          have q4 : (k : Int) - 1 < s.size := by omega
          have q5 : (1 : Int) ≤ k := by omega
          have q6 : (k : Int) ≤ s.size := by omega
          go_wp2_with fail
          go_quiet (fail)
          rename_i nq
          clear hc1 q1 q2
          go_wp2
          go_roundw
          case rel => exact ⟨k + 1, by omega, by go_num, by rw [HR2.out, List.length_append, ← HN.out]; exact HST.out, (below_drewN hb nq).setCell hBg _⟩
          case measure => simp [RowKit.intOf]; omega
        · obtain ⟨c1, hc1⟩ : ∃ c : UInt8, s[k - 1] = c := ⟨_, rfl⟩
          have hne : ((s[k].toNat : Int) != c1.toNat) = true := by rw [hc1] at hsame; simp; omega
          have hnw := Lib.hid (B.runsTo_new s k hlt (.inr ⟨hk1, hsame⟩))
          clear hsame
          obtain ⟨rs, hrs⟩ : ∃ rs, rs = B.runsTo s k := ⟨_, rfl⟩
          obtain ⟨n, hn⟩ : ∃ n, n = rs.length := ⟨_, rfl⟩
          rw [← hrs] at ho hle
          rw [← hn] at ho hle
          have HRS := Lib.hid hrs
          have HN := Lib.hid hn
          clear hrs hn
          have q1 : IntKind.i64.wrap ((k : Int) - 1) = (k : Int) - 1 := IntWalk.i64_in _ (by omega)
          have q2 : ((k : Int) - 1).toNat = k - 1 := by omega
          have q3 : 0 ≤ (k : Int) - 1 := by omega
          have q4 : (k : Int) - 1 < s.size := by omega
          have q5 : (1 : Int) ≤ k := by omega
          have q6 : (k : Int) ≤ s.size := by omega
          go_wp2_with fail
          go_quiet (fail)
          rename_i nq
          clear hc1 q1 q2
          have ho := ownsRow_drewN ho nq
          have hb := below_drewN hb nq
          generalize wr.drewN nq = wq at *
          have HO := Lib.hid ho
          clear ho
          go_wp2_with (at_builtin; refine wpList_append_own _ rfl (.tmp 26) (.tmp 31) 41 rfl B0 51 i0 (.agg #[.int .u8 0, .int .i64 0]) 2 16 Try.underlying41 hi hz0 hz1 hz2 rfl (by decide) _ _ _ rfl (HO.out.alloc _) ⟨wq.heap.size, 0, none⟩ 1 1 [.int .u8 (s[k].toNat : Int), .int .i64 0] rfl rfl ?c1b ?c2b ?c3b ?c4b ?c5b ?_)
          case c1b =>
            intro j u hj
            match j, hj with
            | 0, hj => simp at hj; subst hj; simp [Addr.add]
            | 1, hj => simp at hj; subst hj; simp [Addr.add]
          case c2b => intro u hu; simp at hu; rcases hu with rfl | rfl <;> rfl
          case c3b => unfold maxLen; omega
          case c4b => omega
          case c5b => have := hb.size; have := HB.out; simp; omega
          intro v' w1 hown' hgrow _
          have hb1 : Below B0 w w1 := (hb.alloc (by have := hb.size; have := HB.out; omega) _).grown hgrow (by have := hb.size; have := HB.out; simp; omega) (fun g hg => (HO.out.lt g hg).1)
          clear hgrow hb
          obtain ⟨g, cap, rfl, hBg, hgl⟩ := hown'.form (by omega)
          have hx : B.runCells rs ++ [.int .u8 (s[k].toNat : Int), .int .i64 0] = B.runCells (rs ++ [(s[k], 0)]) := by rw [B.runCells_append]; rfl
          rw [hx] at hown'
          have hce := hown'.cellAt (n * 2 + 1) (by omega)
          rw [HN.out, B.runCells_at, ← HN.out] at hce
          have hfr := hown'.frozenAt (n * 2 + 1)
          have hst := (hown'.stored (n * 2 + 1) (.int .i64 1)).1
          rw [HN.out, show (Value.int .i64 1) = .int .i64 ((1 : Nat) : Int) from rfl, B.runCells_set, ← HN.out] at hst
          have HST := Lib.hid hst
          clear hst hx hown'
          go_wp2
          go_roundw
          case rel => exact ⟨k + 1, by omega, by go_num, by rw [hnw.out, ← HRS.out, List.length_append, ← HN.out]; exact HST.out, hb1.setCell hBg _⟩
          case measure => simp [RowKit.intOf]; omega
    · have hfin : B.runsTo s k = B.runsOf s.data.toList := by
        unfold B.runsTo; rw [List.take_of_length_le (by rw [B.size_len]; omega)]
      rw [hfin] at ho
      have HO := Lib.hid ho
      clear ho hfin
      go_wp2
      go_ret2
      exact ⟨_, rfl, HO.out, hb⟩

set_option maxHeartbeats 400000 in
theorem runs_no (s : ByteArray) (w : World) (hs : s.size ≤ maxLen) (hr : B.right s = false) :
    Calls Try.prog 21 #[.string s] w fun e w' => e = .returned (.tuple #[.slice none 0 0, .int .i64 1]) ∧ w = w' := by
  go_enter Try.func21, Try.ntmps21
  go_wp2_with (go_at_call 11; (with_reducible refine (right_any _ _ hs).mono ?_); rintro e w' ⟨rfl, rfl⟩)
  go_ret2
  exact ⟨rfl, rfl⟩
end Go.Proofs.Ytfnofajglbjgjaa
