/- slices.DeleteFunc over those that are left. -/
import Derived.Test.YthgbfidghhlldabPCon4
import Derived.Test.YthgbfidghhlldabPlain
namespace Go.Proofs.Ythgbfidghhlldab
open Go.RowKit Go.Lib
attribute [local go_sem ↓] Go.wp_at_zero Go.wp_at_succ

set_option maxRecDepth 100000 in
set_option maxHeartbeats 4000000 in
theorem del_any (w0 : World) (base C gf gl go nl n capf capl capo k : Nat) (ss : Nat → ByteArray) (y : UInt8) (bc ba bb : Nat) (ls : List Nat) (os : List Int) (w : World)
    (hE : EV w0 C gf gl go n capf capo k ss y bc ba bb) (hD : DX w0 base gl go nl n capl capo ls os w) (hn : nl ≤ 1000000) (hcap : nl ≤ capl) (hls : ∀ i ∈ ls, i < n ∧ k < (ss i).size) :
    Calls Try.prog 33 #[.slice (some ⟨gl, 0, none⟩) nl capl, .func (.func 34) #[] #[.pointer (some ⟨bc, 0, none⟩), .pointer (some ⟨ba, 0, none⟩), .pointer (some ⟨bb, 0, none⟩)]] w fun e w' => ∃ m xs, m = (ls.filter (fun i => B.bt (fl ss) k i == y)).length ∧ e = .returned (.slice (some ⟨gl, 0, none⟩) m capl) ∧
      DX w0 base gl go nl n capl capo xs (B.dels (fun i => B.bt (fl ss) k i == y) k ls os) w' ∧ xs.take m = ls.filter (fun i => B.bt (fl ss) k i == y) ∧ m ≤ nl := by
  have hll := hD.xs_len
  obtain ⟨kp, hkp⟩ : ∃ kp : Nat → Bool, kp = fun i => B.bt (fl ss) k i == y := ⟨_, rfl⟩
  rw [← hkp]
  have hky : ∀ i, kp i = true → B.bt (fl ss) k i = y := fun i h => by rw [hkp] at h; simpa using h
  have hkn : ∀ i, kp i = false → B.bt (fl ss) k i ≠ y := fun i h => by rw [hkp] at h; simpa using h
  clear hkp
  rcases B.first_lose kp ls with hall | ⟨j0, hj0, hlo, hbe⟩
  · have CI := Lib.hid (idx_none w0 base C gf gl go nl n capf capl capo k ss y bc ba bb ls os w hE hD hn hls (fun i hi => hky i (hall i hi)))
    have HF := Lib.hid (show ls.filter kp = ls from List.filter_eq_self.2 hall)
    have HD := Lib.hid (B.dels_keep kp k ls os hall)
    have HL := Lib.hid hll
    clear hD hls hall hky hkn hE hll
    go_enter Try.func33, Try.ntmps33
    go_wp2_with (go_at_call 45; (with_reducible refine CI.out.mono ?_); rintro e w2 ⟨rfl, hD2⟩)
    go_ret
    refine ⟨nl, ls, by rw [HF.out, HL.out], rfl, by rw [HD.out]; exact hD2, by rw [HF.out, ← HL.out, List.take_length], Nat.le_refl _⟩
  · have CI := Lib.hid (idx_some w0 base C gf gl go nl n capf capl capo k j0 ss y bc ba bb ls os w hE hD hn hls hj0 (fun j h hlt => hky _ (hbe j h hlt)) (hkn _ hlo))
    have HK := Lib.hid (B.KI.start hj0 hbe hlo)
    have HS := Lib.hid (show B.dels kp k (ls.take (j0 + 1)) os = os.set ls[j0] k by
      rw [List.take_succ_eq_append_getElem hj0, B.dels_snoc, hlo, B.dels_keep kp k (ls.take j0) os (fun i hi => by
        obtain ⟨t, ht, rfl⟩ := List.getElem_of_mem hi
        rw [List.length_take] at ht
        rw [List.getElem_take]
        exact hbe t (by omega) (by omega))]
      rfl)
    have hjn : j0 < nl := by rw [← hll]; exact hj0
    have hne1 : ((j0 : Int) == -1) = false := beq_eq_false_iff_ne.2 (by omega)
    have HLs := Lib.hid hls
    have HY := Lib.hid hky
    have HN := Lib.hid hkn
    have HL := Lib.hid hll
    clear hD hls hbe hlo hky hkn hll
    go_enter Try.func33, Try.ntmps33
    go_wp2_with (go_at_call 45; (with_reducible refine CI.out.mono ?_); rintro e w2 ⟨rfl, hD2⟩)
    go_loopw [5, 6] (fun s5 s6 wr => ∃ (i j : Nat) (xs : List Nat), s5 = .int .i64 i ∧ s6 = .int .i64 j ∧ j ≤ nl ∧ i < j ∧ DX w0 base gl go nl n capl capo xs (B.dels kp k (ls.take j) os) wr ∧ Hid (B.KI kp ls xs i j)) (fun _ s6 _ => nl - (intOf s6).toNat)
    case atStart => exact ⟨j0, j0 + 1, ls, rfl, by go_num, hjn, by omega, by rw [HS.out]; exact hD2, HK⟩
    case round =>
      clear hD2
      obtain ⟨i, j, xs, rfl, rfl, hj, hij, hD, HI⟩ := hrel
      have hxl := hD.xs_len
      by_cases hlt : j < nl
      · have hjl : j < ls.length := by rw [HL.out]; exact hlt
        have c1 := hD.cellx j (by rw [hxl]; exact hlt)
        rw [HI.out.get hjl] at c1
        have c2 := hD.cellx i (by rw [hxl]; omega)
        obtain ⟨u, hu⟩ : ∃ u, u = xs[i]'(by rw [hxl]; omega) := ⟨_, rfl⟩
        rw [← hu] at c2
        obtain ⟨h1, h2⟩ := HLs.out ls[j] (List.getElem_mem hjl)
        have h3 : kp ls[j] = true → B.bt (fl ss) k ls[j] = y := HY.out _
        have h4 : kp ls[j] = false → B.bt (fl ss) k ls[j] ≠ y := HN.out _
        have HKK := Lib.hid (fun h => HI.out.keep hjl h)
        have HKL := Lib.hid (fun h => HI.out.lose hjl h)
        have HT := Lib.hid (show B.dels kp k (ls.take (j + 1)) os = if kp ls[j] then B.dels kp k (ls.take j) os else (B.dels kp k (ls.take j) os).set ls[j] k by
          rw [List.take_succ_eq_append_getElem hjl, B.dels_snoc])
        obtain ⟨p, hp⟩ : ∃ p, p = ls[j] := ⟨_, rfl⟩
        rw [← hp] at c1 h1 h2 h3 h4 HKK HKL HT
        clear hp hu hxl
        cases hk : kp p
        · rw [hk] at HT
          have CL := Lib.hid (lit_lose w0 base C gf gl go nl n capf capl capo k p ss y bc ba bb xs _ wr hE hD h1 h2 (h4 hk))
          have HR := Lib.hid (HKL.out hk)
          clear h1 h2 h3 h4 hD HKK HKL hk
          go_wp2_with (go_at_call 34; (with_reducible refine CL.out.mono ?_); rintro e w3 ⟨rfl, hD3⟩)
          go_roundw
          case rel => exact ⟨i, j + 1, xs, rfl, by go_num, hlt, by omega, by rw [HT.out]; exact hD3, HR⟩
          case measure => simp [intOf]; omega
        · rw [hk] at HT
          have CL := Lib.hid (lit_keep w0 base C gf gl go nl n capf capl capo k p ss y bc ba bb xs _ wr hE hD h1 h2 (h3 hk))
          have HR := Lib.hid (HKK.out hk)
          have hin : i < nl := by omega
          clear h1 h2 h3 h4 hD HKK HKL hk
          go_wp2_with (go_at_call 34; (with_reducible refine CL.out.mono ?_); rintro e w3 ⟨rfl, hD3⟩; (have f3 := hD3.left.frozenAt i); (obtain ⟨u3, c3⟩ : ∃ u3, w3.cell? ⟨gl, i, none⟩ = some u3 := ⟨_, hD3.cellx i (by rw [hD3.xs_len]; exact hin)⟩); (have HD3 := Lib.hid (hD3.setl i p)); clear hD3)
          go_roundw
          case rel => exact ⟨i + 1, j + 1, _, by go_num, by go_num, hlt, by omega, by rw [HT.out]; exact HD3.out, HR⟩
          case measure => simp [intOf]; omega
      · obtain rfl : j = nl := by omega
        have hcl : ∀ ty, (Builtin.clear_ #[34] ty #[.slice (some ⟨gl, i, none⟩) (j - i) (capl - i)]).run Try.prog wr = .ok (.tuple #[]) (wr.setCells gl i (List.replicate (j - i) (.int .i64 0))) :=
          fun ty => Lib.run_clear_slice wr 34 3 ty (.int .i64 0) Try.underlying34 Try.zeroValue3 rfl rfl gl i _ _ (by omega) (fun t ht => by rw [hD.cellx (i + t) (by rw [hxl]; omega)]; rfl) (fun t ht => hD.left.frozenAt (i + t))
        obtain ⟨xs', hD', ht'⟩ := DX.clear (j - i) i xs wr hD
        have HD' := Lib.hid hD'
        have hK := HI.out
        rw [show ls.take j = ls from by rw [← HL.out, List.take_length]] at HD'
        have HM := Lib.hid (show i = (ls.filter kp).length by rw [← hK.il, ← HL.out, List.take_length])
        have HX := Lib.hid (show xs'.take i = ls.filter kp by rw [ht', hK.tk, ← HL.out, List.take_length])
        clear hD hD' ht' hxl hK
        go_wp2
        go_ret
        exact ⟨i, xs', HM.out, rfl, HD'.out, HX.out, by omega⟩
end Go.Proofs.Ythgbfidghhlldab
