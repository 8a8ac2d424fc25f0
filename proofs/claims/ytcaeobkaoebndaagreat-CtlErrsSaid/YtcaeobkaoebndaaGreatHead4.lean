/- Package frame's writer: flag, number, id, head; then Head and Bits. -/
import Derived.Test.YtcaeobkaoebndaaGreatJ5
import Derived.Test.YtcaeobkaoebndaaGreatRight4
import Derived.Test.YtcaeobkaoebndaaGreatJ4
import Derived.Test.YtcaeobkaoebndaaGreatJ6
import Derived.Test.YtcaeobkaoebndaaGreatJ7
import Derived.Laws.BitsLemmas
namespace Go.Proofs.YtcaeobkaoebndaaGreat
open Go.RowKit Go.Lib

theorem Blk.kept {w w' : World} {g b : Nat} {cs : Array Value} {t : TypeId} (h : Blk w g cs t) (k : Lib.OthersKept 5 (some b) w w') (hg : g ≠ b) (ht : t ≠ 5) : Blk w' g cs t :=
  k g _ h (fun e => hg (Option.some.inj e)) (fun c fz e => ht (by injection e))
theorem and_low18 (n : Nat) (h : n < 536870912) : bits BinOp.and IntKind.u64 (n : Int) 262143 = (n : Int) % 262144 :=
  bits_mask .u64 64 (by decide) (fun v h0 h1 => IntWalk.u64_in v (by omega)) 18 (by decide) n (by omega) (by omega)
theorem B.ofl_take (n k j : Nat) : ofl (n / 2 ^ j) k = (ofl n (k + j)).take k := by
  apply List.ext_getElem
  · simp [ofl_length]
  · intro i h1 h2
    rw [ofl_length] at h1
    simp only [ofl, List.getElem_take, List.getElem_map, List.getElem_range, bit]
    rw [Nat.div_div_eq_div_mul, ← Nat.pow_add, show j + (k - 1 - i) = k + j - 1 - i from by omega]
theorem B.ofl_drop (n k j : Nat) : ofl (n % 2 ^ j) j = (ofl n (k + j)).drop k := by
  apply List.ext_getElem
  · simp [ofl_length]
  · intro i h1 h2
    rw [ofl_length] at h1
    simp only [ofl, List.getElem_drop, List.getElem_map, List.getElem_range, bit]
    have e : n % 2 ^ j / 2 ^ (j - 1 - i) % 2 = n / 2 ^ (j - 1 - i) % 2 := by
      have h3 : (2 : Nat) ^ j = 2 ^ (j - 1 - i) * 2 ^ (i + 1) := by rw [← Nat.pow_add]; congr 1; omega
      rw [h3, Nat.mod_mul_right_div_self, Nat.pow_succ, Nat.mul_comm (2 ^ i) 2, Nat.mod_mul_right_mod]
    rw [e, show k + j - 1 - (k + i) = j - 1 - i from by omega]

set_option maxRecDepth 100000 in
set_option maxHeartbeats 1000000 in
theorem flag_any (G b : Nat) (l : List UInt8) (on : Bool) (w : World) (h : Wr G b l w) (hl : l.length ≤ 1000) :
    Calls Tryz.prog 114 #[.pointer (some ⟨b, 0, none⟩), .bool on] w fun e w' => e = .returned (.tuple #[]) ∧ (Wr G b (l ++ [B.rb on]) w' ∧ Below G w w' ∧ Lib.OthersKept 5 (some b) w w') := by
  cases on
  · have CW := Lib.hid (writestr_any G b l ⟨#[48]⟩ w h (by show l.length + 1 ≤ _; omega))
    clear h hl
    go_enter Tryz.func114, Tryz.ntmps114
    go_wp2_with (go_at_call 33; (with_reducible refine CW.out.mono ?_); rintro e w' ⟨rfl, hP⟩)
    go_end0
    exact ⟨rfl, hP⟩
  · have CW := Lib.hid (writestr_any G b l ⟨#[49]⟩ w h (by show l.length + 1 ≤ _; omega))
    clear h hl
    go_enter Tryz.func114, Tryz.ntmps114
    go_wp2_with (go_at_call 33; (with_reducible refine CW.out.mono ?_); rintro e w' ⟨rfl, hP⟩)
    refine bodyPost_ret (v := .tuple #[]) (by simp [results, Tryz.results114, go_sem]) rfl ?_
    exact ⟨rfl, hP⟩

set_option maxRecDepth 100000 in
set_option maxHeartbeats 1000000 in
theorem wrnum_any (G b : Nat) (l : List UInt8) (n k : Nat) (w : World) (h : Wr G b l w) (hl : l.length ≤ 1000) (hk : k ≤ 64) (hn : n < 2 ^ k) :
    Calls Tryz.prog 116 #[.pointer (some ⟨b, 0, none⟩), .int .u64 n, .int .i64 k] w fun e w' => e = .returned (.tuple #[]) ∧ (Wr G b (l ++ B.ofl n k) w' ∧ Below G w w' ∧ Lib.OthersKept 5 (some b) w w') := by
  have CO := Lib.hid (of_yes n k w hk hn)
  have CW := Lib.hid (fun w1 (h1 : Wr G b l w1) => writestr_any G b l (B.ofn n k) w1 h1 (by rw [B.ofn_size]; omega))
  have hBb := h.le
  have hlt := h.lt
  have HW := Lib.hid h
  clear h hl hn
  go_enter Tryz.func116, Tryz.ntmps116
  go_wp2_with (first
    | (go_at_call 103; (with_reducible refine CO.out.mono ?_); rintro e w1 ⟨rfl, hb⟩)
    | (go_at_call 33; (with_reducible refine (CW.out _ (HW.out.keep hb)).mono ?_); rintro e w' ⟨rfl, h1, h2, h3⟩))
  go_end0
  exact ⟨rfl, h1, (hb.mono (by omega)).trans h2, (kept_below hb).trans h3⟩

/-- the walk's own spelling of how many bits -/
theorem wrnum_lit (G b : Nat) (l : List UInt8) (n : Int) (k : Int) (m j : Nat) (w : World) (hn : n = m) (hk : k = j) (h : Wr G b l w) (hl : l.length ≤ 1000) (hj : j ≤ 64) (hm : m < 2 ^ j) :
    Calls Tryz.prog 116 #[.pointer (some ⟨b, 0, none⟩), .int .u64 n, .int .i64 k] w fun e w' => e = .returned (.tuple #[]) ∧ (Wr G b (l ++ B.ofl m j) w' ∧ Below G w w' ∧ Lib.OthersKept 5 (some b) w w') := by
  subst hn hk; exact wrnum_any G b l m j w h hl hj hm

set_option maxRecDepth 100000 in
set_option maxHeartbeats 1000000 in
theorem wrid_short (G b : Nat) (l : List UInt8) (id : Nat) (rem : Bool) (dlc : Int) (data : ByteArray) (w : World) (h : Wr G b l w) (hl : l.length ≤ 900) (hi : id < 2048) :
    Calls Tryz.prog 115 #[.pointer (some ⟨b, 0, none⟩), .agg (frV id false rem dlc data)] w fun e w' => e = .returned (.tuple #[]) ∧ (Wr G b (l ++ B.ofl id 11) w' ∧ Below G w w' ∧ Lib.OthersKept 5 (some b) w w') := by
  have hlt := h.lt
  have hBb := h.le
  have CN := Lib.hid (wrnum_lit G b l id 11 id 11 (w.alloc (.cells (frV id false rem dlc data) 24)) rfl rfl (h.keep ((Below.refl _ _).alloc (Nat.le_refl _) _)) (by omega) (by omega) hi)
  have hA : Below G w (w.alloc (.cells (frV id false rem dlc data) 24)) := (Below.refl _ _).alloc (by omega) _
  have hK : Lib.OthersKept 5 (some b) w (w.alloc (.cells (frV id false rem dlc data) 24)) := (Lib.OthersKept.refl _ _ _).alloc _
  clear h hl
  go_enter Tryz.func115, Tryz.ntmps115
  go_wp2_with (go_at_call 116; (with_reducible refine CN.out.mono ?_); rintro e w' ⟨rfl, h1, h2, h3⟩)
  refine bodyPost_ret (v := .tuple #[]) (by simp [results, Tryz.results115, go_sem]) rfl ?_
  exact ⟨rfl, h1, hA.trans h2, hK.trans h3⟩

set_option maxRecDepth 100000 in
set_option maxHeartbeats 1000000 in
theorem wrid_long (G b : Nat) (l : List UInt8) (id : Nat) (rem : Bool) (dlc : Int) (data : ByteArray) (w : World) (h : Wr G b l w) (hl : l.length ≤ 900) (hi : id < 536870912) :
    Calls Tryz.prog 115 #[.pointer (some ⟨b, 0, none⟩), .agg (frV id true rem dlc data)] w fun e w' => e = .returned (.tuple #[]) ∧ (Wr G b (l ++ ((B.ofl id 29).take 11 ++ [49, 49] ++ (B.ofl id 29).drop 11)) w' ∧ Below G w w' ∧ Lib.OthersKept 5 (some b) w w') := by
  have hlt := h.lt
  have hBb := h.le
  have C1 := Lib.hid (wrnum_lit G b l ((id : Int) / 262144) 11 (id / 262144) 11 (w.alloc (.cells (frV id true rem dlc data) 24)) (by omega) rfl (h.keep ((Below.refl _ _).alloc (Nat.le_refl _) _)) (by omega) (by omega) (by omega))
  have CW := Lib.hid (fun w1 (h1 : Wr G b (l ++ B.ofl (id / 262144) 11) w1) => writestr_any G b (l ++ B.ofl (id / 262144) 11) ⟨#[49, 49]⟩ w1 h1 (by rw [List.length_append, B.ofl_length]; show l.length + 11 + 2 ≤ _; omega))
  have C2 := Lib.hid (fun w1 (h1 : Wr G b ((l ++ B.ofl (id / 262144) 11) ++ [49, 49]) w1) => wrnum_lit G b ((l ++ B.ofl (id / 262144) 11) ++ [49, 49]) (bits BinOp.and IntKind.u64 (id : Int) 262143) 18 (id % 262144) 18 w1 (by rw [and_low18 _ hi]; omega) rfl h1 (by simp [B.ofl_length]; omega) (by omega) (by omega))
  have hA : Below G w (w.alloc (.cells (frV id true rem dlc data) 24)) := (Below.refl _ _).alloc (by omega) _
  have hK : Lib.OthersKept 5 (some b) w (w.alloc (.cells (frV id true rem dlc data) 24)) := (Lib.OthersKept.refl _ _ _).alloc _
  have hF := Lib.hid (blk_new w (frV id true rem dlc data) 24 w.heap.size rfl)
  clear h hl
  go_enter Tryz.func115, Tryz.ntmps115
  go_wp2_with (first
    | (go_at_call 116; (with_reducible refine C1.out.mono ?_); rintro e w1 ⟨rfl, h1, h2, h3⟩)
    | (go_at_call 33; (with_reducible refine (CW.out _ h1).mono ?_); rintro e w2 ⟨rfl, h4, h5, h6⟩)
    | (go_at_call 116; (with_reducible refine (C2.out _ h4).mono ?_); rintro e w3 ⟨rfl, h7, h8, h9⟩))
  go_end0
  have e1 : B.ofl (id / 262144) 11 = (B.ofl id 29).take 11 := B.ofl_take id 11 18
  have e2 : B.ofl (id % 262144) 18 = (B.ofl id 29).drop 11 := B.ofl_drop id 11 18
  rw [e1, e2] at h7
  exact ⟨rfl, by simpa using h7, ((hA.trans h2).trans h5).trans h8, ((hK.trans h3).trans h6).trans h9⟩

/-- an identifier, of a frame that may be -/
theorem wrid_any (G b : Nat) (l : List UInt8) (id : Nat) (ext rem : Bool) (dlc : Int) (data : ByteArray) (w : World) (h : Wr G b l w) (hl : l.length ≤ 900) (n : Nat) (d : List UInt8) (hi : id < if ext then 536870912 else 2048) :
    Calls Tryz.prog 115 #[.pointer (some ⟨b, 0, none⟩), .agg (frV id ext rem dlc data)] w fun e w' => e = .returned (.tuple #[]) ∧ (Wr G b (l ++ B.idL ⟨id, ext, rem, n, d⟩) w' ∧ Below G w w' ∧ Lib.OthersKept 5 (some b) w w') := by
  cases ext
  · exact wrid_short G b l id rem dlc data w h hl (by simpa using hi)
  · exact wrid_long G b l id rem dlc data w h hl (by simpa using hi)

theorem B.dataL_snoc (d : List UInt8) (c : UInt8) : dataL (d ++ [c]) = dataL d ++ ofl c.toNat 8 := by simp [dataL]

set_option maxRecDepth 100000 in
set_option maxHeartbeats 4000000 in
/-- a head, of a frame that may be -/
theorem wrhead_any (G b : Nat) (id n : Nat) (ext rem : Bool) (data : ByteArray) (w : World) (h : Wr G b [] w) (hf : B.FrR ⟨id, ext, rem, n, data.data.toList⟩) :
    Calls Tryz.prog 102 #[.pointer (some ⟨b, 0, none⟩), .agg (frV id ext rem n data)] w fun e w' => e = .returned (.tuple #[]) ∧ (Wr G b (B.headL ⟨id, ext, rem, n, data.data.toList⟩) w' ∧ Below G w w') := by
  have hBb := h.le
  have hlt := h.lt
  obtain ⟨h8, hd, hid⟩ := hf
  have hd8 : data.size ≤ 8 := by
    rw [← B.size_len]
    split at hd
    · simp only at hd; rw [hd]; simp
    · simp only at hd h8; omega
  obtain ⟨F, hF⟩ : ∃ F : B.Fr, F = ⟨id, ext, rem, n, data.data.toList⟩ := ⟨_, rfl⟩
  have hK := Lib.hid (blk_new w (frV id ext rem n data) 24 w.heap.size rfl)
  have hA : Below G w (w.alloc (.cells (frV id ext rem n data) 24)) := (Below.refl _ _).alloc (by omega) _
  have hW0 := h.keep ((Below.refl _ _).alloc (Nat.le_refl _) (.cells (frV id ext rem n data) 24))
  have C1 := Lib.hid (flag_any G b [] false (w.alloc (.cells (frV id ext rem n data) 24)) hW0 (by simp))
  have C2 := Lib.hid (fun w1 (h1 : Wr G b ([] ++ [B.rb false]) w1) => wrid_any G b ([] ++ [B.rb false]) id ext rem n data w1 h1 (by simp) n data.data.toList hid)
  have hil := B.idL_length ⟨id, ext, rem, n, data.data.toList⟩
  rw [← hF] at C2 hil ⊢
  have hil2 : (B.idL F).length ≤ 31 := by rw [hil]; split <;> omega
  have C3 := Lib.hid (fun w1 (h1 : Wr G b ([] ++ [B.rb false] ++ B.idL F) w1) => flag_any G b ([] ++ [B.rb false] ++ B.idL F) rem w1 h1 (by simp; omega))
  have C4 := Lib.hid (fun w1 (h1 : Wr G b ([] ++ [B.rb false] ++ B.idL F ++ [B.rb rem]) w1) => writestr_any G b ([] ++ [B.rb false] ++ B.idL F ++ [B.rb rem]) ⟨#[48, 48]⟩ w1 h1 (by simp [ByteArray.size]; omega))
  have C5 := Lib.hid (fun w1 (h1 : Wr G b ([] ++ [B.rb false] ++ B.idL F ++ [B.rb rem] ++ [48, 48]) w1) => wrnum_lit G b ([] ++ [B.rb false] ++ B.idL F ++ [B.rb rem] ++ [48, 48]) n 4 n 4 w1 rfl rfl h1 (by simp; omega) (by omega) (by simp only at h8; omega))
  obtain ⟨P, hP⟩ : ∃ P, P = [] ++ [B.rb false] ++ B.idL F ++ [B.rb rem] ++ [48, 48] ++ B.ofl n 4 := ⟨_, rfl⟩
  have hPF : P = B.preL F := by rw [hP, hF]; simp [B.preL, B.rb]
  have hPl : P.length ≤ 40 := by rw [hPF, B.preL_length]; unfold B.base; split <;> omega
  rw [← hP] at C5
  have CL := Lib.hid (fun (l : List UInt8) (c : UInt8) w1 (hl : l.length ≤ 1000) (h1 : Wr G b l w1) => wrnum_lit G b l c.toNat 8 c.toNat 8 w1 rfl rfl h1 hl (by omega) (by have := c.toNat_lt; omega))
  have HH := Lib.hid (show B.headL F = P ++ B.dataL data.data.toList from by rw [hPF, hF]; rfl)
  have hn8 : n ≤ 8 := h8
  clear h hW0 hd hid hP hPF hF hil h8
  go_enter Tryz.func102, Tryz.ntmps102
  go_wp2_with (first
    | (go_at_call 114; (with_reducible refine C1.out.mono ?_); rintro e w1 ⟨rfl, h1, hb, hk⟩; have hW := hA.trans hb; have hB := hK.out.kept hk (by omega) (by decide); clear hb hk; have c0 := hB.cell 0 _ rfl; have c1 := hB.cell 1 _ rfl; have c2 := hB.cell 2 _ rfl; have c3 := hB.cell 3 _ rfl; have c4 := hB.cell 4 _ rfl)
    | (go_at_call 115; (with_reducible refine (C2.out _ h1).mono ?_); rintro e w2 ⟨rfl, h2, hb, hk⟩; replace hW := hW.trans hb; replace hB := hB.kept hk (by omega) (by decide); clear hb hk c0 c1 c2 c3 c4; have c0 := hB.cell 0 _ rfl; have c1 := hB.cell 1 _ rfl; have c2 := hB.cell 2 _ rfl; have c3 := hB.cell 3 _ rfl; have c4 := hB.cell 4 _ rfl)
    | (go_at_call 114; (with_reducible refine (C3.out _ h2).mono ?_); rintro e w3 ⟨rfl, h3, hb, hk⟩; replace hW := hW.trans hb; replace hB := hB.kept hk (by omega) (by decide); clear hb hk c0 c1 c2 c3 c4; have c0 := hB.cell 0 _ rfl; have c1 := hB.cell 1 _ rfl; have c2 := hB.cell 2 _ rfl; have c3 := hB.cell 3 _ rfl; have c4 := hB.cell 4 _ rfl)
    | (go_at_call 33; (with_reducible refine (C4.out _ h3).mono ?_); rintro e w4 ⟨rfl, h4, hb, hk⟩; replace hW := hW.trans hb; replace hB := hB.kept hk (by omega) (by decide); clear hb hk c0 c1 c2 c3 c4; have c0 := hB.cell 0 _ rfl; have c1 := hB.cell 1 _ rfl; have c2 := hB.cell 2 _ rfl; have c3 := hB.cell 3 _ rfl; have c4 := hB.cell 4 _ rfl)
    | (go_at_call 116; (with_reducible refine (C5.out _ h4).mono ?_); rintro e w5 ⟨rfl, h5, hb, hk⟩; replace hW := hW.trans hb; replace hB := hB.kept hk (by omega) (by decide); clear hb hk c0 c1 c2 c3 c4 h1 h2 h3 h4; have c0 := hB.cell 0 _ rfl; have c1 := hB.cell 1 _ rfl; have c2 := hB.cell 2 _ rfl; have c3 := hB.cell 3 _ rfl; have c4 := hB.cell 4 _ rfl))
  go_loopw [26] (fun i wr => ∃ j : Nat, j ≤ data.size ∧ i = .int .i64 j ∧ Wr G b (P ++ B.dataL (data.data.toList.take j)) wr ∧ Below G w wr ∧ Blk wr w.heap.size (frV id ext rem n data) 24) (fun i _ => data.size - (intOf i).toNat)
  case atStart => exact ⟨0, Nat.zero_le _, rfl, by simpa [B.dataL] using h5, hW, hB⟩
  case round =>
    clear h5 hW hB c0 c1 c2 c3 c4
    obtain ⟨j, hj, rfl, h5, hW, hB⟩ := hrel
    by_cases hlt2 : j < data.size
    · have hS := Lib.hid (B.take_snoc data j hlt2)
      have hc8 : data[j].toNat < 256 := UInt8.toNat_lt _
      have hlen : (P ++ B.dataL (data.data.toList.take j)).length ≤ 1000 := by rw [List.length_append, B.dataL_length, List.length_take]; omega
      have CN := Lib.hid (CL.out _ data[j] _ hlen h5)
      have c4 := hB.cell 4 _ rfl
      have HB := Lib.hid hB
      have HW := Lib.hid hW
      clear hlen h5 hB hW
      go_wp2_with (go_at_call 116; (with_reducible refine CN.out.mono ?_); rintro e w5 ⟨rfl, h5, hb, hk⟩)
      go_roundw
      case rel =>
        refine ⟨j + 1, by omega, by go_num, ?_, HW.out.trans hb, HB.out.kept hk (by omega) (by decide)⟩
        rw [hS.out, B.dataL_snoc]
        simpa using h5
      case measure => simp [intOf]; omega
    · have hF := Lib.hid (show data.data.toList.take j = data.data.toList from List.take_of_length_le (by rw [B.size_len]; omega))
      go_wp2
      go_end0
      refine ⟨rfl, ?_, hW⟩
      rw [HH.out, ← hF.out]
      exact h5
end Go.Proofs.YtcaeobkaoebndaaGreat
