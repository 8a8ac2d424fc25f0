/- Own texts joined: Ref4e Writer. -/
import Derived.Test.YtcaeobkaoebndaaGreatJ4
import Derived.Test.YtcaeobkaoebndaaGreatJ2
import Derived.Lib.Builder
import Derived.Lib.AppendStr
import Derived.Lib.UnsafeStr
import Derived.Lib.OthersKept
import Derived.Laws.Externs
/- Ref4e -/
namespace Go.Proofs.YtcaeobkaoebndaaGreat
open Go.RowKit Go.Lib

/-- a row that is as long as a head says is that of a frame that may be -/
theorem B.size_parts {l : List UInt8} (h : B.sizeL l = (l.length, 0)) : 14 ≤ l.length ∧ B.baseL l ≤ l.length ∧ B.num (B.cutL l (B.baseL l - 4) (B.baseL l)) ≤ 8 ∧
    l.length = B.baseL l + 8 * (if B.bitAt l (B.baseL l - 7) = 49 then 0 else B.num (B.cutL l (B.baseL l - 4) (B.baseL l))) := by
  unfold B.sizeL at h
  split at h
  · simp at h
  · split at h
    · simp at h
    · split at h
      · simp at h
      · rename_i h1 h2 h3
        simp only [Prod.mk.injEq, and_true] at h
        exact ⟨by omega, by omega, by omega, h.symm⟩
theorem B.cut_num_lt {l : List UInt8} (hl : l.all B.okc = true) (a b k : Nat) (hb : b ≤ l.length) (hk : b - a = k) : B.num (B.cutL l a b) < 2 ^ k := by
  have ha : (B.cutL l a b).all B.okc = true := by
    unfold B.cutL
    have := B.all_take hl b
    rw [List.all_eq_true] at *; intro x hx; exact this x (List.mem_of_mem_drop hx)
  have := B.num_lt _ ha
  have hlen : (B.cutL l a b).length = k := by unfold B.cutL; rw [List.length_drop, List.length_take]; omega
  rwa [hlen] at this
theorem B.decode_fr {l : List UInt8} (hl : l.all B.okc = true) (h : B.sizeL l = (l.length, 0)) : B.FrR (B.decode l) := by
  obtain ⟨h14, hb, h8, hlen⟩ := B.size_parts h
  have hbo := B.baseL_or l
  have l1 := B.cut_num_lt hl 1 12 11 (by omega) rfl
  have hK : (B.decode l).data.length = (l.length - B.baseL l) / 8 := B.bytesL_length _ _
  refine ⟨h8, ?_, ?_⟩
  · by_cases hr : B.bitAt l (B.baseL l - 7) = 49
    · rw [if_pos hr] at hlen
      have : (B.decode l).remote = true := by show (B.bitAt l (B.baseL l - 7) == 49) = true; rw [hr]; rfl
      rw [if_pos this, ← List.length_eq_zero_iff, hK]; omega
    · rw [if_neg hr] at hlen
      have : ¬ (B.decode l).remote = true := by show ¬ (B.bitAt l (B.baseL l - 7) == 49) = true; simpa using hr
      rw [if_neg this, hK]
      show (l.length - B.baseL l) / 8 = B.num (B.cutL l (B.baseL l - 4) (B.baseL l))
      omega
  · by_cases he : B.bitAt l 13 = 49
    · have hb39 : B.baseL l = 39 := by unfold B.baseL; rw [if_pos he]
      have l3 := B.cut_num_lt hl 14 32 18 (by omega) rfl
      have : (B.decode l).ext = true := by show (B.bitAt l 13 == 49) = true; rw [he]; rfl
      rw [if_pos this]
      show (if B.bitAt l 13 = 49 then B.num (B.cutL l 1 12) * 262144 + B.num (B.cutL l 14 32) else B.num (B.cutL l 1 12)) < 536870912
      rw [if_pos he]; omega
    · have : ¬ (B.decode l).ext = true := by show ¬ (B.bitAt l 13 == 49) = true; simpa using he
      rw [if_neg this]
      show (if B.bitAt l 13 = 49 then B.num (B.cutL l 1 12) * 262144 + B.num (B.cutL l 14 32) else B.num (B.cutL l 1 12)) < 2048
      rw [if_neg he]; omega

end Go.Proofs.YtcaeobkaoebndaaGreat

/- Writer -/
namespace Go.Proofs.YtcaeobkaoebndaaGreat
open Go.RowKit Go.Lib

theorem writer_size : (Tryz.prog.info? 69).map (·.size) = some 2 := by kernel_rfl
theorem writer_lies : liesAt Tryz.prog Tryz.prog.depth 124 (2 / Tryz.prog.cellsOf 124) 0 69 1 = true := by kernel_rfl
theorem writer_cells8 : Tryz.prog.cellsOf 5 = 1 := by kernel_rfl

/-- a writer in block b, that holds the bytes l -/
def Wr (B b : Nat) (l : List UInt8) (w : World) : Prop := Lib.IsBuilder 124 5 B b (Lib.byteCells l) w
theorem Wr.at {B b : Nat} {l : List UInt8} {w : World} (h : Wr B b l w) : ∃ p, Lib.BuilderAt 124 5 B b p (Lib.byteCells l) w := by
  rcases h with h | h
  · exact ⟨_, h⟩
  · exact ⟨_, h⟩
theorem Wr.le {B b : Nat} {l : List UInt8} {w : World} (h : Wr B b l w) : B ≤ b := h.at.elim fun _ h => h.1
theorem Wr.lt {B b : Nat} {l : List UInt8} {w : World} (h : Wr B b l w) : b < w.heap.size := h.at.elim fun _ h => h.lt
theorem bat_keep {T e : TypeId} {B b : Nat} {p : Value} {bs : List Value} {w w' : World} (h : Lib.BuilderAt T e B b p bs w) (k : Below w.heap.size w w') : Lib.BuilderAt T e B b p bs w' := by
  have hlt := h.lt
  obtain ⟨hB, v, hb, hown, hne⟩ := h
  refine ⟨hB, v, by rw [k.block b hlt]; exact hb, ⟨hown.1, ?_⟩, hne⟩
  rcases hown.2 with hn | ⟨g, cap, cur, hv, hbg, hg, r⟩
  · exact .inl hn
  · exact .inr ⟨g, cap, cur, hv, hbg, by rw [k.block g (Array.getElem?_eq_some_iff.1 hg).1]; exact hg, r⟩
theorem Wr.keep {B b : Nat} {l : List UInt8} {w w' : World} (h : Wr B b l w) (k : Below w.heap.size w w') : Wr B b l w' := by
  rcases h with h | h
  · exact .inl (bat_keep h k)
  · exact .inr (bat_keep h k)
theorem wr_new (w : World) : Wr w.heap.size w.heap.size [] (w.alloc (.cells #[.pointer none, .slice none 0 0] 124)) := Lib.fresh_isBuilder _ _ _
theorem kept_below {e : TypeId} {b : Option Nat} {w w' : World} (k : Below w.heap.size w w') : Lib.OthersKept e b w w' := fun i o hi _ _ => by
  rw [k.block i (Array.getElem?_eq_some_iff.1 hi).1]; exact hi

set_option maxRecDepth 100000 in
set_option maxHeartbeats 1000000 in
theorem check_used (b : Nat) (w : World) (h0 : w.cell? ⟨b, 0, none⟩ = some (.pointer (some ⟨b, 0, none⟩))) :
    Calls Tryz.prog 59 #[.pointer (some ⟨b, 0, none⟩)] w fun e w' => e = .returned (.tuple #[]) ∧ w' = w := by
  obtain ⟨j, hj, _⟩ := Option.map_eq_some_iff.1 writer_size
  go_enter Tryz.func59, Tryz.ntmps59
  go_wp2
  rw [Lib.run_neq_ptr_same w _ Tryz.underlying66 hj]
  go_wp2
  go_end0
  exact ⟨rfl, rfl⟩

set_option maxRecDepth 100000 in
set_option maxHeartbeats 1000000 in
theorem check_fresh (b : Nat) (w : World) (h0 : w.cell? ⟨b, 0, none⟩ = some (.pointer none)) (hsh : w.shape? b = some (124, 2)) (hfz : w.frozen? ⟨b, 0, none⟩ = false) :
    Calls Tryz.prog 59 #[.pointer (some ⟨b, 0, none⟩)] w fun e w' => e = .returned (.tuple #[]) ∧ w' = w.setCell ⟨b, 0, none⟩ (.pointer (some ⟨b, 0, none⟩)) := by
  obtain ⟨j, hj, hjs⟩ := Option.map_eq_some_iff.1 writer_size
  go_enter Tryz.func59, Tryz.ntmps59
  go_wp2
  rw [Lib.run_to_unsafe w ⟨b, 0, none⟩ Tryz.underlying66 Tryz.underlying103 hj (by rw [hjs]; decide) hsh (Nat.zero_lt_succ 1)]
  simp only [Result.andThen]
  rw [Oper.upon_value]
  go_wp2
  rw [run_callFunc_extern Tryz.func79 (by kernel_rfl) (by kernel_rfl) (by kernel_rfl) (e := Extern.AbiNoEscape.same) (by kernel_rfl)]
  rw [Lib.run_noEscape]
  simp only [Result.andThen]
  rw [Oper.upon_value]
  go_wp2
  rw [Lib.run_from_unsafe w ⟨b, 0, none⟩ Tryz.underlying103 Tryz.underlying66 hj hsh writer_lies]
  simp only [Result.andThen]
  rw [Oper.upon_value]
  go_wp2
  go_end0
  exact ⟨rfl, rfl⟩

theorem check_any3 (B b : Nat) (bs : List Value) (w : World) (h : Lib.IsBuilder 124 5 B b bs w) :
    Calls Tryz.prog 59 #[.pointer (some ⟨b, 0, none⟩)] w fun e w' => e = .returned (.tuple #[]) ∧ (Lib.BuilderAt 124 5 B b (.pointer (some ⟨b, 0, none⟩)) bs w' ∧ Below B w w' ∧ Lib.OthersKept 5 (some b) w w') := by
  rcases h with h | h
  · refine (check_fresh b w h.cell0 h.shape h.frozen0).mono ?_
    rintro e w' ⟨rfl, rfl⟩
    exact ⟨rfl, h.used _, (Below.refl B w).setCell (p := ⟨b, 0, none⟩) h.1 _, (Lib.OthersKept.refl _ _ _).setCell ⟨b, 0, none⟩ rfl _⟩
  · refine (check_used b w h.cell0).mono ?_
    rintro e w' ⟨rfl, rfl⟩
    exact ⟨rfl, h, Below.refl B _, Lib.OthersKept.refl _ _ _⟩

set_option maxRecDepth 100000 in
set_option maxHeartbeats 2000000 in
/-- WriteString, of a writer -/
theorem writestr_any (B b : Nat) (l : List UInt8) (s : ByteArray) (w : World) (h : Wr B b l w) (hlen : l.length + s.size ≤ 140737488355328) :
    Calls Tryz.prog 33 #[.pointer (some ⟨b, 0, none⟩), .string s] w fun e w' => e = .returned (.tuple #[.int .i64 s.size, .nilIface]) ∧ (Wr B b (l ++ s.data.toList) w' ∧ Below B w w' ∧ Lib.OthersKept 5 (some b) w w') := by
  obtain ⟨i0, hi, hz0, hz1, hz2⟩ := info_parts Tryz.infoU8
  have hBw : B ≤ w.heap.size := Nat.le_of_lt (Nat.lt_of_le_of_lt h.le h.lt)
  have HC := Lib.hid (check_any3 B b (Lib.byteCells l) w h)
  clear h
  go_enter Tryz.func33, Tryz.ntmps33
  go_wp2_with (go_at_call 59; (with_reducible refine HC.out.mono ?_))
  rintro e w1 ⟨rfl, h1, hb1, hk1⟩
  obtain ⟨hB, v, hbk, hown, hne⟩ := h1
  have c0 : w1.cell? ⟨b, 0, none⟩ = some (.pointer (some ⟨b, 0, none⟩)) := by rw [Lib.cell_of_heap hbk]; rfl
  have c1 : w1.cell? ⟨b, 1, none⟩ = some v := by rw [Lib.cell_of_heap hbk]; rfl
  go_wp2_with (at_builtin; refine Lib.wpList_append_own_string _ rfl _ _ 67 9 rfl B 5 i0 Tryz.underlying67 Tryz.underlying9 hi hz0 hz1 hz2 _ _ _ rfl hown s rfl ?c3 ?c4 ?c5 ?_)
  case c3 => rw [Lib.byteCells_length]; unfold maxLen; omega
  case c4 => rw [Lib.byteCells_length]; omega
  case c5 => have := hb1.size; omega
  intro v' w2 hown' hgrow _
  have hlt : b < w1.heap.size := by
    rcases Nat.lt_or_ge b w1.heap.size with h' | h'
    · exact h'
    · simp [Array.getElem?_eq_none h'] at hbk
  have hb2 : w2.heap[b]? = some (.cells #[.pointer (some ⟨b, 0, none⟩), v] 124 (0, 0)) := by
    rw [hgrow.block b hlt (fun e => hne e.symm)]
    exact hbk
  have d0 : w2.cell? ⟨b, 0, none⟩ = some (.pointer (some ⟨b, 0, none⟩)) := by rw [Lib.cell_of_heap hb2]; rfl
  have d1 : w2.cell? ⟨b, 1, none⟩ = some v := by rw [Lib.cell_of_heap hb2]; rfl
  have f1 : w2.frozen? ⟨b, 1, none⟩ = false := Lib.frozen_of_heap hb2 1
  obtain ⟨ao, n', cap, rfl⟩ : ∃ ao n' cap, v' = .slice ao n' cap := by
    rcases hown'.2 with ⟨hv, _⟩ | ⟨g, cap, cur, hv, _⟩
    · exact ⟨_, _, _, hv⟩
    · exact ⟨_, _, _, hv⟩
  have HO := Lib.hid hown
  have HO' := Lib.hid hown'
  have HG := Lib.hid hgrow
  clear hown hown' hgrow
  go_wp2
  go_ret2
  refine ⟨rfl, .inr ?_, ?_, (hk1.grown HG.out (Lib.ownsRowF_kind (World.ownsRowF_of HO.out))).setCell ⟨b, 1, none⟩ rfl _⟩
  · rw [Lib.byteCells_append, ← Lib.strCells_eq]
    exact Lib.BuilderAt.put hB hb2 (bs' := Lib.byteCells l ++ Lib.strCells s) (by simpa [Lib.strCells_length] using HO'.out) (by decide)
  · exact (hb1.grown HG.out (by have := hb1.size; omega) (fun k hk => (HO.out.lt k hk).1)).setCell (p := ⟨b, 1, none⟩) hB _

set_option maxRecDepth 100000 in
set_option maxHeartbeats 2000000 in
/-- String, of a writer that holds something -/
theorem wrstring_any (B b : Nat) (l : List UInt8) (w : World) (h : Wr B b l w) (h0 : l ≠ []) :
    Calls Tryz.prog 35 #[.pointer (some ⟨b, 0, none⟩)] w fun e w' => e = .returned (.string ⟨l.toArray⟩) ∧ Below B w w' := by
  obtain ⟨p, hB, v, hbk, hown, hne⟩ := h.at
  clear h
  have hl0 : l.length ≠ 0 := by simpa using h0
  rw [Lib.byteCells_length] at hown
  obtain ⟨g, cap, cur, rfl, hbg, hg, hnc, hcm, hcs, htake⟩ : ∃ g cap cur, v = .slice (some ⟨g, 0, none⟩) l.length cap ∧ B ≤ g ∧ w.heap[g]? = some (.cells cur 5 (0, 0)) ∧ l.length ≤ cap ∧ cap ≤ maxLen ∧ cur.size = cap * 1 ∧ cur.toList.take (l.length * 1) = Lib.byteCells l := by
    rcases hown.2 with ⟨_, hz⟩ | ⟨g, cap, cur, hv, r⟩
    · exact absurd hz hl0
    · exact ⟨g, cap, cur, hv, r⟩
  have c1 : w.drew.cell? ⟨b, 1, none⟩ = some (.slice (some ⟨g, 0, none⟩) l.length cap) := by
    have : w.drew.heap[b]? = some (.cells #[p, .slice (some ⟨g, 0, none⟩) l.length cap] 124 (0, 0)) := hbk
    rw [Lib.cell_of_heap this]; rfl
  have hSD : (Builtin.unsafeSliceData_ #[67] 90 #[.slice (some ⟨g, 0, none⟩) l.length cap]).run Tryz.prog w.drew = .ok (.pointer (some ⟨g, 0, none⟩)) w.drew :=
    Lib.run_unsafeSliceData_row _ _ _ _ _ _ (by omega)
  have hUS : (Builtin.unsafeString_ #[90, 3] 9 #[.pointer (some ⟨g, 0, none⟩), .int .i64 l.length]).run Tryz.prog w.drew = .ok (.string ⟨l.toArray⟩) (w.drew.freeze ⟨g, 0, none⟩ l.length) := by
    refine Lib.run_unsafeString_row w.drew 90 3 9 5 Tryz.underlying90 writer_cells8 g cur.size (by have hg' : w.drew.heap[g]? = some (.cells cur 5 (0, 0)) := hg; simp [World.shape?, hg']) l h0 (by omega) (by unfold maxLen at hcm; omega) ?_
    intro j x hx
    have := hown.cells (g := g) rfl j (.int .u8 x.toNat) (by simp [Lib.byteCells, hx])
    exact this
  go_enter Tryz.func35, Tryz.ntmps35
  go_wp2
  go_region
  all_goals (go_wp2; go_ret; exact ⟨rfl, Lib.below_freeze (Below.drew (Below.refl B w)) (p := ⟨g, 0, none⟩) hbg _⟩)
end Go.Proofs.YtcaeobkaoebndaaGreat
