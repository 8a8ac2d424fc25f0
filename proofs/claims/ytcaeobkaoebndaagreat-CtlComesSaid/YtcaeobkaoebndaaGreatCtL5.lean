/- Layer 7: a row of two frames. -/
import Derived.Test.YtcaeobkaoebndaaGreatCtL4
namespace Go.Proofs.YtcaeobkaoebndaaGreat
open Go.RowKit Go.Lib
def fr2 (x y : FX) : Array Value := #[.int .u32 (x.id : Nat), .bool x.ext, .bool x.rem, .int .i64 x.dlc, .string x.data, .int .u32 (y.id : Nat), .bool y.ext, .bool y.rem, .int .i64 y.dlc, .string y.data]
noncomputable def bsF (xs : Array (Nat × Value)) : Sem Value := Instr.buildSlice 36 2 xs
theorem bs_fr (xs : Array (Nat × Value)) : Instr.buildSlice 36 2 xs = bsF xs := rfl
theorem bsF_at (x y : FX) (w : World) : (bsF #[(0, .agg (frA x)), (1, .agg (frA y))]).run Tryz.prog w = .ok (.slice (some ⟨w.heap.size, 0, none⟩) 2 2) (w.alloc (.cells (fr2 x y) 24)) := by
  unfold bsF Instr.buildSlice
  simp [go_sem, frA, fr2, Instr.fill]
theorem ldp_fr2 (x y : FX) (k : Nat) (hk : k < 2) (E : Result Value) (w : World) : ldPart 5 (k * 5) (some (fr2 x y)) E w = .ok (.agg (frA (if k = 0 then x else y))) w := by
  have : k = 0 ∨ k = 1 := by omega
  rcases this with rfl | rfl
  · show (if 0 * 5 + 5 ≤ (fr2 x y).size then Result.ok (Value.agg (((fr2 x y).toList.drop (0 * 5)).take 5).toArray) w else E) = _
    rw [if_pos (by show 0 * 5 + 5 ≤ 10; decide)]; rfl
  · show (if 1 * 5 + 5 ≤ (fr2 x y).size then Result.ok (Value.agg (((fr2 x y).toList.drop (1 * 5)).take 5).toArray) w else E) = _
    rw [if_pos (by show 1 * 5 + 5 ≤ 10; decide)]; rfl
def cmC (F : B.Fr) (i : Nat) : B.Cs := B.comeC B.cn0 false false false B.noFr F i
theorem cm_sample (F : B.Fr) (hf : B.FrR F) (i : Nat) (hi : i < (B.stfF F).length + 10) :
    (cmC F i).sample ((akA F)[i]'(by rw [akA_size]; exact hi)) = (cmC F (i + 1), if i = (B.stfF F).length + 8 then ⟨2, F, 0⟩ else B.ev0) := by
  have hl := B.stfF_length hf
  by_cases h0 : i = 0
  · subst h0
    rw [if_neg (by omega)]
    have e : (akA F)[0]'(by rw [akA_size]; exact hi) = 48 := by rw [akA_at, B.ackL_at (by omega), B.stfF_zero F (by omega)]
    rw [e]
    exact B.come_first hf
  · exact B.come_next hf (by omega) hi
theorem cm_drive (F : B.Fr) (hf : B.FrR F) (i : Nat) (hi : i < (B.stfF F).length + 10) : (cmC F i).drive.toNat = if i = (B.stfF F).length + 1 then 48 else 49 := by
  unfold cmC
  rw [B.come_drive hf hi]
  split <;> rfl
theorem cm_okc (F : B.Fr) (i : Nat) (hi : i < (B.stfF F).length + 10) : B.okc ((akA F)[i]'(by rw [akA_size]; exact hi)) = true := ackL_okc F i (by rw [B.ackL_length]; exact hi)
theorem cm_right (F : B.Fr) (hf : B.FrR F) : ∀ i, i ≤ (B.stfF F).length + 10 → B.RightM (cmC F i) := by
  intro i
  induction i with
  | zero => intro _; exact rdy_right
  | succ i ih =>
    intro hi
    have := (B.sample_right (ih (by omega)) (cm_okc F i (by omega))).1
    rwa [cm_sample F hf i (by omega)] at this
theorem cm_end (F : B.Fr) (hf : B.FrR F) : B.runC (cmC F ((B.stfF F).length + 10)) [49, 49, 49] = B.rdy := by
  unfold cmC
  rw [B.comeC_end hf]
  exact B.gap3 _ _ _ _
end Go.Proofs.YtcaeobkaoebndaaGreat
