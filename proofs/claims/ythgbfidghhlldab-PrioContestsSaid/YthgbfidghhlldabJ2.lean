/- Own texts joined: PrioA RefCrc. -/
import Derived.Test.YthgbfidghhlldabJ1
import Derived.Test.YthgbfidghhlldabUtil
import Derived.Test.YthgbfidghhlldabPlain
/- PrioA -/
namespace Go.Proofs.Ythgbfidghhlldab
open Go.RowKit Go.Lib

/-- a frame, as it comes -/
structure FX where
  id : Nat
  ext : Bool
  rem : Bool
  dlc : Int
  data : ByteArray
abbrev FX.v (f : FX) : Array Value := frV f.id f.ext f.rem f.dlc f.data
def FX.may (f : FX) : Bool := B.frI f.id f.ext f.rem f.dlc f.data.size
/-- a row of frames lies from cell o of block g on -/
def RowF (w : World) (g o : Nat) (fs : List FX) : Prop := ∀ (i : Nat) (h : i < fs.length),
  w.cell? ⟨g, o + i * 5, none⟩ = some (.int .u32 fs[i].id) ∧ w.cell? ⟨g, o + i * 5 + 1, none⟩ = some (.bool fs[i].ext) ∧ w.cell? ⟨g, o + i * 5 + 2, none⟩ = some (.bool fs[i].rem) ∧ w.cell? ⟨g, o + i * 5 + 3, none⟩ = some (.int .i64 fs[i].dlc) ∧ w.cell? ⟨g, o + i * 5 + 4, none⟩ = some (.string fs[i].data)
theorem RowF.below {w w' : World} {g o B0 : Nat} {fs : List FX} (h : RowF w g o fs) (hb : Below B0 w w') (hg : g < B0) : RowF w' g o fs := fun i hi => by
  obtain ⟨h0, h1, h2, h3, h4⟩ := h i hi
  refine ⟨?_, ?_, ?_, ?_, ?_⟩
  · rw [hb.cell (p := ⟨g, o + i * 5, none⟩) hg]; exact h0
  · rw [hb.cell (p := ⟨g, o + i * 5 + 1, none⟩) hg]; exact h1
  · rw [hb.cell (p := ⟨g, o + i * 5 + 2, none⟩) hg]; exact h2
  · rw [hb.cell (p := ⟨g, o + i * 5 + 3, none⟩) hg]; exact h3
  · rw [hb.cell (p := ⟨g, o + i * 5 + 4, none⟩) hg]; exact h4

set_option maxRecDepth 100000 in
set_option maxHeartbeats 4000000 in
theorem refwell_any (g o cap : Nat) (fs : List FX) (w : World) (hn : fs.length ≤ 1000000) (hc : RowF w g o fs) (hg : g < w.heap.size) :
    Calls Try.prog 13 #[.slice (some ⟨g, o, none⟩) fs.length cap] w fun e w' => e = .returned (.bool (fs.all FX.may)) ∧ Below w.heap.size w w' := by
  go_enter Try.func13, Try.ntmps13
  go_wp2
  go_loopw [7] (fun i wr => ∃ k : Nat, k ≤ fs.length ∧ i = .int .i64 k ∧ Hid ((fs.take k).all FX.may = true) ∧ Below w.heap.size w wr) (fun i _ => fs.length - (intOf i).toNat)
  case atStart => exact ⟨0, Nat.zero_le _, rfl, Lib.hid rfl, Below.refl _ _⟩
  case round =>
    obtain ⟨k, hk, rfl, HA, hW⟩ := hrel
    by_cases hlt : k < fs.length
    · obtain ⟨c0, c1, c2, c3, c4⟩ := hc.below hW hg k hlt
      have hS : fs.take (k + 1) = fs.take k ++ [fs[k]] := by simp
      obtain ⟨f, hf⟩ : ∃ f, f = fs[k] := ⟨_, rfl⟩
      rw [← hf] at c0 c1 c2 c3 c4 hS
      have CR := Lib.hid (fun w => refright4_any f.id f.ext f.rem f.dlc f.data w)
      have hz := hW.size
      cases hm : B.frI f.id f.ext f.rem f.dlc f.data.size
      · have HB := Lib.hid (show fs.all FX.may = false by
          rw [List.all_eq_false]
          exact ⟨fs[k], List.getElem_mem hlt, by rw [← hf]; simp [FX.may, hm]⟩)
        rw [hm] at CR
        clear hS hf
        go_wp2_with (go_at_call 6; (with_reducible refine (CR.out _).mono ?_); rintro e w' ⟨rfl, rfl⟩)
        go_ret
        exact ⟨ret_bool HB.out.symm, (hW.alloc hz _).alloc (by simp; omega) _⟩
      · have HN := Lib.hid (show (fs.take (k + 1)).all FX.may = true by
          rw [hS, List.all_append, HA.out]; simp [FX.may, hm])
        rw [hm] at CR
        clear hS hf
        go_wp2_with (go_at_call 6; (with_reducible refine (CR.out _).mono ?_); rintro e w' ⟨rfl, rfl⟩)
        go_roundw
        case rel => exact ⟨k + 1, hlt, by go_num, HN, (hW.alloc hz _).alloc (by simp; omega) _⟩
        case measure => simp [intOf]; omega
    · have HB := Lib.hid (show fs.all FX.may = true by rw [← List.take_of_length_le (i := k) (l := fs) (by omega)]; exact HA.out)
      go_wp2
      go_ret
      exact ⟨ret_bool HB.out.symm, hW⟩
end Go.Proofs.Ythgbfidghhlldab

/- RefCrc -/
namespace Go.Proofs.Ythgbfidghhlldab
open Go.RowKit Go.Lib

theorem Try.info5b : (Try.prog.info? 5).map (fun i => (i.zero, i.size, i.bytes)) = some (some (.int .u8 0), 1, 1) := by kernel_rfl
theorem refof_p : ∃ p : ByteArray, Hid (∀ w, Calls Try.prog 29 #[.int .u64 50585, .int .i64 16] w fun e w' => e = .returned (.string p) ∧ w = w') ∧ p.size = 16 ∧ (∀ k (h : k < p.size), ((p[k].toNat : Int) - 48) = ((B.divisor k).toNat : Int)) ∧ (∀ k (h : k < p.size), 48 ≤ p[k].toNat ∧ p[k].toNat ≤ 49) :=
  ⟨B.ofn 50585 16, Lib.hid fun w => refof_any 50585 16 w (by omega) (by omega), B.ofn_size _ _, B.divisor_at, B.divisor_byte⟩
theorem val_u32 {a b : Int} (h : a = b) : Value.int .u32 a = .int .u32 b := by rw [h]
end Go.Proofs.Ythgbfidghhlldab
