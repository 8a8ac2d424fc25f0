/- Own texts joined: CtL2 CtL3 RefTurn. -/
import Derived.Test.YtcaeobkaoebndaaGreatCtL1
import Derived.Test.YtcaeobkaoebndaaGreatJ12
import Derived.Test.YtcaeobkaoebndaaGreatJ10
import Derived.Test.YtcaeobkaoebndaaGreatRows
import Derived.WalkKit
import Derived.WalkSpells
import Derived.WalkLawsBesides
import Derived.Deep.QuietTactic
import Derived.BigQuiet
import Derived.WalkSmall
import Derived.Deep.AppendLies
import Derived.Test.YtcaeobkaoebndaaGreatJ1
import Derived.Test.YtcaeobkaoebndaaGreatPlain
/- CtL2 -/
namespace Go.Proofs.YtcaeobkaoebndaaGreat
open Go.RowKit Go.Lib
attribute [local go_sem ↓] ld_ct st_ct ld_ev st_ev ld_ma st_ma bd_ma
attribute [local go_sem] ldCt_at stCt_at ldEv_at stEv_at ldMa_at stMa_at bdMa_at ldp_ct ldp_ma ldp_ev ldp_mev stp_ct stp_ma stp_ev stp_mev stp_mm zero_ct zero_ev zero_ma ev_err ev_sent
attribute [local go_sem] rowAt_drew rowAt_drewN rowAt_new rowAt_past rowAt_setRow rowAt_setRow_other rowAt_setCell_other rowAt_setCell_map cell_setRow free_setRow cell_setRow_other free_setRow_other setRow_alloc_at setRow_alloc_past
attribute [local go_sem] ctA_0 ctA_1 ctA_2 ctA_3 ctA_4 ctA_5 ctA_6 ctA_7 ctA_8 ctA_9 ctA_10 ctA_11 ctA_12 ctA_13 ctA_14 ctA_15 ctA_16 ctA_17 ctA_18 ctA_19 ctA_20 ctA_21 ctA_22 evA_0 evA_1 evA_2 evA_3 evA_4 evA_5 evA_6 mA_0 mA_1 mA_2 mA_3 mA_4 mA_5 mA_6 mA_7 mA_8 mA_9 mA_10 mA_11 mA_12 mA_13 mA_14 mA_15 mA_16 mA_17 mA_18 mA_19 mA_20 mA_21 mA_22 mA_23 mA_24 mA_25 mA_26 mA_27 mA_28 mA_29
attribute [local go_sem] ctA_set0 ctA_set0_0 ctA_set1_0 ctA_suc0 ctA_set1 ctA_set0_1 ctA_set1_1 ctA_suc1 ctA_set2 ctA_set3 ctA_set0_3 ctA_set1_3 ctA_suc3 ctA_set4 ctA_set0_4 ctA_set1_4 ctA_suc4 ctA_set5 ctA_set0_5 ctA_set1_5 ctA_suc5 ctA_set6 ctA_set7 ctA_set8 ctA_set9 ctA_set0_9 ctA_set1_9 ctA_suc9 ctA_set10 ctA_set11 ctA_set12 ctA_set0_12 ctA_set1_12 ctA_suc12 ctA_set13 ctA_set14 ctA_set15 ctA_set16 ctA_set0_16 ctA_set1_16 ctA_suc16 ctA_set17 ctA_set0_17 ctA_set1_17 ctA_suc17 ctA_set18 ctA_set0_18 ctA_set1_18 ctA_suc18 ctA_set19 ctA_set20 ctA_set21 ctA_set0_21 ctA_set1_21 ctA_suc21 ctA_set22 mA_set0 mA_set0_0 mA_set1_0 mA_suc0 mA_set1 mA_set0_1 mA_set1_1 mA_suc1 mA_set2 mA_set3 mA_set0_3 mA_set1_3 mA_suc3 mA_set4 mA_set0_4 mA_set1_4 mA_suc4 mA_set5 mA_set0_5 mA_set1_5 mA_set1000000000_5 mA_suc5 mA_set6 mA_set7 mA_set8 mA_set9 mA_set0_9 mA_set1_9 mA_suc9 mA_set10 mA_set11 mA_set12 mA_set0_12 mA_set1_12 mA_suc12 mA_set13 mA_set14 mA_set15 mA_set16 mA_set0_16 mA_set1_16 mA_suc16 mA_set17 mA_set0_17 mA_set1_17 mA_set48_17 mA_suc17 mA_set18 mA_set0_18 mA_set1_18 mA_suc18 mA_set19 mA_set20 mA_set21 mA_set0_21 mA_set1_21 mA_suc21 mA_set22 evA_set0 evA_set0_0 evA_set1_0 evA_set2_0 evA_set3_0 evA_set4_0 evA_suc0 evA_set1 evA_set0_1 evA_set1_1 evA_suc1 evA_set2 evA_set3 evA_set4 evA_set0_4 evA_set1_4 evA_suc4 evA_set5 evA_set6 evA_set0_6 evA_set1_6 evA_set14_6 evA_suc6 mA_set23 mA_set0_23 mA_set1_23 mA_set2_23 mA_set3_23 mA_set4_23 mA_suc23 mA_set24 mA_set0_24 mA_set1_24 mA_suc24 mA_set25 mA_set26 mA_set27 mA_set0_27 mA_set1_27 mA_suc27 mA_set28 mA_set29 mA_set0_29 mA_set1_29 mA_suc29

/-- a frame's cells -/
def frA (f : FX) : Array Value := #[.int .u32 (f.id : Nat), .bool f.ext, .bool f.rem, .int .i64 f.dlc, .string f.data]
def FXo (f : B.Fr) : FX := ⟨f.id, f.ext, f.remote, (f.dlc : Nat), strB f.data⟩
theorem frA_size (f : FX) : (frA f).size = 5 := rfl
theorem frA_one (f : FX) : (frA f).toList.all (·.oneCell') = true := rfl
theorem frA_0 (f : FX) : (frA f)[0]? = some (.int .u32 (f.id : Nat)) := rfl
theorem frA_1 (f : FX) : (frA f)[1]? = some (.bool f.ext) := rfl
theorem frA_2 (f : FX) : (frA f)[2]? = some (.bool f.rem) := rfl
theorem frA_3 (f : FX) : (frA f)[3]? = some (.int .i64 f.dlc) := rfl
theorem frA_4 (f : FX) : (frA f)[4]? = some (.string f.data) := rfl
theorem frA_set4 (f : FX) (x : ByteArray) : (frA f).setIfInBounds 4 (.string x) = frA { f with data := x } := rfl
theorem frA_o (f : B.Fr) : frA (FXo f) = frC5 f := rfl
theorem FXo_inj {f g : B.Fr} : FXo f = FXo g ↔ f = g := by
  constructor
  · intro h
    cases f; cases g
    unfold FXo at h
    simp only [FX.mk.injEq, Int.natCast_inj] at h
    obtain ⟨rfl, rfl, rfl, rfl, h5⟩ := h
    have := congrArg (fun s => s.data.toList) h5
    simp only at this
    rw [this]
  · intro h; rw [h]
noncomputable def ldFr (a : Addr) : Sem Value := loadVar 24 a
noncomputable def stFr (a : Addr) (v : Value) : Sem Unit := storeVar 24 a v
theorem ld_fr (a : Addr) : loadVar 24 a = ldFr a := rfl
theorem st_fr (a : Addr) (v : Value) : storeVar 24 a v = stFr a v := rfl
theorem in_fr : (Tryz.prog.info? 24).map (·.size) = some 5 := by kernel_rfl
noncomputable def ldFr0 (a : Addr) (w : World) : Result Value := (ldFr a).run Tryz.prog w
noncomputable def stFr0 (a : Addr) (v : Value) (w : World) : Result Unit := (stFr a v).run Tryz.prog w
theorem ldFr_at (g o : Nat) (w : World) : (ldFr ⟨g, o, none⟩).run Tryz.prog w = ldPart 5 o (rowAt w g) (ldFr0 ⟨g, o, none⟩ w) w := by
  unfold ldPart
  split
  · rename_i cs h
    split
    · rename_i hn
      exact run_loadVar_part w g o 5 _ cs _ h Tryz.underlying24 rfl in_fr hn
    · rfl
  · rfl
theorem stFr_at (g o : Nat) (xs : Array Value) (w : World) : (stFr ⟨g, o, none⟩ (.agg xs)).run Tryz.prog w = stPart 5 o (rowAt w g) xs (stFr0 ⟨g, o, none⟩ (.agg xs) w) g w := by
  unfold stPart
  split
  · rename_i old h
    split
    · rename_i hn
      exact run_storeVar_part w g o 5 _ old xs h hn.1 hn.2.1 hn.2.2 in_fr
    · rfl
  · rfl
theorem ldp_fr (f : FX) (E : Result Value) (w : World) : ldPart 5 0 (some (frA f)) E w = .ok (.agg (frA f)) w := by
  show (if 0 + 5 ≤ (frA f).size then Result.ok (Value.agg (((frA f).toList.drop 0).take 5).toArray) w else E) = _
  rw [if_pos (by show 0 + 5 ≤ 5; decide)]; rfl
theorem ldp_ctf (c : B.Cs) (E : Result Value) (w : World) : ldPart 5 9 (some (ctA c)) E w = .ok (.agg (frA (FXo c.fr))) w := by
  show (if 9 + 5 ≤ (ctA c).size then Result.ok (Value.agg (((ctA c).toList.drop 9).take 5).toArray) w else E) = _
  rw [if_pos (by show 9 + 5 ≤ 23; decide)]; rfl
theorem ldp_evf (v : B.Ev) (E : Result Value) (w : World) : ldPart 5 1 (some (evA v)) E w = .ok (.agg (frA (FXo v.fr))) w := by
  show (if 1 + 5 ≤ (evA v).size then Result.ok (Value.agg (((evA v).toList.drop 1).take 5).toArray) w else E) = _
  rw [if_pos (by show 1 + 5 ≤ 7; decide)]; rfl
theorem stp_fr (f h : FX) (E : Result Unit) (g : Nat) (w : World) : stPart 5 0 (some (frA h)) (frA f) E g w = .ok () (w.setRow g (frA f)) := by
  show (if 0 + 5 ≤ (frA h).size ∧ (frA f).size = 5 ∧ (frA f).toList.all (·.oneCell') = true then Result.ok () (w.setRow g (putL (frA h) 0 (frA f).toList)) else E) = _
  rw [if_pos ⟨by show 0 + 5 ≤ 5; decide, rfl, frA_one f⟩]; rfl
theorem zero_fr : (#[.int .u32 0, .bool false, .bool false, .int .i64 0, .string ⟨#[]⟩] : Array Value) = frA ⟨0, false, false, 0, ⟨#[]⟩⟩ := rfl
theorem neq_fr (x y : FX) (w : World) : (binOp .neq 24 (.agg (frA x)) (.agg (frA y))).run Tryz.prog w = .ok (.bool (!(decide (x = y)))) w := run_neq_fr x y w
set_option maxRecDepth 100000 in
theorem eql_fr (x y : FX) (w : World) : (binOp .eql 24 (.agg (frA x)) (.agg (frA y))).run Tryz.prog w = .ok (.bool (decide (x = y))) w := by
  have h1 := neq_fr x y w
  rw [run_neq_struct] at h1
  rw [run_eql_struct]
  cases h : (Op.equalIn 10000 24 (.agg (frA x)) (.agg (frA y))).run Tryz.prog w with
  | ok b w' =>
    rw [h] at h1
    simp only [Result.andThen_ok, Result.ok.injEq, Value.bool.injEq] at h1 ⊢
    exact ⟨by have := h1.1; cases b <;> simp_all, h1.2⟩
  | halt e w' => rw [h] at h1; cases h1
attribute [local go_sem ↓] ld_fr st_fr
attribute [local go_sem] ldFr_at stFr_at ldp_fr ldp_ctf ldp_evf stp_fr zero_fr frA_0 frA_1 frA_2 frA_3 frA_4 frA_set4 neq_fr eql_fr

theorem res_fr1 {fn : Func} {p : Tmp} (h : fn.results = #[.cell p 24]) (tmps : Array Value) (w : World) (g : Nat) (f : FX) (hp : tmps.getD p undef = .pointer (some ⟨g, 0, none⟩)) (hr : rowAt w g = some (frA f)) :
    (results fn tmps).run Tryz.prog w = .ok (.agg (frA f)) w := by
  have hp' : tmps[p]?.getD undef = .pointer (some ⟨g, 0, none⟩) := by simpa using hp
  have hl : (loadVar 24 ⟨g, 0, none⟩).run Tryz.prog w = .ok (.agg (frA f)) w := by
    have := ldFr_at g 0 w
    rw [hr, ldp_fr] at this; exact this
  simp [results, h, hp', asAddr, hl]
set_option maxRecDepth 100000 in
theorem few7 (f : FX) (w : World) : Calls Tryz.prog 8 #[.agg (frA f)] w fun e w' => e = .returned (.agg (frA f.cut)) ∧ Below w.heap.size w w' := by
  by_cases h : 12 < f.data.size
  · have e : f.cut = { f with data := f.data.extract 0 12 } := rfl
    rw [e]
    clear e
    go_enter Tryz.func8, Tryz.ntmps8
    go_wp2
    refine bodyPost_ret (res_fr1 Tryz.results8 _ _ (w.heap.size + 1) _ rfl (by simp [go_sem] <;> rfl)) rfl ⟨rfl, ?_⟩
    (repeat (first | (with_reducible assumption) | (with_reducible exact Below.refl _ _) | (with_reducible refine Below.drew ?_) | ((with_reducible refine Below.setCell ?_ ?_ _); rotate_left; (focus (first | omega | (simp; done) | (simp; omega)))) | ((with_reducible refine below_row ?_ ?_ _); rotate_left; (focus (first | omega | (simp; done) | (simp; omega)))) | ((with_reducible refine Below.alloc ?_ ?_ _); rotate_left; (focus (first | omega | (simp; done) | (simp; omega))))))
  · have e : f.cut = f := by
      unfold FX.cut
      have : f.data.extract 0 12 = f.data := by
        apply ByteArray.ext
        rw [ByteArray.data_extract]
        exact Array.extract_eq_self_of_le (by have : f.data.data.size = f.data.size := rfl; omega)
      rw [this]
    rw [e]
    clear e
    go_enter Tryz.func8, Tryz.ntmps8
    go_wp2
    refine bodyPost_ret (res_fr1 Tryz.results8 _ _ (w.heap.size + 1) _ rfl (by simp [go_sem] <;> rfl)) rfl ⟨rfl, ?_⟩
    (repeat (first | (with_reducible assumption) | (with_reducible exact Below.refl _ _) | (with_reducible refine Below.drew ?_) | ((with_reducible refine Below.setCell ?_ ?_ _); rotate_left; (focus (first | omega | (simp; done) | (simp; omega)))) | ((with_reducible refine below_row ?_ ?_ _); rotate_left; (focus (first | omega | (simp; done) | (simp; omega)))) | ((with_reducible refine Below.alloc ?_ ?_ _); rotate_left; (focus (first | omega | (simp; done) | (simp; omega))))))

/-- a controller that joined -/
def _root_.Go.Proofs.YtcaeobkaoebndaaGreat.B.rdy : B.Cs := B.bareC B.cn0 1 0 false false false B.noFr
theorem run_rdy : B.runC B.cs0 ((⟨#[49, 49, 49, 49, 49, 49, 49, 49, 49, 49, 49]⟩ : ByteArray).data.toList) = B.rdy := rfl
theorem feed_rdy (w : World) : Calls Tryz.prog 15 #[.agg (ctA B.cs0), .string ⟨#[49, 49, 49, 49, 49, 49, 49, 49, 49, 49, 49]⟩] w fun e w' => e = .returned (.tuple #[.agg (ctA B.rdy), .bool true]) ∧ Below w.heap.size w w' := by
  have := feed_any B.cs0 ⟨#[49, 49, 49, 49, 49, 49, 49, 49, 49, 49, 49]⟩ w B.cs0_right (by decide) (by decide)
  rwa [run_rdy] at this
theorem rdy_right : B.RightM B.rdy := by
  have := B.runC_right B.cs0_right ((⟨#[49, 49, 49, 49, 49, 49, 49, 49, 49, 49, 49]⟩ : ByteArray).data.toList) (by decide)
  rwa [run_rdy] at this
set_option maxRecDepth 100000 in
theorem ready_any (w : World) : Calls Tryz.prog 11 #[] w fun e w' => e = .returned (.tuple #[.agg (ctA B.rdy), .bool true]) ∧ Below w.heap.size w w' := by
  have CN := Lib.hid (fun w => ctlnew_any w)
  have CF := Lib.hid (fun w => feed_rdy w)
  go_enter Tryz.func11, Tryz.ntmps11
  go_wp2_with (first
    | (go_at_call 20; (with_reducible refine (CN.out _).mono ?_); rintro e w1 ⟨rfl, hbw1⟩; have hR1 := (rowAt_below hbw1 w.heap.size (by first | omega | (simp; done) | (simp; omega))).trans (by simp [go_sem] : _ = some (ctA B.cs0)); have hB1 := ((Below.refl w.heap.size w).alloc (Nat.le_refl _) (.cells (ctA B.cs0) 33)).trans (hbw1.mono (by first | omega | (simp; done) | (simp; omega))); have hl1 := rowAt_lt hR1)
    | (go_at_call 15; (with_reducible refine (CF.out _).mono ?_); rintro e w2 ⟨rfl, hbw2⟩; have hR2 := (rowAt_below hbw2 w.heap.size hl1).trans hR1; have hB2 := hB1.trans (hbw2.mono hB1.size)))
  refine bodyPost_ret (res_ct_t Tryz.results11 _ _ w.heap.size B.rdy rfl (by simp [go_sem, hR2])) rfl ⟨rfl, ?_⟩
  (repeat (first | (with_reducible assumption) | (with_reducible exact Below.refl _ _) | (with_reducible refine Below.drew ?_) | ((with_reducible refine Below.setCell ?_ ?_ _); rotate_left; (focus (first | omega | (simp; done) | (simp; omega)))) | ((with_reducible refine below_row ?_ ?_ _); rotate_left; (focus (first | omega | (simp; done) | (simp; omega)))) | ((with_reducible refine Below.alloc ?_ ?_ _); rotate_left; (focus (first | omega | (simp; done) | (simp; omega))))))
set_option maxRecDepth 100000 in
theorem alive7 (w : World) : Calls Tryz.prog 10 #[] w fun e w' => e = .returned (.bool true) ∧ Below w.heap.size w w' := by
  have CN := Lib.hid (fun w => ctlnew_any w)
  have CF := Lib.hid (fun w => feed_rdy w)
  have CR := Lib.hid (fun w => ctright_any B.rdy w rdy_right)
  have hst : B.rdy.state = 1 := rfl
  go_enter Tryz.func10, Tryz.ntmps10
  go_wp2_with (first
    | (go_at_call 20; (with_reducible refine (CN.out _).mono ?_); rintro e w1 ⟨rfl, hbw1⟩)
    | (go_at_call 15; (with_reducible refine (CF.out _).mono ?_); rintro e w2 ⟨rfl, hbw2⟩; have hB2 := hbw1.trans (hbw2.mono hbw1.size); have hz2 := hB2.size)
    | (go_at_call 21; (with_reducible refine (CR.out _).mono ?_); rintro e w3 ⟨rfl, hbw3⟩; have hB3 := (hB2.alloc hz2 (.cells (ctA B.rdy) 33)).trans (hbw3.mono (by first | omega | (simp; done) | (simp; omega)))))
  go_ret
  exact ⟨rfl, by (repeat (first | (with_reducible assumption) | (with_reducible exact Below.refl _ _) | (with_reducible refine Below.drew ?_) | ((with_reducible refine Below.setCell ?_ ?_ _); rotate_left; (focus (first | omega | (simp; done) | (simp; omega)))) | ((with_reducible refine below_row ?_ ?_ _); rotate_left; (focus (first | omega | (simp; done) | (simp; omega)))) | ((with_reducible refine Below.alloc ?_ ?_ _); rotate_left; (focus (first | omega | (simp; done) | (simp; omega))))))⟩
end Go.Proofs.YtcaeobkaoebndaaGreat

/- CtL3 -/
namespace Go.Proofs.YtcaeobkaoebndaaGreat
open Go.RowKit Go.Lib
theorem FX.of_may {f : FX} (h : f.may = true) : ∃ F : B.Fr, B.FrR F ∧ f = FXo F := by
  obtain ⟨h1, h2⟩ := FX.may_fr h
  refine ⟨f.fr, h1, ?_⟩
  obtain ⟨id, ext, rem, dlc, data⟩ := f
  unfold FXo
  congr 1
theorem refr7 (f : FX) (w : World) : Calls Tryz.prog 9 #[.agg (frA f)] w fun e w' => e = .returned (.bool f.may) ∧ Below w.heap.size w w' :=
  (refright4_any f.id f.ext f.rem f.dlc f.data w).mono fun _ _ ⟨he, hw⟩ => ⟨he, hw ▸ (Below.refl _ _).alloc (Nat.le_refl _) _⟩
theorem refr7_yes {F : B.Fr} (hf : B.FrR F) (w : World) : Calls Tryz.prog 9 #[.agg (frA (FXo F))] w fun e w' => e = .returned (.bool true) ∧ Below w.heap.size w w' := by
  have hmay : (FXo F).may = true := frI_yes7 hf
  have := refr7 (FXo F) w
  rwa [hmay] at this
theorem refr7_no {f : FX} (hf : f.may = false) (w : World) : Calls Tryz.prog 9 #[.agg (frA f)] w fun e w' => e = .returned (.bool false) ∧ Below w.heap.size w w' := by
  have := refr7 f w
  rwa [hf] at this
theorem submit_no7 (c : B.Cs) {f : FX} (h : B.RightM c) (hf : f.may = false) (w : World) : Calls Tryz.prog 16 #[.agg (ctA c), .agg (frA f)] w fun e w' => e = .returned (.tuple #[.agg (ctA B.cs0), .int .i64 1]) ∧ Below w.heap.size w w' :=
  submit_arg c f.id f.ext f.rem f.dlc f.data w h hf
theorem Kept.mk0 {w W : World} (h : Below w.heap.size w W) : Kept w [] W := ⟨fun _ hp => absurd hp (by simp), h⟩
theorem Kept.one {w W : World} {a : Nat × Array Value} {L : List (Nat × Array Value)} (h : Kept w (a :: L) W) : Kept w [a] W :=
  ⟨fun p hp => h.1 p (by simp only [List.mem_cons, List.not_mem_nil, or_false] at hp ⊢; exact .inl hp), h.2⟩
theorem Kept.two {w W : World} {a b : Nat × Array Value} {L : List (Nat × Array Value)} (h : Kept w (a :: b :: L) W) : Kept w [a, b] W :=
  ⟨fun p hp => h.1 p (by simp only [List.mem_cons, List.not_mem_nil, or_false] at hp ⊢; rcases hp with e | e; exact .inl e; exact .inr (.inl e)), h.2⟩
end Go.Proofs.YtcaeobkaoebndaaGreat

/- RefTurn -/
namespace Go.Proofs.YtcaeobkaoebndaaGreat
open Go.RowKit Go.Lib

set_option maxHeartbeats 1000000 in
theorem refturn_any (s : ByteArray) (k : Nat) (w : World) (hk : k < s.size) (hs : s.size ≤ 4000) (hr : B.right s = true) :
    Calls Tryz.prog 19 #[.string s, .int .i64 k] w fun e w' => e = .returned (.string (B.turnB s k)) ∧ Below w.heap.size w w' := by
  have hb := B.right_bound hr k hk
  by_cases h48 : s[k].toNat = 48
  · have hh := Lib.hid (B.turnB_eq hk 49 (by rw [UInt8.toNat_inj.1 (show s[k].toNat = (48 : UInt8).toNat from h48)]; rfl))
    have he : ((s[k].toNat : Int) == 48) = true := by simp; omega
    clear h48 hb
    go_enter Tryz.func19, Tryz.ntmps19
    go_wp2_with fail
    go_quiet (fail)
    rename_i nq
    go_wp2
    go_ret
    exact ⟨ret_str1 hh.out, below_drewN (Below.refl _ _) nq⟩
  · have hh := Lib.hid (B.turnB_eq hk 48 (by rw [UInt8.toNat_inj.1 (show s[k].toNat = (49 : UInt8).toNat from by show s[k].toNat = 49; omega)]; rfl))
    have he : ((s[k].toNat : Int) == 48) = false := by simp; omega
    clear h48 hb
    go_enter Tryz.func19, Tryz.ntmps19
    go_wp2_with fail
    go_quiet (fail)
    rename_i nq
    go_wp2
    go_ret
    exact ⟨ret_str1 hh.out, below_drewN (Below.refl _ _) nq⟩
end Go.Proofs.YtcaeobkaoebndaaGreat
