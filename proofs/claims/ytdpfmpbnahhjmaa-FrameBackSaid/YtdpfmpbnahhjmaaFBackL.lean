/- Layer 4's law FrameBack, of whatever frame, row behind, and bit. -/
import Derived.Test.YtdpfmpbnahhjmaaFBack
namespace Go.Proofs.Ytdpfmpbnahhjmaa
open Go.RowKit Go.Lib

theorem bits_right4 {f : B.Fr} (h : B.FrR f) : B.right ⟨(B.bitsL f).toArray⟩ = true := by
  have hl := B.bits_length h
  refine right_of_all (by rw [size_of]; omega) ?_
  rw [list_of]
  unfold B.bitsL
  rw [List.all_append, (B.stf_all (B.sumL_all (B.headL_all f)))]
  rfl
theorem B.bits_cut {f : Fr} : (bitsL f).take ((bitsL f).length - 9) ++ [48] ++ (bitsL f).drop ((bitsL f).length - 8) = (stf (sumL (headL f))).2 ++ [49, 48, 49, 49, 49, 49, 49, 49, 49, 49] := by
  unfold bitsL
  generalize (stf (sumL (headL f))).2 = a
  have e1 : (a ++ List.replicate 10 (49 : UInt8)).length = a.length + 10 := by simp
  rw [e1, show a.length + 10 - 9 = a.length + 1 from by omega, show a.length + 10 - 8 = a.length + 2 from by omega, List.take_length_add_append, List.drop_length_add_append]
  simp [List.replicate]
theorem B.parse_u {f : Fr} (h : FrR f) (r : List UInt8) : parseL (bitsL f ++ r) = (f, (bitsL f).length, 0) := by
  have := parse_bits h 49 r
  have e : bitsL f ++ r = (stf (sumL (headL f))).2 ++ ([49, 49, 49, 49, 49, 49, 49, 49, 49, 49] ++ r) := by
    unfold bitsL; rw [List.append_assoc]; rfl
  rw [e, this]
  unfold bitsL; rw [List.length_append, List.length_replicate]
theorem B.parse_t {f : Fr} (h : FrR f) (r : List UInt8) : parseL ((bitsL f).take ((bitsL f).length - 9) ++ [48] ++ (bitsL f).drop ((bitsL f).length - 8) ++ r) = (f, (bitsL f).length, 0) := by
  have := parse_bits h 48 r
  rw [bits_cut, List.append_assoc, this]
  unfold bitsL; rw [List.length_append, List.length_replicate]

theorem framebackLaw (id : Nat) (ext rem : Bool) (dlc : Int) (data behind : ByteArray) (came : Bool) (w : World) :
    Calls Try.prog 5 #[.agg (frV id ext rem dlc data), .string behind, .bool came] w fun e w' => e = .returned (.bool true) ∧ Below w.heap.size w w' := by
  obtain ⟨t, ht, hc⟩ := cut_at data 12
  obtain ⟨bh, hbz, hbh⟩ := cut_at behind 100
  have CFew := Lib.hid (fun w => few_any id ext rem dlc data t w hc)
  cases hI : B.frI id ext rem dlc t.size
  · exact fback_false id ext rem dlc data t behind bh came w hbh CFew (Lib.hid alive4_any) (Lib.hid fun w => bits4_no id ext rem dlc t w hI) (Lib.hid fun w => by have := right4_any id ext rem dlc t w; rwa [hI] at this)
  · obtain ⟨n, rfl, hf⟩ := frI_back hI
    obtain ⟨F, hF⟩ : ∃ F : B.Fr, F = ⟨id, ext, rem, n, t.data.toList⟩ := ⟨_, rfl⟩
    have hfF : B.FrR F := by rw [hF]; exact hf
    have hl := B.bits_length hfF
    have hur := bits_right4 hfF
    obtain ⟨u, hu⟩ : ∃ u : ByteArray, u = ⟨(B.bitsL F).toArray⟩ := ⟨_, rfl⟩
    have hul : u.data.toList = B.bitsL F := by rw [hu, list_of]
    have hus : u.size = (B.bitsL F).length := by rw [hu, size_of]
    rw [← hu] at hur
    have CBt : Hid (∀ w, Calls Try.prog 11 #[.agg (frV id ext rem n t)] w fun e w' => e = .returned (.tuple #[.string u, .int .i64 0]) ∧ Below w.heap.size w w') := Lib.hid (fun w => by rw [hu, hF]; exact bits4_yes id n ext rem t w hf)
    obtain ⟨hd, hhd⟩ : ∃ u : ByteArray, u = ⟨(B.headL F).toArray⟩ := ⟨_, rfl⟩
    have hdl : hd.data.toList = B.headL F := by rw [hhd, list_of]
    have hds : hd.size = (B.headL F).length := by rw [hhd, size_of]
    have hdr : B.right hd = true := by rw [hhd]; exact head_right hfF
    have hsz : B.sizeL hd.data.toList = (hd.size, 0) := by
      have := B.head_size hfF []
      rw [List.append_nil] at this
      rw [hdl, this, hds]
    have hdec : B.decode hd.data.toList = F := by rw [hdl]; exact B.decode_head hfF
    have hfA : frA F = frV id ext rem n t := by rw [hF]; show frV id ext rem n ⟨t.data.toList.toArray⟩ = _; rw [of_list]
    have CHd : Hid (∀ w, Calls Try.prog 10 #[.agg (frV id ext rem n t)] w fun e w' => e = .returned (.tuple #[.string hd, .int .i64 0]) ∧ Below w.heap.size w w') := Lib.hid (fun w => by rw [hhd, hF]; exact head4_yes id n ext rem t w hf)
    have CRd : Hid (∀ w, Calls Try.prog 18 #[.string hd] w fun x w' => x = .returned (.tuple #[.agg (frV id ext rem n t), .int .i64 0]) ∧ Below w.heap.size w w') := Lib.hid (fun w => by
      have := read4_yes hd w hdr hsz (by rw [hdec]; unfold B.headB; rw [← hhd]; simp)
      rw [hdec] at this
      rw [← hfA]; exact this)
    have CSz : Hid (∀ w, Calls Try.prog 17 #[.string hd] w fun x w' => x = .returned (.tuple #[.int .i64 hd.size, .int .i64 0]) ∧ Below w.heap.size w w') := Lib.hid (fun w => by
      have := size4_any hd w hdr
      rw [hsz] at this; exact this)
    have hbhm : bh.size ≤ maxLen := by unfold maxLen; omega
    obtain ⟨T, hT⟩ : ∃ T : ByteArray, u.extract 0 (u.size - 9) ++ ⟨#[48]⟩ ++ u.extract (u.size - 8) u.size = T := ⟨_, rfl⟩
    have hTl : T.data.toList = (B.bitsL F).take ((B.bitsL F).length - 9) ++ [48] ++ (B.bitsL F).drop ((B.bitsL F).length - 8) := by
      rw [← hT, B.cat_list, B.cat_list, Lib.extract_data, Lib.extract_data, hul, hus, List.drop_zero, Nat.sub_zero, List.take_of_length_le (l := List.drop _ _) (by rw [List.length_drop]; omega)]
    have hTz : T.size ≤ 160 := by
      rw [← B.size_len, hTl, List.length_append, List.length_append, List.length_take, List.length_drop]; simp; omega
    have hTr : B.right T = true := right_of_all (by omega) (by
      rw [hTl]
      have ha := B.right_all hur
      rw [hul] at ha
      rw [List.all_append, List.all_append, B.all_take ha]
      have : ((B.bitsL F).drop ((B.bitsL F).length - 8)).all B.okc = true := by
        rw [List.all_eq_true] at *; intro x hx; exact ha x (List.mem_of_mem_drop hx)
      rw [this]; rfl)
    have HP : ∀ (x b2 : ByteArray), B.right x = true → B.right b2 = true → x.size ≤ 160 → b2.size ≤ 100 → B.parseL (x.data.toList ++ b2.data.toList) = (F, (B.bitsL F).length, 0) →
        ∀ w, Calls Try.prog 19 #[.string (x ++ b2)] w fun y w' => y = .returned (.tuple #[.agg (frV id ext rem n t), .int .i64 u.size, .int .i64 0]) ∧ Below w.heap.size w w' := by
      intro x b2 hx hb hxz hbz2 hp w
      have := parse4_any (x ++ b2) w (right_cat hx hb (by omega))
      rw [B.cat_list, hp] at this
      simp only [hfA] at this
      rw [hus]; exact this
    have HU := fun b2 hb hz => HP u b2 hur hb (by omega) hz (by rw [hul]; exact B.parse_u hfF _)
    have HT := fun b2 hb hz => HP T b2 hTr hb hTz hz (by rw [hTl]; exact B.parse_t hfF _)
    have h0r : B.right ⟨#[]⟩ = true := by decide
    have h0z : (⟨#[]⟩ : ByteArray).size ≤ 100 := by decide
    cases hbr : B.right bh
    · have CRr : Hid (∀ w, Calls Try.prog 20 #[.string bh] w fun e w' => e = .returned (.bool false) ∧ w = w') := Lib.hid fun w => by have := refright_any bh w hbhm; rwa [hbr] at this
      cases came
      · exact fback_ff id n ext rem data t u hd behind bh w hbh CFew (Lib.hid alive4_any) CBt (by omega) (by omega) hbz CRr (Lib.hid (HU _ h0r h0z)) CHd CRd CSz
      · exact fback_tf id n ext rem data t u hd behind bh T hT hTz w hbh CFew (Lib.hid alive4_any) CBt (by omega) (by omega) hbz CRr (Lib.hid (HT _ h0r h0z)) CHd CRd CSz
    · have CRr : Hid (∀ w, Calls Try.prog 20 #[.string bh] w fun e w' => e = .returned (.bool true) ∧ w = w') := Lib.hid fun w => by have := refright_any bh w hbhm; rwa [hbr] at this
      cases came
      · exact fback_ft id n ext rem data t u hd behind bh w hbh CFew (Lib.hid alive4_any) CBt (by omega) (by omega) hbz CRr (Lib.hid (HU _ hbr hbz)) CHd CRd CSz
      · exact fback_tt id n ext rem data t u hd behind bh T hT hTz w hbh CFew (Lib.hid alive4_any) CBt (by omega) (by omega) hbz CRr (Lib.hid (HT _ hbr hbz)) CHd CRd CSz
end Go.Proofs.Ytdpfmpbnahhjmaa
