/- The laws' few (layer 5). -/
import Derived.Test.YthgbfidghhlldabPrioG
import Derived.Test.YthgbfidghhlldabJ3
import Derived.Deep.RegionHeld3
import Derived.Deep.DrawnRows
import Derived.BigRegion
import Derived.Deep.CutRange
namespace Go.Proofs.Ythgbfidghhlldab
open Go.RowKit Go.Lib
attribute [local go_sem ↓] Go.wp_at_zero Go.wp_at_succ

theorem Try.infoFr : (Try.prog.info? 25).map (fun i => (i.zero, i.size, i.bytes)) = some (some (.agg (frV 0 false false 0 ⟨#[]⟩)), 5, 32) := by kernel_rfl
/-- a frame whose data is cut to its first twelve bytes -/
def FX.cut (f : FX) : FX := ⟨f.id, f.ext, f.rem, f.dlc, f.data.extract 0 12⟩
theorem bytes_all (d : ByteArray) (n : Nat) (h : d.size ≤ n) : d.extract 0 n = d := by
  apply ByteArray.ext
  apply Array.toList_inj.1
  rw [Lib.extract_data, List.drop_zero, Nat.sub_zero]
  exact List.take_of_length_le (by rw [B.size_len]; exact h)
/-- a row whose first k frames are cut -/
def cutsF (gs : List FX) (k : Nat) : List FX := (gs.take k).map FX.cut ++ gs.drop k
theorem cutsF_length (gs : List FX) (k : Nat) : (cutsF gs k).length = gs.length := by unfold cutsF; simp; omega
theorem cutsF_get (gs : List FX) (k : Nat) (h : k < gs.length) : (cutsF gs k)[k]'(by rw [cutsF_length]; exact h) = gs[k] := by
  unfold cutsF
  have hl : ((gs.take k).map FX.cut).length = k := by simp; omega
  rw [List.getElem_append_right (by omega), List.getElem_drop]
  congr 1
  omega
theorem cutsF_next (gs : List FX) (k : Nat) (h : k < gs.length) : (cutsF gs k).set k gs[k].cut = cutsF gs (k + 1) := by
  unfold cutsF
  have hl : ((gs.take k).map FX.cut).length = k := by rw [List.length_map, List.length_take]; omega
  rw [List.set_append_right _ _ (by omega), hl, Nat.sub_self, List.drop_eq_getElem_cons h, List.set_cons_zero, List.take_succ_eq_append_getElem h, List.map_append, List.append_assoc]
  rfl
theorem cutsF_all (gs : List FX) (k : Nat) (h : gs.length ≤ k) : cutsF gs k = gs.map FX.cut := by unfold cutsF; rw [List.take_of_length_le h, List.drop_of_length_le h, List.append_nil]
set_option maxRecDepth 100000 in
set_option maxHeartbeats 4000000 in
theorem few5_any (g o cap : Nat) (fs gs : List FX) (m : Nat) (w : World) (hcap : fs.length ≤ cap) (hm : (10 ≤ fs.length ∧ m = 10) ∨ (fs.length < 10 ∧ m = fs.length)) (hgs : gs = fs.take m) (hc : RowF w g o gs) (hg : g < w.heap.size) :
    Calls Try.prog 4 #[.slice (some ⟨g, o, none⟩) fs.length cap] w fun e w' => ∃ g1 cap1, e = .returned (.slice (some ⟨g1, 0, none⟩) m cap1) ∧ w'.ownsRow w.heap.size 25 5 (.slice (some ⟨g1, 0, none⟩) m cap1) m (cellsF (gs.map FX.cut)) ∧ Below w.heap.size w w' := by
  obtain ⟨i0, hi, hz0, hz1, hz2⟩ := info_parts Try.infoFr
  have hlen : gs.length = m := by rw [hgs, List.length_take]; omega
  have hl := World.ownsRow_lit (base := w.heap.size) (e := 25) (size := 5) w #[] 0 (by simp) (by simp) (by simp)
  have hm10 : m ≤ 10 := by omega
  have hmf : (m : Int) ≤ cap := by omega
  have hm0 : (0 : Int) ≤ m := by omega
  have HC := Lib.hid hc.cells
  have HL := Lib.hid hlen
  have hcl : (cellsF gs).length = m * 5 := by rw [cellsF_length, hlen]
  clear hgs
  go_enter Try.func4, Try.ntmps4
  go_upto_region 1 with fail
  go_cut [0] from 5 to 11 (fun v wc => wc.ownsRow w.heap.size 25 5 v m (cellsF gs) ∧ (∃ g1 cap1, v = .slice (some ⟨g1, 0, none⟩) m cap1) ∧ Below w.heap.size w wc)
  case first =>
    rcases hm with ⟨hm1, rfl⟩ | ⟨hm1, rfl⟩
    · by_cases h11 : (10 : Int) < fs.length
      · go_wp2_with (at_builtin; refine wpList_append_own _ rfl (.tmp 5) (.tmp 10) 22 rfl w.heap.size 25 i0 (.agg (frV 0 false false 0 ⟨#[]⟩)) 5 32 Try.underlying22 hi hz0 hz1 hz2 rfl (by decide) _ _ _ rfl hl ⟨g, o, none⟩ _ _ (cellsF gs) rfl ?c1 ?c2 ?c3 ?c4 ?c5 ?c6 ?_)
        case c2 => intro j u hu; have := HC.out j u hu; rwa [addr_add] at this
        case c3 => exact cellsF_oneCell gs
        case c4 => first | decide | (unfold maxLen; omega)
        intro v1 w1 hown hgr hne
        have hbl : Below w.heap.size w w1 := append_below (Nat.le_refl _) hgr (fun k hk => by cases hk; exact Nat.le_refl _)
        have hform : ∃ g1 cap1, v1 = .slice (some ⟨g1, 0, none⟩) 10 cap1 := by
          rcases hown.2 with ⟨h, _⟩ | ⟨g1, cap1, _, hv, _⟩
          · exact absurd h hne
          · exact ⟨g1, cap1, hv⟩
        clear hgr hne
        go_wp2
        go_meet
        case rel => exact ⟨hown, hform, hbl⟩
      · have h12 : fs.length = 10 := by omega
        rw [h12]
        rw [h12] at hcap
        clear h11
        go_wp2_with (at_builtin; refine wpList_append_own _ rfl (.tmp 5) (.tmp 10) 22 rfl w.heap.size 25 i0 (.agg (frV 0 false false 0 ⟨#[]⟩)) 5 32 Try.underlying22 hi hz0 hz1 hz2 rfl (by decide) _ _ _ rfl hl ⟨g, o, none⟩ _ _ (cellsF gs) rfl ?d1 ?d2 ?d3 ?d4 ?d5 ?d6 ?_)
        case d2 => intro j u hu; have := HC.out j u hu; rwa [addr_add] at this
        case d3 => exact cellsF_oneCell gs
        case d4 => first | decide | (unfold maxLen; omega)
        intro v1 w1 hown hgr hne
        have hbl : Below w.heap.size w w1 := append_below (Nat.le_refl _) hgr (fun k hk => by cases hk; exact Nat.le_refl _)
        have hform : ∃ g1 cap1, v1 = .slice (some ⟨g1, 0, none⟩) 10 cap1 := by
          rcases hown.2 with ⟨h, _⟩ | ⟨g1, cap1, _, hv, _⟩
          · exact absurd h hne
          · exact ⟨g1, cap1, hv⟩
        clear hgr hne
        go_wp2
        go_meet
        case rel => exact ⟨hown, hform, hbl⟩
    · have h13 : ¬ (10 : Int) < fs.length := by omega
      go_wp2_with (at_builtin; refine wpList_append_own _ rfl (.tmp 5) (.tmp 10) 22 rfl w.heap.size 25 i0 (.agg (frV 0 false false 0 ⟨#[]⟩)) 5 32 Try.underlying22 hi hz0 hz1 hz2 rfl (by decide) _ _ _ rfl hl ⟨g, o, none⟩ _ _ (cellsF gs) rfl ?e1 ?e2 ?e3 ?e4 ?e5 ?e6 ?_)
      case e2 => intro j u hu; have := HC.out j u hu; rwa [addr_add] at this
      case e3 => exact cellsF_oneCell gs
      case e4 => first | decide | (unfold maxLen; omega)
      case e5 => omega
      intro v1 w1 hown hgr hne
      have hbl : Below w.heap.size w w1 := append_below (Nat.le_refl _) hgr (fun k hk => by cases hk; exact Nat.le_refl _)
      have hform : ∃ g1 cap1, v1 = .slice (some ⟨g1, 0, none⟩) fs.length cap1 := by
        rcases hown.2 with ⟨h, _⟩ | ⟨g1, cap1, _, hv, _⟩
        · exact absurd h hne
        · exact ⟨g1, cap1, hv⟩
      clear hgr hne
      go_wp2
      go_meet
      case rel => exact ⟨hown, hform, hbl⟩
  case rest =>
    obtain ⟨hown, ⟨g1, cap1, rfl⟩, hB⟩ := hcut
    have hown0 : wc.ownsRow w.heap.size 25 5 (.slice (some ⟨g1, 0, none⟩) m cap1) m (cellsF (cutsF gs 0)) := hown
    clear hl hown hc hg hm hcl HC hcap hmf
    go_wp2
    go_loopw [14] (fun i wr => ∃ k : Nat, k ≤ m ∧ i = .int .i64 k ∧ wr.ownsRow w.heap.size 25 5 (.slice (some ⟨g1, 0, none⟩) m cap1) m (cellsF (cutsF gs k)) ∧ Below w.heap.size w wr) (fun i _ => m - (intOf i).toNat)
    case atStart => exact ⟨0, Nat.zero_le _, rfl, hown0, hB⟩
    case round =>
      clear hown0 hB
      obtain ⟨k, hk, rfl, hown, hW⟩ := hrel
      by_cases hlt : k < m
      · have hkg : k < gs.length := by rw [HL.out]; exact hlt
        have hkl : k < (cutsF gs k).length := by rw [cutsF_length]; exact hkg
        obtain ⟨c0, c1, c2, c3, c4⟩ := own_row hown k hkl
        simp only [Nat.zero_add] at c0 c1 c2 c3 c4
        have f4 := hown.frozenAt (k * 5 + 4)
        rw [cutsF_get gs k hkg] at c0 c1 c2 c3 c4
        have hset := cellsF_set (cutsF gs k) k hkl (gs[k].data.extract 0 12)
        rw [cutsF_get gs k hkg] at hset
        have hnx := cutsF_next gs k hkg
        have HN := Lib.hid (hset.trans (congrArg cellsF hnx))
        have hgb := (hown.lt g1 rfl)
        obtain ⟨x, hx⟩ : ∃ x, x = gs[k] := ⟨_, rfl⟩
        rw [← hx] at c0 c1 c2 c3 c4 HN
        clear hx hset hnx
        have hS := (hown.stored (k * 5 + 4) (.string (x.data.extract 0 12))).1
        rw [HN.out] at hS
        have HS := Lib.hid hS
        have hWS : Below w.heap.size w (wr.setCell ⟨g1, k * 5 + 4, none⟩ (.string (x.data.extract 0 12))) := hW.setCell hgb.1 _
        have HW := Lib.hid hWS
        clear hS hWS HN
        by_cases h12 : 12 < x.data.size
        · have h12' : (12 : Int) < x.data.size := by omega
          go_wp2
          go_roundw
          case rel => exact ⟨k + 1, hlt, by go_num, HS.out.alloc _, HW.out.alloc HW.out.size _⟩
          case measure => simp [intOf]; omega
        · have h12' : ¬ (12 : Int) < x.data.size := by omega
          have hex : x.data.extract 0 12 = x.data := bytes_all x.data 12 (by omega)
          rw [hex] at HS HW
          clear hex
          go_wp2
          go_roundw
          case rel => exact ⟨k + 1, hlt, by go_num, HS.out.alloc _, HW.out.alloc HW.out.size _⟩
          case measure => simp [intOf]; omega
      · have hkm : k = m := by omega
        rw [hkm, cutsF_all gs m (by rw [HL.out]; omega)] at hown
        go_wp2
        go_ret
        exact ⟨g1, cap1, rfl, hown, hW⟩

set_option maxRecDepth 100000 in
set_option maxHeartbeats 4000000 in
theorem few5_nil (w : World) :
    Calls Try.prog 4 #[.slice none 0 0] w fun e w' => ∃ g1 cap1, e = .returned (.slice (some ⟨g1, 0, none⟩) 0 cap1) ∧ w'.ownsRow w.heap.size 25 5 (.slice (some ⟨g1, 0, none⟩) 0 cap1) 0 (cellsF []) ∧ Below w.heap.size w w' := by
  obtain ⟨i0, hi, hz0, hz1, hz2⟩ := info_parts Try.infoFr
  have hl := World.ownsRow_lit (base := w.heap.size) (e := 25) (size := 5) w #[] 0 (by simp) (by simp) (by simp)
  go_enter Try.func4, Try.ntmps4
  go_wp2_with (at_builtin; refine wpList_append_fits_any _ rfl (.tmp 5) (.tmp 10) 22 rfl w.heap.size 25 i0 5 Try.underlying22 hi hz1 w.heap.size 0 0 [] rfl hl none 0 0 [] rfl rfl (fun _ => ⟨rfl, rfl⟩) (fun _ h => by cases h) (by simp) (by simp) ?_)
  intro w1 hown hgr
  have hB : Below w.heap.size w w1 := append_below (Nat.le_refl _) hgr (fun k hk => by cases hk; exact Nat.le_refl _)
  clear hgr hl
  go_wp2
  go_loopw [14] (fun i wr => i = .int .i64 0 ∧ wr.ownsRow w.heap.size 25 5 (.slice (some ⟨w.heap.size, 0, none⟩) 0 0) 0 [] ∧ Below w.heap.size w wr) (fun i _ => 0)
  case atStart => exact ⟨rfl, hown, hB⟩
  case round =>
    obtain ⟨rfl, hown, hW⟩ := hrel
    go_wp2
    go_ret
    exact ⟨w.heap.size, 0, rfl, hown, hW⟩

set_option maxRecDepth 100000 in
set_option maxHeartbeats 4000000 in
theorem few5_zero (ad : Addr) (cap : Nat) (w : World) :
    Calls Try.prog 4 #[.slice (some ad) 0 cap] w fun e w' => ∃ g1 cap1, e = .returned (.slice (some ⟨g1, 0, none⟩) 0 cap1) ∧ w'.ownsRow w.heap.size 25 5 (.slice (some ⟨g1, 0, none⟩) 0 cap1) 0 (cellsF []) ∧ Below w.heap.size w w' := by
  obtain ⟨i0, hi, hz0, hz1, hz2⟩ := info_parts Try.infoFr
  have hl := World.ownsRow_lit (base := w.heap.size) (e := 25) (size := 5) w #[] 0 (by simp) (by simp) (by simp)
  go_enter Try.func4, Try.ntmps4
  go_wp2_with (at_builtin; refine wpList_append_fits_any _ rfl (.tmp 5) (.tmp 10) 22 rfl w.heap.size 25 i0 5 Try.underlying22 hi hz1 w.heap.size 0 0 [] rfl hl _ 0 cap [] rfl rfl (fun h => by cases h) (fun _ _ j u h => by simp at h) (by simp) (by simp) ?_)
  intro w1 hown hgr
  have hB : Below w.heap.size w w1 := append_below (Nat.le_refl _) hgr (fun k hk => by cases hk; exact Nat.le_refl _)
  clear hgr hl
  go_wp2
  go_loopw [14] (fun i wr => i = .int .i64 0 ∧ wr.ownsRow w.heap.size 25 5 (.slice (some ⟨w.heap.size, 0, none⟩) 0 0) 0 [] ∧ Below w.heap.size w wr) (fun i _ => 0)
  case atStart => exact ⟨rfl, hown, hB⟩
  case round =>
    obtain ⟨rfl, hown, hW⟩ := hrel
    go_wp2
    go_ret
    exact ⟨w.heap.size, 0, rfl, hown, hW⟩

/-- a row of frames that came in, of which the first ten count -/
def InF (w : World) (A : Option Addr) (n cap : Nat) (gs : List FX) : Prop :=
  n ≤ cap ∧ ((n = 0 ∧ gs = [] ∧ (A = none → cap = 0)) ∨ (0 < n ∧ ∃ (g o : Nat) (fs : List FX), A = some ⟨g, o, none⟩ ∧ fs.length = n ∧ gs = fs.take 10 ∧ RowF w g o gs ∧ g < w.heap.size))
theorem few_all {A : Option Addr} {n cap : Nat} {gs : List FX} {w : World} (h : InF w A n cap gs) :
    Calls Try.prog 4 #[.slice A n cap] w fun e w' => ∃ g1 cap1, e = .returned (.slice (some ⟨g1, 0, none⟩) (gs.map FX.cut).length cap1) ∧ w'.ownsRow w.heap.size 25 5 (.slice (some ⟨g1, 0, none⟩) (gs.map FX.cut).length cap1) (gs.map FX.cut).length (cellsF (gs.map FX.cut)) ∧ Below w.heap.size w w' := by
  obtain ⟨hnc, ⟨rfl, rfl, hA⟩ | ⟨h0, g, o, fs, rfl, rfl, rfl, hr, hg⟩⟩ := h
  · cases A with
    | none => rw [hA rfl]; exact few5_nil w
    | some ad => exact few5_zero ad cap w
  · by_cases h10 : 10 ≤ fs.length
    · have hlen : ((fs.take 10).map FX.cut).length = 10 := by rw [List.length_map, List.length_take]; omega
      rw [hlen]
      exact few5_any g o cap fs (fs.take 10) 10 w hnc (by omega) rfl hr hg
    · have ht : fs.take 10 = fs := List.take_of_length_le (by omega)
      rw [ht] at hr ⊢
      rw [List.length_map]
      exact few5_any g o cap fs fs fs.length w hnc (by omega) (by rw [List.take_length]) hr hg
theorem InF.short {w : World} {A : Option Addr} {n cap : Nat} {gs : List FX} (h : InF w A n cap gs) : gs.length ≤ 10 := by
  obtain ⟨_, ⟨_, rfl, _⟩ | ⟨_, g, o, fs, _, _, rfl, _⟩⟩ := h
  · simp
  · rw [List.length_take]; omega
end Go.Proofs.Ythgbfidghhlldab
