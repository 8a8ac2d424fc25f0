/- The reference's Order (layer 5). -/
import Derived.Test.YthgbfidghhlldabPOrd1
import Derived.Test.YthgbfidghhlldabPlain
import Derived.Test.YthgbfidghhlldabPrioH
import Derived.Test.YthgbfidghhlldabPLeft
import Derived.Deep.RegionHeld3
import Derived.Deep.AppendLies
import Derived.Outline
namespace Go.Proofs.Ythgbfidghhlldab
open Go.RowKit Go.Lib
attribute [local go_sem ↓] Go.wp_at_zero Go.wp_at_succ

/-- two rows of frames of the call's own: those left, those taken -/
structure RO (w0 : World) (gl go : Nat) (L O : List FX) (cl co : Nat) (W : World) : Prop where
  left : W.ownsRow w0.heap.size 25 5 (.slice (some ⟨gl, 0, none⟩) L.length cl) L.length (cellsF L)
  out : W.ownsRow w0.heap.size 25 5 (.slice (some ⟨go, 0, none⟩) O.length co) O.length (cellsF O)
  ne : gl ≠ go
  bel : Below w0.heap.size w0 W
theorem own_far {w w' : World} {base : Nat} {e : TypeId} {size g n cap : Nat} {xs : List Value} (h : w.ownsRow base e size (.slice (some ⟨g, 0, none⟩) n cap) n xs) (hb : w'.heap[g]? = w.heap[g]?) : w'.ownsRow base e size (.slice (some ⟨g, 0, none⟩) n cap) n xs := by
  refine ⟨h.1, ?_⟩
  rcases h.2 with hn | ⟨g', cap', cur, hv, hbg, hg, r⟩
  · exact .inl hn
  · cases hv
    exact .inr ⟨g, cap, cur, rfl, hbg, by rw [hb]; exact hg, r⟩
theorem RowF.take {w : World} {g o : Nat} {l : List FX} (h : RowF w g o l) (k : Nat) : RowF w g o (l.take k) := fun i hi => by
  have hi2 : i < l.length := by rw [List.length_take] at hi; omega
  rw [List.getElem_take]
  exact h i hi2
theorem RowF.drop {w : World} {g : Nat} {l : List FX} (h : RowF w g 0 l) (k : Nat) : RowF w g (k * 5) (l.drop k) := fun i hi => by
  have hi2 : k + i < l.length := by rw [List.length_drop] at hi; omega
  have := h (k + i) hi2
  rw [List.getElem_drop]
  rw [show 0 + (k + i) * 5 = k * 5 + i * 5 by omega] at this
  exact this
def lenS : Value → Nat
  | .slice _ n _ => n
  | _ => 0
theorem RO.keep {w0 W W' : World} {gl go cl co : Nat} {L O : List FX} (r : RO w0 gl go L O cl co W) (hb : Below W.heap.size W W') : RO w0 gl go L O cl co W' :=
  ⟨own_keep5 r.left hb, own_keep5 r.out hb, r.ne, r.bel.trans (hb.mono r.bel.size)⟩

set_option maxRecDepth 100000 in
set_option maxHeartbeats 8000000 in
theorem reforder_any (g cap : Nat) (l : List FX) (w : World) (hn : l.length ≤ 10) (hcap : l.length ≤ cap) (hc : RowF w g 0 l) (hg : g < w.heap.size) (ha : l.all FX.may = true) :
    Calls Try.prog 15 #[.slice (some ⟨g, 0, none⟩) l.length cap] w fun e w' => ∃ h caph, e = .returned (.slice (some ⟨h, 0, none⟩) l.length caph) ∧ w'.ownsRow w.heap.size 25 5 (.slice (some ⟨h, 0, none⟩) l.length caph) l.length (cellsF (B.isort keyF l)) ∧ Below w.heap.size w w' := by
  obtain ⟨i0, hinf, hz0, hz1, hz2⟩ := info_parts Try.infoFr
  have hl := World.ownsRow_lit (base := w.heap.size) (e := 25) (size := 5) w #[] 0 (by simp) (by simp) (by simp)
  have HC := Lib.hid hc.cells
  have HMAY := Lib.hid (show ∀ f ∈ l, f.may = true from List.all_eq_true.1 ha)
  obtain ⟨n, hnn⟩ : ∃ n, n = l.length := ⟨_, rfl⟩
  rw [← hnn] at hn hcap ⊢
  have HN := Lib.hid hnn
  have hcl : (cellsF l).length = n * 5 := by rw [cellsF_length, hnn]
  clear hc ha hnn
  go_enter Try.func15, Try.ntmps15
  go_wp2_with (at_builtin; refine wpList_append_own _ rfl (.tmp 9) (.tmp 10) 22 rfl w.heap.size 25 i0 (.agg (frV 0 false false 0 ⟨#[]⟩)) 5 32 Try.underlying22 hinf hz0 hz1 hz2 rfl (by decide) _ _ _ rfl hl ⟨g, 0, none⟩ _ _ (cellsF l) rfl ?c1 ?c2 ?c3 ?c4 ?c5 ?c6 ?_)
  case c2 => intro j u hu; have := HC.out j u hu; rwa [addr_add, Nat.zero_add] at this
  case c3 => exact cellsF_oneCell l
  case c4 => unfold maxLen; omega
  case c5 => omega
  intro v1 w1 hown hgr hne
  have hbl := append_below (Nat.le_refl _) hgr (fun k hk => by cases hk; exact Nat.le_refl _)
  obtain ⟨gl0, cl0, rfl, hgb, hgl⟩ := own_form hown hne
  have hRO : RO w gl0 w1.heap.size l [] cl0 0 (w1.alloc (.cells #[] 25)) :=
    ⟨own_keep5 (by rw [← HN.out]; exact hown) ((Below.refl _ _).alloc (Nat.le_refl _) _), World.ownsRow_lit (base := w.heap.size) (e := 25) (size := 5) w1 #[] 0 hbl.size (by simp) (by simp), by omega, hbl.alloc hbl.size _⟩
  clear hown hgr hne hl
  go_wp2
  go_loopw [3, 4] (fun s3 s4 wr => ∃ (gl cl go co m o : Nat) (L O : List FX), s3 = .slice (some ⟨gl, 0, none⟩) m cl ∧ s4 = .slice (some ⟨go, 0, none⟩) o co ∧ m + o = n ∧ RO w gl go L O cl co wr ∧ Hid (m = L.length ∧ o = O.length ∧ B.SEL keyF l O L ∧ ∀ f ∈ L, f.may = true)) (fun s3 _ _ => lenS s3)
  case atStart => exact ⟨gl0, cl0, w1.heap.size, 0, n, 0, l, [], rfl, rfl, rfl, hRO, Lib.hid ⟨HN.out, rfl, B.SEL.start l, HMAY.out⟩⟩
  case round =>
    clear hRO hgb hgl hbl
    obtain ⟨gl, cl, go, co, m, o, L, O, rfl, rfl, hmo, hR, HI⟩ := hrel
    rcases Nat.eq_zero_or_pos m with rfl | hm0
    · go_wp2
      go_ret
      have hL0 : L = [] := List.eq_nil_of_length_eq_zero HI.out.1.symm
      subst hL0
      have hO := HI.out.2.2.1.done keysF
      have hon : o = n := by omega
      subst hon
      have h2 := hR.out
      rw [← HI.out.2.1, hO] at h2
      exact ⟨go, co, rfl, h2, hR.bel⟩
    · have hgt : ¬ (m : Int) ≤ 0 := by omega
      go_wp2
      go_loopw [5, 18] (fun s5 s18 wq => ∃ i k : Nat, i ≤ m ∧ k < m ∧ s5 = .int .i64 k ∧ s18 = .int .i64 i ∧ RO w gl go L O cl co wq ∧ Hid (B.FB keyF L i k)) (fun _ s18 _ => m - (intOf s18).toNat)
      case atStart => exact ⟨0, 0, Nat.zero_le _, hm0, rfl, rfl, hR, Lib.hid (B.FB.zero L)⟩
      case round =>
        obtain ⟨wo, rfl⟩ : ∃ wo : World, wo = wr := ⟨_, rfl⟩
        clear hR
        obtain ⟨i, k, hi, hk, rfl, rfl, hR, HF⟩ := hrel
        have hkL : k < L.length := by rw [← HI.out.1]; exact hk
        by_cases hlt : i < m
        · have hiL : i < L.length := by rw [← HI.out.1]; exact hlt
          have hx0 : L[i]? = some L[i] := List.getElem?_eq_getElem hiL
          have hy0 : L[k]? = some L[k] := List.getElem?_eq_getElem hkL
          have hxm := HI.out.2.2.2 _ (List.getElem_mem hiL)
          have hym := HI.out.2.2.2 _ (List.getElem_mem hkL)
          obtain ⟨x, hx⟩ : ∃ x, x = L[i] := ⟨_, rfl⟩
          obtain ⟨y, hy⟩ : ∃ y, y = L[k] := ⟨_, rfl⟩
          rw [← hx] at hx0 hxm
          rw [← hy] at hy0 hym
          have CL0 := fun w => refless_any x y w hxm hym
          have HXY := Lib.hid (And.intro hx0 hy0)
          have KA := Lib.hid (show ∀ W, RO w gl go L O cl co W → (RO w gl go L O cl co W ∧ W.cell? ⟨gl, i * 5, none⟩ = some (.int .u32 x.id) ∧ W.cell? ⟨gl, i * 5 + 1, none⟩ = some (.bool x.ext) ∧ W.cell? ⟨gl, i * 5 + 2, none⟩ = some (.bool x.rem) ∧ W.cell? ⟨gl, i * 5 + 3, none⟩ = some (.int .i64 x.dlc) ∧ W.cell? ⟨gl, i * 5 + 4, none⟩ = some (.string x.data) ∧ W.cell? ⟨gl, k * 5, none⟩ = some (.int .u32 y.id) ∧ W.cell? ⟨gl, k * 5 + 1, none⟩ = some (.bool y.ext) ∧ W.cell? ⟨gl, k * 5 + 2, none⟩ = some (.bool y.rem) ∧ W.cell? ⟨gl, k * 5 + 3, none⟩ = some (.int .i64 y.dlc) ∧ W.cell? ⟨gl, k * 5 + 4, none⟩ = some (.string y.data)) from fun W h => by
            obtain ⟨x0, x1, x2, x3, x4⟩ := (own_row h.left).at0 i hiL
            obtain ⟨y0, y1, y2, y3, y4⟩ := (own_row h.left).at0 k hkL
            rw [← hx] at x0 x1 x2 x3 x4
            rw [← hy] at y0 y1 y2 y3 y4
            exact ⟨h, x0, x1, x2, x3, x4, y0, y1, y2, y3, y4⟩)
          have HS := Lib.hid (KA.out _ hR)
          clear hx hy hx0 hy0 hxm hym hiL hkL hR
          cases hxy : x.less y
          · rw [hxy] at CL0
            have CL := Lib.hid CL0
            have HXL := Lib.hid hxy
            clear CL0 hxy
            go_wp2
            have hS := HS.out
            go_region_held3 (fun w' => RO w gl go L O cl co w' ∧ w'.cell? ⟨gl, i * 5, none⟩ = some (.int .u32 x.id) ∧ w'.cell? ⟨gl, i * 5 + 1, none⟩ = some (.bool x.ext) ∧ w'.cell? ⟨gl, i * 5 + 2, none⟩ = some (.bool x.rem) ∧ w'.cell? ⟨gl, i * 5 + 3, none⟩ = some (.int .i64 x.dlc) ∧ w'.cell? ⟨gl, i * 5 + 4, none⟩ = some (.string x.data) ∧ w'.cell? ⟨gl, k * 5, none⟩ = some (.int .u32 y.id) ∧ w'.cell? ⟨gl, k * 5 + 1, none⟩ = some (.bool y.ext) ∧ w'.cell? ⟨gl, k * 5 + 2, none⟩ = some (.bool y.rem) ∧ w'.cell? ⟨gl, k * 5 + 3, none⟩ = some (.int .i64 y.dlc) ∧ w'.cell? ⟨gl, k * 5 + 4, none⟩ = some (.string y.data))
              (first | assumption | exact KA.out _ (HS.out.1.keep (Below.refl _ _).drew))
              ((go_at_call 9; (with_reducible refine (CL.out _).mono ?_); rintro e w7 ⟨rfl, hb7⟩; have hS7 := KA.out _ (RO.keep (And.left (by assumption)) hb7)))
            go_wp2
            go_roundw
            case rel => exact ⟨i + 1, k, hlt, hk, rfl, by go_num, hS7.1, Lib.hid (HF.out.no HXY.out.1 HXY.out.2 HXL.out)⟩
            case measure => simp [intOf]; omega
          · rw [hxy] at CL0
            have CL := Lib.hid CL0
            have HXL := Lib.hid hxy
            clear CL0 hxy
            go_wp2
            have hS := HS.out
            go_region_held3 (fun w' => RO w gl go L O cl co w' ∧ w'.cell? ⟨gl, i * 5, none⟩ = some (.int .u32 x.id) ∧ w'.cell? ⟨gl, i * 5 + 1, none⟩ = some (.bool x.ext) ∧ w'.cell? ⟨gl, i * 5 + 2, none⟩ = some (.bool x.rem) ∧ w'.cell? ⟨gl, i * 5 + 3, none⟩ = some (.int .i64 x.dlc) ∧ w'.cell? ⟨gl, i * 5 + 4, none⟩ = some (.string x.data) ∧ w'.cell? ⟨gl, k * 5, none⟩ = some (.int .u32 y.id) ∧ w'.cell? ⟨gl, k * 5 + 1, none⟩ = some (.bool y.ext) ∧ w'.cell? ⟨gl, k * 5 + 2, none⟩ = some (.bool y.rem) ∧ w'.cell? ⟨gl, k * 5 + 3, none⟩ = some (.int .i64 y.dlc) ∧ w'.cell? ⟨gl, k * 5 + 4, none⟩ = some (.string y.data))
              (first | assumption | exact KA.out _ (HS.out.1.keep (Below.refl _ _).drew))
              ((go_at_call 9; (with_reducible refine (CL.out _).mono ?_); rintro e w7 ⟨rfl, hb7⟩; have hS7 := KA.out _ (RO.keep (And.left (by assumption)) hb7)))
            go_wp2
            go_roundw
            case rel => exact ⟨i + 1, i, hlt, hlt, rfl, by go_num, hS7.1, Lib.hid (HF.out.yes keysF HXY.out.1 HXY.out.2 HXL.out)⟩
            case measure => simp [intOf]; omega
        · have hie : i = m := by omega
          subst hie
          have hy0 : L[k]? = some L[k] := List.getElem?_eq_getElem hkL
          obtain ⟨y0, y1, y2, y3, y4⟩ := (own_row hR.left).at0 k hkL
          obtain ⟨y, hy⟩ : ∃ y, y = L[k] := ⟨_, rfl⟩
          rw [← hy] at hy0 y0 y1 y2 y3 y4
          have HSEL := Lib.hid (HI.out.2.2.1.step hy0 (by rw [← HI.out.1]; exact HF.out))
          have HY0 := Lib.hid hy0
          have hcl1 := own_cap hR.left
          rw [← HI.out.1] at hcl1
          have hbx := (Below.refl wo.heap.size wo).alloc (Nat.le_refl _) (.cells y.v 25)
          have ho2 := own_keep5 hR.out hbx
          rw [← HI.out.2.1] at ho2
          have hlt0 := (hR.left.lt _ rfl).2
          have hbase := hR.bel.size
          have hne := hR.ne
          have HR := Lib.hid hR
          clear hR hy hy0 hkL
          go_wp2_with (at_builtin; (refine wpList_append_lies _ rfl (.tmp 32) (.tmp 37) 22 rfl w.heap.size 25 i0 (.agg (frV 0 false false 0 ⟨#[]⟩)) 5 32 Try.underlying22 hinf hz0 hz1 hz2 rfl (by decide) _ _ _ rfl ho2 _ _ _ (cellsF [y]) rfl rfl (World.news_of_block (heap_alloc_new wo _)) (cellsF_oneCell [y]) ?d1 ?d2 ?d3 ?d4 (wo.heap.size + 1) ?d5 ?_))
          case d2 => unfold maxLen; omega
          case d3 => omega
          case d4 => omega
          intro go2 co2 w3 hO3 hg3 hgo3 hlt3
          have hL3 := own_far (own_keep5 HR.out.left hbx) (hg3.block gl (by simp; omega) (by simp [Value.ownBlock]; omega))
          have hb3 : Below w.heap.size w w3 := (HR.out.bel.trans (hbx.mono hbase)).grown hg3 (by simp; omega) (fun k hk => by cases hk; exact (HR.out.out.lt _ rfl).1)
          have hne3 : gl ≠ go2 := by rcases hgo3 with h | h; (cases h; exact hne); omega
          have hl3 := World.ownsRow_lit (base := w3.heap.size) (e := 25) (size := 5) w3 #[] 0 (Nat.le_refl _) (by simp) (by simp)
          have hk3 := (Below.refl w3.heap.size w3).alloc (Nat.le_refl _) (.cells #[] 25)
          have hL4 := own_keep5 hL3 hk3
          have HT4 := Lib.hid ((own_row hL4).take k).cells
          have htl : (cellsF (L.take k)).length = k * 5 := by rw [cellsF_length, List.length_take, ← HI.out.1]; congr 1; omega
          have hbs3 := hb3.size
          have HL4 := Lib.hid hL4
          have HL3 := Lib.hid hL3
          clear hL3 hL4 ho2 hbx y0 y1 y2 y3 y4
          go_wp2_with (at_builtin; refine wpList_append_own _ rfl (.tmp 40) (.tmp 43) 22 rfl w3.heap.size 25 i0 (.agg (frV 0 false false 0 ⟨#[]⟩)) 5 32 Try.underlying22 hinf hz0 hz1 hz2 rfl (by decide) _ _ _ rfl hl3 ⟨gl, 0, none⟩ _ _ (cellsF (L.take k)) rfl ?e1 ?e2 ?e3 ?e4 ?e5 ?e6 ?_)
          case e2 => intro j u hu; have := HT4.out j u hu; rwa [addr_add, Nat.zero_add] at this
          case e3 => exact cellsF_oneCell _
          case e4 => unfold maxLen; omega
          case e5 => omega
          intro v5 w5 h5 hg5 hne5
          obtain ⟨g5, c5, rfl, hb5, hlt5⟩ := own_form h5 hne5
          have hb35 : Below w3.heap.size w3 w5 := append_below (Nat.le_refl _) hg5 (fun k hk => by cases hk; exact Nat.le_refl _)
          have hL5 := own_keep5 HL3.out hb35
          have hb5w : Below w.heap.size w w5 := hb3.trans (hb35.mono hb3.size)
          have HT5 := Lib.hid ((own_row hL5).drop (k + 1)).cells
          have hdl : (cellsF (L.drop (k + 1))).length = (i - (k + 1)) * 5 := by rw [cellsF_length, List.length_drop, ← HI.out.1]
          have HL5 := Lib.hid hL5
          clear hL5 htl
          rcases Nat.lt_or_ge (k + 1) cl with hkc | hkc
          · have hkn : ¬ k + 1 = cl := by omega
            go_wp2_with (at_builtin; (refine wpList_append_own _ rfl (.tmp 45) (.tmp 49) 22 rfl w3.heap.size 25 i0 (.agg (frV 0 false false 0 ⟨#[]⟩)) 5 32 Try.underlying22 hinf hz0 hz1 hz2 rfl (by decide) _ _ _ rfl h5 ⟨gl, (k + 1) * 5, none⟩ _ _ (cellsF (L.drop (k + 1))) rfl ?f1 ?f2 ?f3 ?f4 ?f5 ?f6 ?_))
            case f1 => exact hdl
            case f2 => exact HT5.out
            case f3 => exact cellsF_oneCell _
            case f4 => unfold maxLen; omega
            case f5 => omega
            case f6 => exact hb35.size
            intro v6 w6 h6 hg6 hne6
            obtain ⟨g6, c6, rfl, hb6, hlt6⟩ := own_form h6 hne6
            have hb56 : Below w3.heap.size w5 w6 := (Below.refl w3.heap.size w5).grown hg6 hb35.size (fun k hk => by cases hk; exact hb5)
            have hlen : (L.take k ++ L.drop (k + 1)).length = k + (i - (k + 1)) := by rw [List.length_append, List.length_take, List.length_drop, ← HI.out.1]; omega
            have hleno : (O ++ [y]).length = o + 1 := by rw [List.length_append, ← HI.out.2.1]; rfl
            have hb36 := hb35.trans hb56
            have hRn : RO w g6 go2 (L.take k ++ L.drop (k + 1)) (O ++ [y]) c6 co2 w6 :=
              ⟨by rw [hlen, cellsF_append]; exact own_base h6 hb3.size, by rw [hleno, cellsF_append]; exact own_keep5 hO3 hb36, by omega, hb3.trans (hb36.mono hb3.size)⟩
            have HRN := Lib.hid hRn
            have HLE := Lib.hid (And.intro hlen.symm hleno.symm)
            clear hRn hlen hleno h6 h5 hO3
            go_wp2
            go_roundw
            case rel => exact ⟨g6, c6, go2, co2, k + (i - (k + 1)), o + 1, L.take k ++ L.drop (k + 1), O ++ [y], rfl, rfl, by omega, HRN.out, Lib.hid ⟨HLE.out.1, HLE.out.2, HSEL.out, fun f hf => by
              rcases List.mem_append.1 hf with h | h
              · exact HI.out.2.2.2 _ (List.mem_of_mem_take h)
              · exact HI.out.2.2.2 _ (List.mem_of_mem_drop h)⟩⟩
            case measure => simp [lenS]; omega
          · have hkn : k + 1 = cl := by omega
            have hki : k + 1 = i := by omega
            go_wp2_with (at_builtin; (refine wpList_append_own _ rfl (.tmp 45) (.tmp 49) 22 rfl w3.heap.size 25 i0 (.agg (frV 0 false false 0 ⟨#[]⟩)) 5 32 Try.underlying22 hinf hz0 hz1 hz2 rfl (by decide) _ _ _ rfl h5 ⟨gl, 0, none⟩ _ _ (cellsF (L.drop (k + 1))) rfl ?g1 ?g2 ?g3 ?g4 ?g5 ?g6 ?_))
            case g1 => exact hdl.trans (by rw [show i - (k + 1) = 0 by omega])
            case g2 => intro j u hu; have := (List.getElem?_eq_some_iff.1 hu).1; omega
            case g3 => exact cellsF_oneCell _
            case g4 => unfold maxLen; omega
            case g5 => omega
            case g6 => exact hb35.size
            intro v6 w6 h6 hg6 hne6
            obtain ⟨g6, c6, rfl, hb6, hlt6⟩ := own_form h6 hne6
            have hb56 : Below w3.heap.size w5 w6 := (Below.refl w3.heap.size w5).grown hg6 hb35.size (fun k hk => by cases hk; exact hb5)
            have hlen : (L.take k ++ L.drop (k + 1)).length = k := by rw [List.length_append, List.length_take, List.length_drop, ← HI.out.1]; omega
            have hleno : (O ++ [y]).length = o + 1 := by rw [List.length_append, ← HI.out.2.1]; rfl
            have hb36 := hb35.trans hb56
            have hRn : RO w g6 go2 (L.take k ++ L.drop (k + 1)) (O ++ [y]) c6 co2 w6 :=
              ⟨by rw [hlen, cellsF_append, hkn]; exact own_base h6 hb3.size, by rw [hleno, cellsF_append]; exact own_keep5 hO3 hb36, by omega, hb3.trans (hb36.mono hb3.size)⟩
            have HRN := Lib.hid hRn
            have HLE := Lib.hid (And.intro hlen.symm hleno.symm)
            clear hRn hlen hleno h6 h5 hO3
            go_wp2
            go_roundw
            case rel => exact ⟨g6, c6, go2, co2, k, o + 1, L.take k ++ L.drop (k + 1), O ++ [y], rfl, rfl, by omega, HRN.out, Lib.hid ⟨HLE.out.1, HLE.out.2, HSEL.out, fun f hf => by
              rcases List.mem_append.1 hf with h | h
              · exact HI.out.2.2.2 _ (List.mem_of_mem_take h)
              · exact HI.out.2.2.2 _ (List.mem_of_mem_drop h)⟩⟩
            case measure => simp [lenS]; omega
end Go.Proofs.Ythgbfidghhlldab
