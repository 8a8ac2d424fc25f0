/- The law PrioContests: the walk. -/
import Derived.Test.YthgbfidghhlldabPCts
import Derived.Test.YthgbfidghhlldabPCts5
import Derived.Test.YthgbfidghhlldabPrioE
namespace Go.Proofs.Ythgbfidghhlldab
open Go.RowKit Go.Lib
attribute [local go_sem ↓] Go.wp_at_zero Go.wp_at_succ

theorem refright_fx (f : FX) (w : World) : Calls Try.prog 6 #[.agg f.v] w fun e w' => e = .returned (.bool f.may) ∧ Below w.heap.size w w' := by
  obtain ⟨id, ext, rem, dlc, data⟩ := f
  refine (refright4_any id ext rem dlc data w).mono ?_
  rintro e w' ⟨rfl, rfl⟩
  exact ⟨rfl, al _ _⟩
/-- what Field answers -/
def FieldPost (f : FX) (q : Bool) (sv : ByteArray) (ev : Int) : Prop := f.may = q ∧ ((q = true ∧ sv = f.field ∧ ev = 0) ∨ (q = false ∧ sv = ⟨#[]⟩ ∧ ev = 1))
theorem field_any (f : FX) (q : Bool) (hq : f.may = q) (w : World) : Calls Try.prog 5 #[.agg f.v] w fun e w' => ∃ sv ev, FieldPost f q sv ev ∧ e = .returned (.tuple #[.string sv, .int .i64 ev]) ∧ Below w.heap.size w w' := by
  cases q
  · exact (field_no f w hq).mono fun e w' ⟨he, hb⟩ => ⟨_, _, ⟨hq, .inr ⟨rfl, rfl, rfl⟩⟩, he, hb⟩
  · exact (field_yes f w hq).mono fun e w' ⟨he, hb⟩ => ⟨_, _, ⟨hq, .inl ⟨rfl, rfl, rfl⟩⟩, he, hb⟩

set_option maxRecDepth 100000 in
set_option maxHeartbeats 32000000 in
theorem contests_any (A : Option Addr) (n cap : Nat) (gs : List FX) (f0 g0 : FX) (w : World) (h : InF w A n cap gs) :
    Calls Try.prog 3 #[.slice A n cap, .agg f0.v, .agg g0.v] w fun e w' => e = .returned (.bool true) ∧ Below w.heap.size w w' := by
  have hsh := h.short
  have hb2 := (al w (.cells f0.v 25)).trans ((al (w.alloc (.cells f0.v 25)) (.cells g0.v 25)).mono (by simp))
  have CF := Lib.hid (few_all (h.keep hb2))
  obtain ⟨hs, hhs⟩ : ∃ hs, hs = gs.map FX.cut := ⟨_, rfl⟩
  simp only [← hhs] at CF
  have hl : hs.length ≤ 10 := by rw [hhs, List.length_map]; exact hsh
  have h4 : Blk ((w.alloc (.cells f0.v 25)).alloc (.cells g0.v 25)) w.heap.size f0.v 25 := (blk_new w _ _ _ rfl).alloc _
  have h5 : Blk ((w.alloc (.cells f0.v 25)).alloc (.cells g0.v 25)) (w.heap.size + 1) g0.v 25 := blk_new _ _ _ _ (by simp)
  obtain ⟨f, hf⟩ : ∃ f, f = f0.cut := ⟨_, rfl⟩
  obtain ⟨g, hg⟩ : ∃ g, g = g0.cut := ⟨_, rfl⟩
  have HC := Lib.hid (show ∀ (g1 cap1 : Nat) (w1 : World) (_ : w1.ownsRow ((w.alloc (.cells f0.v 25)).alloc (.cells g0.v 25)).heap.size 25 5 (.slice (some ⟨g1, 0, none⟩) hs.length cap1) hs.length (cellsF hs)) (_ : Below ((w.alloc (.cells f0.v 25)).alloc (.cells g0.v 25)).heap.size ((w.alloc (.cells f0.v 25)).alloc (.cells g0.v 25)) w1), CT w g1 cap1 hs f0 g0 w1 from fun g1 cap1 w1 ho hb =>
    ⟨own_base ho (by simp; omega), h4.keep hb, h5.keep hb, (by have := (ho.lt _ rfl).1; simp at this; omega), hb2.trans (hb.mono (by simp; omega))⟩)
  obtain ⟨m, hm⟩ : ∃ m, m = hs.length := ⟨_, rfl⟩
  rw [← hm] at CF HC
  have HM := Lib.hid hm
  have CL := Lib.hid (fun (b : Nat) (x : FX) (w : World) (hr : KC5 b x w) (hb : b < w.heap.size) => few_one b x w hr hb)
  clear h hhs h4 h5 hb2 hsh hm
  go_enter Try.func3, Try.ntmps3
  go_upto_region 2 with (go_at_call 4; (with_reducible refine CF.out.mono ?_); rintro e w1 ⟨g1, cap1, rfl, ho, hb1⟩)
  have hCT := HC.out _ _ _ ho hb1
  have hbl := hCT.b4.lt
  clear ho hb1 CF HC
  go_cut [21] from 22 to 31 (fun _ wc => CT w g1 cap1 hs f g wc)
  case first =>
    obtain ⟨c0, c1, c2, c3, c4⟩ := blk_kc5 hCT.b4
    have hbl5 := hCT.b5.lt
    obtain ⟨e0, e1, e2, e3, e4⟩ := blk_kc5 hCT.b5
    have hT1 : CT w g1 cap1 hs f0 g0 ((w1.alloc (.cells #[.int .u32 f0.id, .bool f0.ext, .bool f0.rem, .int .i64 f0.dlc, .string f0.data] 25)).drew) := (hCT.keep (al w1 (.cells #[.int .u32 f0.id, .bool f0.ext, .bool f0.rem, .int .i64 f0.dlc, .string f0.data] 25))).keep (dr _)
    have hT2 : CT w g1 cap1 hs f0 g0 (((w1.alloc (.cells #[.int .u32 f0.id, .bool f0.ext, .bool f0.rem, .int .i64 f0.dlc, .string f0.data] 25)).alloc (.cells #[.int .u32 g0.id, .bool g0.ext, .bool g0.rem, .int .i64 g0.dlc, .string g0.data] 25)).drew) := ((hCT.keep (al w1 (.cells #[.int .u32 f0.id, .bool f0.ext, .bool f0.rem, .int .i64 f0.dlc, .string f0.data] 25))).keep (al _ _)).keep (dr _)
    have hT3 : CT w g1 cap1 hs f0 g0 (((w1.alloc (.cells #[.int .u32 g0.id, .bool g0.ext, .bool g0.rem, .int .i64 g0.dlc, .string g0.data] 25)).alloc (.cells #[.int .u32 f0.id, .bool f0.ext, .bool f0.rem, .int .i64 f0.dlc, .string f0.data] 25)).drew) := ((hCT.keep (al w1 (.cells #[.int .u32 g0.id, .bool g0.ext, .bool g0.rem, .int .i64 g0.dlc, .string g0.data] 25))).keep (al _ _)).keep (dr _)
    have k11 : KC5 w1.heap.size f0 ((w1.alloc (.cells #[.int .u32 f0.id, .bool f0.ext, .bool f0.rem, .int .i64 f0.dlc, .string f0.data] 25)).drew) := (kc5_new w1 f0).keep (dr _)
    have k12 : KC5 w1.heap.size f0 (((w1.alloc (.cells #[.int .u32 f0.id, .bool f0.ext, .bool f0.rem, .int .i64 f0.dlc, .string f0.data] 25)).alloc (.cells #[.int .u32 g0.id, .bool g0.ext, .bool g0.rem, .int .i64 g0.dlc, .string g0.data] 25)).drew) := ((kc5_new w1 f0).keep (al _ _)).keep (dr _)
    have k22 : KC5 (w1.heap.size + 1) g0 (((w1.alloc (.cells #[.int .u32 f0.id, .bool f0.ext, .bool f0.rem, .int .i64 f0.dlc, .string f0.data] 25)).alloc (.cells #[.int .u32 g0.id, .bool g0.ext, .bool g0.rem, .int .i64 g0.dlc, .string g0.data] 25)).drew) := by
      have := kc5_new (w1.alloc (.cells #[.int .u32 f0.id, .bool f0.ext, .bool f0.rem, .int .i64 f0.dlc, .string f0.data] 25)) g0
      rw [show (w1.alloc (.cells #[.int .u32 f0.id, .bool f0.ext, .bool f0.rem, .int .i64 f0.dlc, .string f0.data] 25)).heap.size = w1.heap.size + 1 by simp] at this
      exact this.keep (dr _)
    have k33 : KC5 w1.heap.size g0 (((w1.alloc (.cells #[.int .u32 g0.id, .bool g0.ext, .bool g0.rem, .int .i64 g0.dlc, .string g0.data] 25)).alloc (.cells #[.int .u32 f0.id, .bool f0.ext, .bool f0.rem, .int .i64 f0.dlc, .string f0.data] 25)).drew) := ((kc5_new w1 g0).keep (al _ _)).keep (dr _)
    have k32 : KC5 (w1.heap.size + 1) f0 (((w1.alloc (.cells #[.int .u32 g0.id, .bool g0.ext, .bool g0.rem, .int .i64 g0.dlc, .string g0.data] 25)).alloc (.cells #[.int .u32 f0.id, .bool f0.ext, .bool f0.rem, .int .i64 f0.dlc, .string f0.data] 25)).drew) := by
      have := kc5_new (w1.alloc (.cells #[.int .u32 g0.id, .bool g0.ext, .bool g0.rem, .int .i64 g0.dlc, .string g0.data] 25)) f0
      rw [show (w1.alloc (.cells #[.int .u32 g0.id, .bool g0.ext, .bool g0.rem, .int .i64 g0.dlc, .string g0.data] 25)).heap.size = w1.heap.size + 1 by simp] at this
      exact this.keep (dr _)
    have K1 : Hid (Calls Try.prog 4 #[.slice (some ⟨w1.heap.size, 0, none⟩) 1 1] ((w1.alloc (.cells #[.int .u32 f0.id, .bool f0.ext, .bool f0.rem, .int .i64 f0.dlc, .string f0.data] 25)).drew) (fun e W2 => ∃ k c, e = .returned (.slice (some ⟨k, 0, none⟩) 1 c) ∧ CT w g1 cap1 hs f0 g0 W2 ∧ KC5 k f W2 ∧ k < W2.heap.size)) := Lib.hid ((few_one _ f0 _ k11 (by simp)).mono (by
      rintro e W2 ⟨k, c, rfl, h1, h2, h3⟩
      rw [← hf] at h1
      exact ⟨k, c, rfl, hT1.keep h3, h1, h2.2⟩))
    have K2 : Hid (Calls Try.prog 4 #[.slice (some ⟨w1.heap.size, 0, none⟩) 1 1] (((w1.alloc (.cells #[.int .u32 f0.id, .bool f0.ext, .bool f0.rem, .int .i64 f0.dlc, .string f0.data] 25)).alloc (.cells #[.int .u32 g0.id, .bool g0.ext, .bool g0.rem, .int .i64 g0.dlc, .string g0.data] 25)).drew) (fun e W2 => ∃ k c, e = .returned (.slice (some ⟨k, 0, none⟩) 1 c) ∧ CT w g1 cap1 hs f0 g0 W2 ∧ KC5 k f W2 ∧ k < W2.heap.size ∧ KC5 (w1.heap.size + 1) g0 W2 ∧ w1.heap.size + 1 < W2.heap.size)) := Lib.hid ((few_one _ f0 _ k12 (by simp; omega)).mono (by
      rintro e W2 ⟨k, c, rfl, h1, h2, h3⟩
      rw [← hf] at h1
      have := h3.size
      simp at this
      exact ⟨k, c, rfl, hT2.keep h3, h1, h2.2, k22.keep h3, by omega⟩))
    have K3 : Hid (Calls Try.prog 4 #[.slice (some ⟨w1.heap.size + 1, 0, none⟩) 1 1] (((w1.alloc (.cells #[.int .u32 g0.id, .bool g0.ext, .bool g0.rem, .int .i64 g0.dlc, .string g0.data] 25)).alloc (.cells #[.int .u32 f0.id, .bool f0.ext, .bool f0.rem, .int .i64 f0.dlc, .string f0.data] 25)).drew) (fun e W2 => ∃ k c, e = .returned (.slice (some ⟨k, 0, none⟩) 1 c) ∧ CT w g1 cap1 hs f0 g0 W2 ∧ KC5 k f W2 ∧ k < W2.heap.size ∧ KC5 w1.heap.size g0 W2 ∧ w1.heap.size < W2.heap.size)) := Lib.hid ((few_one _ f0 _ k32 (by simp)).mono (by
      rintro e W2 ⟨k, c, rfl, h1, h2, h3⟩
      rw [← hf] at h1
      have := h3.size
      simp at this
      exact ⟨k, c, rfl, hT3.keep h3, h1, h2.2, k33.keep h3, by omega⟩))
    have D2 : Hid (∀ (b k : Nat) (W : World), CT w g1 cap1 hs f0 g0 W → KC5 k f W → k < W.heap.size → KC5 b g0 W → b < W.heap.size → Calls Try.prog 4 #[.slice (some ⟨b, 0, none⟩) 1 1] W (fun e W2 => ∃ k2 c2, e = .returned (.slice (some ⟨k2, 0, none⟩) 1 c2) ∧ CT w g1 cap1 hs f0 g0 W2 ∧ KC5 k f W2 ∧ KC5 k2 g W2 ∧ ¬ k2 = w.heap.size ∧ ¬ w.heap.size = k2 ∧ ¬ k2 = w.heap.size + 1 ∧ ¬ w.heap.size + 1 = k2)) := Lib.hid (fun b k W h1 h2 h3 h4 h5 => (few_one b g0 W h4 h5).mono (by
      rintro e W2 ⟨k2, c2, rfl, q1, q2, q3⟩
      rw [← hg] at q1
      have := q2.1
      have := h1.b5.lt
      exact ⟨k2, c2, rfl, h1.keep q3, h2.keep q3, q1, by omega, by omega, by omega, by omega⟩))
    have D1 : Hid (∀ (k : Nat) (W : World), CT w g1 cap1 hs f0 g0 W → KC5 k f W → k < W.heap.size → Calls Try.prog 4 #[.slice (some ⟨W.heap.size, 0, none⟩) 1 1] (W.alloc (.cells #[.int .u32 g0.id, .bool g0.ext, .bool g0.rem, .int .i64 g0.dlc, .string g0.data] 25)) (fun e W2 => ∃ k2 c2, e = .returned (.slice (some ⟨k2, 0, none⟩) 1 c2) ∧ CT w g1 cap1 hs f0 g0 W2 ∧ KC5 k f W2 ∧ KC5 k2 g W2 ∧ ¬ k2 = w.heap.size ∧ ¬ w.heap.size = k2 ∧ ¬ k2 = w.heap.size + 1 ∧ ¬ w.heap.size + 1 = k2)) := Lib.hid (fun k W h1 h2 h3 => D2.out W.heap.size k _ (h1.keep (al _ _)) (h2.keep (al _ _)) (by simp; omega) (kc5_new W g0) (by simp))
    have HF := Lib.hid hf
    have HG := Lib.hid hg
    clear hT1 hT2 hT3 k12 k11 k22 k33 k32 hf hg CL
    go_region_with (first
      | (go_at_call 4; (with_reducible refine K1.out.mono ?_); rintro e W2 ⟨k, c, rfl, hT, hK, hk⟩; (obtain ⟨x0, x1, x2, x3, x4⟩ := hK); (obtain ⟨e0, e1, e2, e3, e4⟩ := blk_kc5 hT.b5))
      | (go_at_call 4; (with_reducible refine K2.out.mono ?_); rintro e W2 ⟨k, c, rfl, hT, hK, hk, hQ, hq⟩; (obtain ⟨x0, x1, x2, x3, x4⟩ := hK))
      | (go_at_call 4; (with_reducible refine K3.out.mono ?_); rintro e W2 ⟨k, c, rfl, hT, hK, hk, hQ, hq⟩; (obtain ⟨x0, x1, x2, x3, x4⟩ := hK))
      | (go_at_call 4; (have hd := D1.out _ _ hT ⟨x0, x1, x2, x3, x4⟩ hk); (with_reducible refine hd.mono ?_); rintro e W3 ⟨k2, c2, rfl, hT3, hK3, hK4, hn1, hn2, hn3, hn4⟩; (obtain ⟨x0, x1, x2, x3, x4⟩ := hK3); (obtain ⟨y0, y1, y2, y3, y4⟩ := hK4); (obtain ⟨a0, a1, a2, a3, a4⟩ := blk_kc5 hT3.b4); (obtain ⟨b0, b1, b2, b3, b4⟩ := blk_kc5 hT3.b5); (obtain ⟨p0, p1, p2, p3, p4⟩ := blk_free hT3.b4); (obtain ⟨q0, q1, q2, q3, q4⟩ := blk_free hT3.b5))
      | (go_at_call 4; (have hd := D2.out _ _ _ hT ⟨x0, x1, x2, x3, x4⟩ hk hQ hq); (with_reducible refine hd.mono ?_); rintro e W3 ⟨k2, c2, rfl, hT3, hK3, hK4, hn1, hn2, hn3, hn4⟩; (obtain ⟨x0, x1, x2, x3, x4⟩ := hK3); (obtain ⟨y0, y1, y2, y3, y4⟩ := hK4); (obtain ⟨a0, a1, a2, a3, a4⟩ := blk_kc5 hT3.b4); (obtain ⟨b0, b1, b2, b3, b4⟩ := blk_kc5 hT3.b5); (obtain ⟨p0, p1, p2, p3, p4⟩ := blk_free hT3.b4); (obtain ⟨q0, q1, q2, q3, q4⟩ := blk_free hT3.b5)))
    all_goals go_wp2
    all_goals go_meet
    all_goals exact hT3.put f g
  case rest =>
    have hC := Lib.hid hcut
    obtain ⟨c0, c1, c2, c3, c4⟩ := blk_kc5 hC.out.b4
    obtain ⟨e0, e1, e2, e3, e4⟩ := blk_kc5 hC.out.b5
    obtain ⟨q, hq⟩ : ∃ q, q = f.may := ⟨_, rfl⟩
    have CA := Lib.hid (fun w => alive5_any w)
    have CFf := Lib.hid (fun w => field_any f q hq.symm w)
    have CRf := Lib.hid (show ∀ w, Calls Try.prog 6 #[.agg f.v] w fun e w' => e = .returned (.bool q) ∧ Below w.heap.size w w' from fun w => hq ▸ refright_fx f w)
    have HC10 := Lib.hid hl
    clear hCT hbl CL hcut hf hg hq hl
    go_upto_region 5 with (first
      | (go_at_call 5; (with_reducible refine (CFf.out _).mono ?_); rintro e W2 ⟨sv, ev, hsv, rfl, hb⟩; (replace hC := Lib.hid (hC.out.keep hb)); (obtain ⟨c0, c1, c2, c3, c4⟩ := blk_kc5 hC.out.b4); (obtain ⟨e0, e1, e2, e3, e4⟩ := blk_kc5 hC.out.b5); have HS := Lib.hid hsv; clear hsv)
      | (go_at_call 6; (with_reducible refine (CRf.out _).mono ?_); rintro e W2 ⟨rfl, hb⟩; (replace hC := Lib.hid (hC.out.keep hb)); (obtain ⟨c0, c1, c2, c3, c4⟩ := blk_kc5 hC.out.b4); (obtain ⟨e0, e1, e2, e3, e4⟩ := blk_kc5 hC.out.b5)))
    obtain ⟨W5, hW5⟩ : ∃ W5, W5 = W2 := ⟨_, rfl⟩
    go_cut [80] from 38 to 80 (fun v wd => v = .bool false ∧ CT w g1 cap1 hs f g wd)
    case first =>
      obtain ⟨hq, hs⟩ := HS.out
      clear HS
      rcases hs with ⟨rfl, rfl, rfl⟩ | ⟨rfl, rfl, rfl⟩
      · have CXf := Lib.hid (fun w => reffield_any f w hq)
        cases hgm : g.may
        · have CRg := Lib.hid (show ∀ w, Calls Try.prog 6 #[.agg g.v] w fun e w' => e = .returned (.bool false) ∧ Below w.heap.size w w' from fun w => hgm ▸ refright_fx g w)
          have CLf := Lib.hid (fun w => less_no f g w (by rw [hgm, Bool.and_false]))
          clear hq hgm
          go_wp2_with (first
            | (go_at_call 7; (with_reducible refine (CXf.out _).mono ?_); rintro e W2 ⟨rfl, hb⟩; (replace hC := Lib.hid (hC.out.keep hb)); (obtain ⟨c0, c1, c2, c3, c4⟩ := blk_kc5 hC.out.b4); (obtain ⟨e0, e1, e2, e3, e4⟩ := blk_kc5 hC.out.b5))
            | (go_at_call 6; (with_reducible refine (CRg.out _).mono ?_); rintro e W2 ⟨rfl, hb⟩; (replace hC := Lib.hid (hC.out.keep hb)); (obtain ⟨c0, c1, c2, c3, c4⟩ := blk_kc5 hC.out.b4); (obtain ⟨e0, e1, e2, e3, e4⟩ := blk_kc5 hC.out.b5))
            | (go_at_call 8; (with_reducible refine (CLf.out _).mono ?_); rintro e W2 ⟨rfl, hb⟩; (replace hC := Lib.hid (hC.out.keep hb)); (obtain ⟨c0, c1, c2, c3, c4⟩ := blk_kc5 hC.out.b4); (obtain ⟨e0, e1, e2, e3, e4⟩ := blk_kc5 hC.out.b5))
            | (go_at_call 10; (with_reducible refine (CA.out _).mono ?_); rintro e W2 ⟨rfl, hb⟩; (replace hC := Lib.hid (hC.out.keep hb)); (obtain ⟨c0, c1, c2, c3, c4⟩ := blk_kc5 hC.out.b4); (obtain ⟨e0, e1, e2, e3, e4⟩ := blk_kc5 hC.out.b5)))
          go_meet
          case rel => exact ⟨rfl, hC.out⟩
        · have CRg := Lib.hid (show ∀ w, Calls Try.prog 6 #[.agg g.v] w fun e w' => e = .returned (.bool true) ∧ Below w.heap.size w w' from fun w => hgm ▸ refright_fx g w)
          have CLf := Lib.hid (fun w => less_yes f g w hq hgm)
          have CXl := Lib.hid (fun w => refless_any f g w hq hgm)
          clear hq hgm
          go_wp2_with (first
            | (go_at_call 7; (with_reducible refine (CXf.out _).mono ?_); rintro e W2 ⟨rfl, hb⟩; (replace hC := Lib.hid (hC.out.keep hb)); (obtain ⟨c0, c1, c2, c3, c4⟩ := blk_kc5 hC.out.b4); (obtain ⟨e0, e1, e2, e3, e4⟩ := blk_kc5 hC.out.b5))
            | (go_at_call 6; (with_reducible refine (CRg.out _).mono ?_); rintro e W2 ⟨rfl, hb⟩; (replace hC := Lib.hid (hC.out.keep hb)); (obtain ⟨c0, c1, c2, c3, c4⟩ := blk_kc5 hC.out.b4); (obtain ⟨e0, e1, e2, e3, e4⟩ := blk_kc5 hC.out.b5))
            | (go_at_call 8; (with_reducible refine (CLf.out _).mono ?_); rintro e W2 ⟨rfl, hb⟩; (replace hC := Lib.hid (hC.out.keep hb)); (obtain ⟨c0, c1, c2, c3, c4⟩ := blk_kc5 hC.out.b4); (obtain ⟨e0, e1, e2, e3, e4⟩ := blk_kc5 hC.out.b5))
            | (go_at_call 9; (with_reducible refine (CXl.out _).mono ?_); rintro e W2 ⟨rfl, hb⟩; (replace hC := Lib.hid (hC.out.keep hb)); (obtain ⟨c0, c1, c2, c3, c4⟩ := blk_kc5 hC.out.b4); (obtain ⟨e0, e1, e2, e3, e4⟩ := blk_kc5 hC.out.b5))
            | (go_at_call 10; (with_reducible refine (CA.out _).mono ?_); rintro e W2 ⟨rfl, hb⟩; (replace hC := Lib.hid (hC.out.keep hb)); (obtain ⟨c0, c1, c2, c3, c4⟩ := blk_kc5 hC.out.b4); (obtain ⟨e0, e1, e2, e3, e4⟩ := blk_kc5 hC.out.b5)))
          go_meet
          case rel => exact ⟨rfl, hC.out⟩
      · have CLf := Lib.hid (fun w => less_no f g w (by rw [hq]; rfl))
        clear hq
        go_wp2_with (first
          | (go_at_call 8; (with_reducible refine (CLf.out _).mono ?_); rintro e W2 ⟨rfl, hb⟩; (replace hC := Lib.hid (hC.out.keep hb)); (obtain ⟨c0, c1, c2, c3, c4⟩ := blk_kc5 hC.out.b4); (obtain ⟨e0, e1, e2, e3, e4⟩ := blk_kc5 hC.out.b5))
          | (go_at_call 10; (with_reducible refine (CA.out _).mono ?_); rintro e W2 ⟨rfl, hb⟩; (replace hC := Lib.hid (hC.out.keep hb)); (obtain ⟨c0, c1, c2, c3, c4⟩ := blk_kc5 hC.out.b4); (obtain ⟨e0, e1, e2, e3, e4⟩ := blk_kc5 hC.out.b5)))
        go_meet
        case rel => exact ⟨rfl, hC.out⟩
    case rest =>
      clear hC c0 c1 c2 c3 c4 e0 e1 e2 e3 e4 HS CFf CRf CA hW5
      obtain ⟨rfl, hct⟩ := hcut
      have hC := Lib.hid hct
      clear hct
      cases ha : hs.all FX.may
      · have hno := ha
        have hl := HC10.out
        have CC := Lib.hid (show ∀ W, CT w g1 cap1 hs f g W → Calls Try.prog 11 #[.slice (some ⟨g1, 0, none⟩) m cap1] W (fun e w' => e = .returned (.tuple #[.slice none 0 0, .slice none 0 0, .int .i64 1]) ∧ Below W.heap.size W w') from fun W h => by
          rw [HM.out]; exact contest_no g1 0 cap1 hs W (by omega) (own_row h.own) (h.own.lt _ rfl).2 (.inl hno))
        have CO := Lib.hid (show ∀ W, CT w g1 cap1 hs f g W → Calls Try.prog 12 #[.slice (some ⟨g1, 0, none⟩) m cap1] W (fun e w' => e = .returned (.tuple #[.slice none 0 0, .int .i64 1]) ∧ Below W.heap.size W w') from fun W h => by
          rw [HM.out]; exact order_no g1 cap1 hs W (by omega) (own_row h.own) (h.own.lt _ rfl).2 hno)
        have CW := Lib.hid (show ∀ W, CT w g1 cap1 hs f g W → Calls Try.prog 13 #[.slice (some ⟨g1, 0, none⟩) m cap1] W (fun e w' => e = .returned (.bool false) ∧ Below W.heap.size W w') from fun W h => by
          rw [HM.out, ← hno]; exact refwell_any g1 0 cap1 hs W (by omega) (own_row h.own) (h.own.lt _ rfl).2)
        clear hno ha hl
        go_wp2_with (first
          | (go_at_call 11; (with_reducible refine (CC.out _ hC.out).mono ?_); rintro e W2 ⟨rfl, hb⟩; (replace hC := Lib.hid (hC.out.keep hb)))
          | (go_at_call 12; (with_reducible refine (CO.out _ hC.out).mono ?_); rintro e W2 ⟨rfl, hb⟩; (replace hC := Lib.hid (hC.out.keep hb)))
          | (go_at_call 13; (with_reducible refine (CW.out _ hC.out).mono ?_); rintro e W2 ⟨rfl, hb⟩; (replace hC := Lib.hid (hC.out.keep hb))))
        go_ret
        exact ⟨rfl, hC.out.bel⟩
      · have hl := HC10.out
        have CO := Lib.hid (show ∀ W, CT w g1 cap1 hs f g W → Calls Try.prog 12 #[.slice (some ⟨g1, 0, none⟩) m cap1] W (fun e w' => ∃ h ch, e = .returned (.tuple #[.slice (some ⟨h, 0, none⟩) m ch, .int .i64 0]) ∧ w'.ownsRow w.heap.size 25 5 (.slice (some ⟨h, 0, none⟩) m ch) m (cellsF (B.isort keyF hs)) ∧ Below W.heap.size W w') from fun W h => by
          rw [HM.out]
          refine (order_yes g1 cap1 hs W hl (own_row h.own) (h.own.lt _ rfl).2 ha).mono ?_
          rintro e w' ⟨k, c, rfl, ho, hb⟩
          exact ⟨k, c, rfl, own_base ho h.bel.size, hb⟩)
        have CX := Lib.hid (show ∀ W, CT w g1 cap1 hs f g W → Calls Try.prog 15 #[.slice (some ⟨g1, 0, none⟩) m cap1] W (fun e w' => ∃ h ch, e = .returned (.slice (some ⟨h, 0, none⟩) m ch) ∧ w'.ownsRow w.heap.size 25 5 (.slice (some ⟨h, 0, none⟩) m ch) m (cellsF (B.isort keyF hs)) ∧ Below W.heap.size W w') from fun W h => by
          rw [HM.out]
          refine (reforder_any g1 cap1 hs W hl (own_cap h.own) (own_row h.own) (h.own.lt _ rfl).2 ha).mono ?_
          rintro e w' ⟨k, c, rfl, ho, hb⟩
          exact ⟨k, c, rfl, own_base ho h.bel.size, hb⟩)
        have CW := Lib.hid (show ∀ W, CT w g1 cap1 hs f g W → Calls Try.prog 13 #[.slice (some ⟨g1, 0, none⟩) m cap1] W (fun e w' => e = .returned (.bool true) ∧ Below W.heap.size W w') from fun W h => by
          rw [HM.out, ← ha]; exact refwell_any g1 0 cap1 hs W (by omega) (own_row h.own) (h.own.lt _ rfl).2)
        have CS := Lib.hid (show ∀ (h ch h' ch' : Nat) (W : World), W.ownsRow w.heap.size 25 5 (.slice (some ⟨h, 0, none⟩) m ch) m (cellsF (B.isort keyF hs)) → W.ownsRow w.heap.size 25 5 (.slice (some ⟨h', 0, none⟩) m ch') m (cellsF (B.isort keyF hs)) → Calls Try.prog 14 #[.slice (some ⟨h, 0, none⟩) m ch, .slice (some ⟨h', 0, none⟩) m ch'] W (fun e w' => e = .returned (.bool true) ∧ Below W.heap.size W w') from fun h ch h' ch' W q1 q2 => by
          have hil : (B.isort keyF hs).length = m := by rw [B.isort_length, HM.out]
          have := refsame_any h 0 ch h' 0 ch' (B.isort keyF hs) (B.isort keyF hs) W (by rw [hil, HM.out]; omega) (by rw [hil, HM.out]; omega) (by rw [← hil] at q1; exact own_row q1) (q1.lt _ rfl).2 (by rw [← hil] at q2; exact own_row q2) (q2.lt _ rfl).2
          rw [hil, decide_eq_true rfl] at this
          exact this)
        rcases Nat.eq_zero_or_pos hs.length with h0 | h0
        · have CC := Lib.hid (show ∀ W, CT w g1 cap1 hs f g W → Calls Try.prog 11 #[.slice (some ⟨g1, 0, none⟩) m cap1] W (fun e w' => e = .returned (.tuple #[.slice none 0 0, .slice none 0 0, .int .i64 1]) ∧ Below W.heap.size W w') from fun W h => by
            rw [HM.out]; exact contest_no g1 0 cap1 hs W (by omega) (own_row h.own) (h.own.lt _ rfl).2 (.inr h0))
          obtain rfl : m = 0 := by rw [HM.out]; exact h0
          clear h0 ha hl
          go_wp2_with (first
            | (go_at_call 11; (with_reducible refine (CC.out _ hC.out).mono ?_); rintro e W2 ⟨rfl, hb⟩; (replace hC := Lib.hid (hC.out.keep hb)))
            | (go_at_call 12; (with_reducible refine (CO.out _ hC.out).mono ?_); rintro e W2 ⟨oh, oc, rfl, hor, hb⟩; (replace hC := Lib.hid (hC.out.keep hb)))
            | (go_at_call 13; (with_reducible refine (CW.out _ hC.out).mono ?_); rintro e W2 ⟨rfl, hb⟩; (replace hC := Lib.hid (hC.out.keep hb)); (replace hor := own_keep5 hor hb))
            | (go_at_call 15; (with_reducible refine (CX.out _ hC.out).mono ?_); rintro e W2 ⟨rh, rc, rfl, hrr, hb⟩; (replace hC := Lib.hid (hC.out.keep hb)); (replace hor := own_keep5 hor hb))
            | (go_at_call 14; (with_reducible refine (CS.out _ _ _ _ _ hor hrr).mono ?_); rintro e W2 ⟨rfl, hb⟩; (replace hC := Lib.hid (hC.out.keep hb))))
          go_ret
          exact ⟨rfl, hC.out.bel⟩
        · have hlp : 0 < (leftF hs h0).length := leftF_pos
          have CC := Lib.hid (show ∀ W, CT w g1 cap1 hs f g W → Calls Try.prog 11 #[.slice (some ⟨g1, 0, none⟩) m cap1] W (fun e w' => ∃ gl cl go co, e = .returned (.tuple #[.slice (some ⟨gl, 0, none⟩) (leftF hs h0).length cl, .slice (some ⟨go, 0, none⟩) m co, .int .i64 0]) ∧ w'.ownsRow w.heap.size 3 1 (.slice (some ⟨gl, 0, none⟩) (leftF hs h0).length cl) (leftF hs h0).length (natV (leftF hs h0)) ∧ w'.ownsRow w.heap.size 3 1 (.slice (some ⟨go, 0, none⟩) m co) m (intV (lostF hs h0)) ∧ Below W.heap.size W w') from fun W h => by
            rw [HM.out]
            refine (contest_yes g1 0 cap1 hs W (by omega) (own_row h.own) (h.own.lt _ rfl).2 ha h0).mono ?_
            rintro e w' ⟨vl, vo, rfl, hol, hoo, hb⟩
            obtain ⟨gl, cl, rfl, _, _⟩ := own_form hol (own_not_nil hol hlp)
            obtain ⟨go, co, rfl, _, _⟩ := own_form hoo (own_not_nil hoo h0)
            exact ⟨gl, cl, go, co, rfl, own_base hol h.bel.size, own_base hoo h.bel.size, hb⟩)
          have hm0 : 0 < m := by rw [HM.out]; exact h0
          have hm1 : ((m : Int) == 0) = false := beq_eq_false_iff_ne.2 (by omega)
          have HA := Lib.hid ha
          have hlen : (leftF hs h0).length ≤ 1000000 := by
            have : (leftF hs h0).length ≤ (List.range hs.length).length := by unfold leftF; exact List.length_filter_le _ _
            rw [List.length_range] at this
            omega
          have HLF := Lib.hid hlen
          obtain ⟨ll, hll⟩ : ∃ ll, ll = (leftF hs h0).length := ⟨_, rfl⟩
          rw [← hll] at CC hlen hlp
          have HLL := Lib.hid hll
          have hm10 : m ≤ 10 := by rw [HM.out]; exact hl
          clear ha hl hll
          go_wp2_with (first
            | (go_at_call 11; (with_reducible refine (CC.out _ hC.out).mono ?_); rintro e W2 ⟨gl, cl, go, co, rfl, hol, hoo, hb⟩; (replace hC := Lib.hid (hC.out.keep hb)))
            | (go_at_call 12; (with_reducible refine (CO.out _ hC.out).mono ?_); rintro e W2 ⟨oh, oc, rfl, hor, hb⟩; (replace hC := Lib.hid (hC.out.keep hb)); (replace hol := own_keep5 hol hb); (replace hoo := own_keep5 hoo hb))
            | (go_at_call 13; (with_reducible refine (CW.out _ hC.out).mono ?_); rintro e W2 ⟨rfl, hb⟩; (replace hC := Lib.hid (hC.out.keep hb)); (replace hol := own_keep5 hol hb); (replace hoo := own_keep5 hoo hb); (replace hor := own_keep5 hor hb))
            | (go_at_call 15; (with_reducible refine (CX.out _ hC.out).mono ?_); rintro e W2 ⟨rh, rc, rfl, hrr, hb⟩; (replace hC := Lib.hid (hC.out.keep hb)); (replace hol := own_keep5 hol hb); (replace hoo := own_keep5 hoo hb); (replace hor := own_keep5 hor hb))
            | (go_at_call 14; (with_reducible refine (CS.out _ _ _ _ _ hor hrr).mono ?_); rintro e W2 ⟨rfl, hb⟩; (replace hC := Lib.hid (hC.out.keep hb)); (replace hol := own_keep5 hol hb); (replace hoo := own_keep5 hoo hb)))
          have HZ : Hid (∀ j, j < m → ∃ (x : FX) (v : Int), x.may = true ∧ hs[j]? = some x ∧ (lostF hs h0)[j]? = some v ∧ ((j ∈ leftF hs h0 ∧ v = -1) ∨ (¬ j ∈ leftF hs h0 ∧ 0 ≤ v)) ∧ (∀ W, CT w g1 cap1 hs f g W → Calls Try.prog 16 #[.slice (some ⟨g1, 0, none⟩) m cap1, .agg x.v] W (fun e w' => e = .returned (.int .i64 v) ∧ Below W.heap.size W w'))) := Lib.hid (fun j hj => by
            have hj2 : j < hs.length := by rw [← HM.out]; exact hj
            have hxm : hs[j].may = true := (List.all_eq_true.1 HA.out) _ (List.getElem_mem hj2)
            refine ⟨hs[j], (lostF hs h0)[j]'(by rw [lostF_len]; exact hj2), hxm, List.getElem?_eq_getElem hj2, List.getElem?_eq_getElem _, ?_, ?_⟩
            · by_cases hm : j ∈ leftF hs h0
              · exact .inl ⟨hm, lostF_in hj2 hm⟩
              · exact .inr ⟨hm, lostF_out hj2 hm⟩
            · intro W h
              have := reflost_any g1 0 cap1 hs hs[j] W (by have := HM.out; omega) (own_row h.own) (h.own.lt _ rfl).2 hxm HA.out h0
              rw [lostF_at hj2, HM.out]
              exact this)
          have HK := Lib.hid (show ∀ j, j < m → j ∈ leftF hs h0 → cntF hs h0 (j + 1) = cntF hs h0 j + 1 ∧ (leftF hs h0)[cntF hs h0 j]? = some j from fun j hj hm => cntF_yes (by rw [← HM.out]; exact hj) hm)
          have HK0 := Lib.hid (show cntF hs h0 m = ll by rw [HM.out, HLL.out]; exact cntF_all hs h0)
          clear CC CO CX CW CS hor hrr HA HLF hlp
          go_loopw [15, 151] (fun kk jj wr => ∃ j : Nat, j ≤ m ∧ jj = .int .i64 j ∧ kk = .int .i64 (cntF hs h0 j : Nat) ∧ CT w g1 cap1 hs f g wr ∧ wr.ownsRow w.heap.size 3 1 (.slice (some ⟨gl, 0, none⟩) ll cl) ll (natV (leftF hs h0)) ∧ wr.ownsRow w.heap.size 3 1 (.slice (some ⟨go, 0, none⟩) m co) m (intV (lostF hs h0))) (fun _ jj _ => m - (intOf jj).toNat)
          case atStart => exact ⟨0, by omega, rfl, rfl, hC.out, hol, hoo⟩
          case round =>
            clear hC hol hoo
            obtain ⟨j, hj, rfl, rfl, hct, hol, hoo⟩ := hrel
            obtain ⟨k, hk⟩ : ∃ k, k = cntF hs h0 j := ⟨_, rfl⟩
            rw [← hk]
            have HKJ := Lib.hid hk
            clear hk
            by_cases hlt : j < m
            · obtain ⟨x, v, hxm, hx, hv, hin, hL⟩ := HZ.out j hlt
              have hr := own_row hct.own j (by rw [← HM.out]; exact hlt)
              have hxe : hs[j]'(by rw [← HM.out]; exact hlt) = x := by
                have := List.getElem?_eq_getElem (l := hs) (i := j) (by rw [← HM.out]; exact hlt)
                rw [this] at hx; exact Option.some.inj hx
              rw [hxe, show 0 + j * 5 = j * 5 by omega] at hr
              obtain ⟨c0, c1, c2, c3, c4⟩ := hr
              have HV := Lib.hid hv
              have hgl := (hct.own.lt _ rfl).2
              have hmm : (m : Int) ≤ 10 := by omega
              clear hv hx hxe hxm
              have KEEP : Hid (∀ W2, Below (wr.alloc (.cells x.v 25)).heap.size (wr.alloc (.cells x.v 25)) W2 → CT w g1 cap1 hs f g W2 ∧ W2.ownsRow w.heap.size 3 1 (.slice (some ⟨gl, 0, none⟩) ll cl) ll (natV (leftF hs h0)) ∧ W2.ownsRow w.heap.size 3 1 (.slice (some ⟨go, 0, none⟩) m co) m (intV (lostF hs h0)) ∧ W2.cell? ⟨go, j, none⟩ = some (.int .i64 v)) := Lib.hid (fun W2 hb => by
                have hoo2 := own_keep5 (own_keep5 hoo (al wr (.cells x.v 25))) hb
                refine ⟨(hct.keep (al _ _)).keep hb, own_keep5 (own_keep5 hol (al _ _)) hb, hoo2, ?_⟩
                rw [hoo2.cellAt j (by omega)]
                unfold intV
                rw [List.getElem?_map, HV.out]; rfl)
              have HL := Lib.hid (fun W h => hL W h)
              have hct2 := Lib.hid (hct.keep (al wr (.cells x.v 25)))
              clear hct hol hoo hL
              rcases hin with ⟨hm, rfl⟩ | ⟨hm, hv0⟩
              · obtain ⟨h1, h2⟩ := HK.out j hlt hm
                rw [← HKJ.out] at h1 h2
                have hkl : k < ll := by
                  rw [HLL.out]
                  exact (List.getElem?_eq_some_iff.1 h2).1
                have H1 := Lib.hid h1
                have KC : Hid (∀ W2 : World, W2.ownsRow w.heap.size 3 1 (.slice (some ⟨gl, 0, none⟩) ll cl) ll (natV (leftF hs h0)) → W2.cell? ⟨gl, k, none⟩ = some (.int .i64 (j : Int))) := Lib.hid (fun W2 h => by
                  rw [h.cellAt k (by omega)]
                  unfold natV
                  rw [List.getElem?_map, h2]; rfl)
                clear h1 h2 hm
                go_wp2_with (go_at_call 16; (with_reducible refine (HL.out _ hct2.out).mono ?_); rintro e W2 ⟨rfl, hb⟩; obtain ⟨k1, k2, k3, k4⟩ := KEEP.out W2 hb; have k5 := KC.out W2 k2)
                go_roundw
                case rel => exact ⟨j + 1, hlt, by go_num, by rw [H1.out]; go_num, k1, k2, k3⟩
                case measure => simp [intOf]; omega
              · have h1 := Lib.hid (cntF_no (h0 := h0) hm)
                have hv1 : ¬ v < 0 := by omega
                have HKN : Hid (cntF hs h0 (j + 1) = k) := Lib.hid (by rw [h1.out, HKJ.out])
                clear hm h1
                go_wp2_with (go_at_call 16; (with_reducible refine (HL.out _ hct2.out).mono ?_); rintro e W2 ⟨rfl, hb⟩; obtain ⟨k1, k2, k3, k4⟩ := KEEP.out W2 hb)
                go_roundw
                case rel => exact ⟨j + 1, hlt, by go_num, by rw [HKN.out], k1, k2, k3⟩
                case measure => simp [intOf]; omega
            · obtain rfl : j = m := by omega
              have hkl : k = ll := by rw [HKJ.out]; exact HK0.out
              have hlt' : ¬ (j : Int) < j := by omega
              subst hkl
              clear HLL HKJ HZ HK HK0 HM
              go_wp2
              go_ret
              exact ⟨rfl, hct.bel⟩
end Go.Proofs.Ythgbfidghhlldab
