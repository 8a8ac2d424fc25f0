/- Package frame's reader: head. -/
import Derived.Test.YtdpfmpbnahhjmaaReader
import Derived.Test.YtdpfmpbnahhjmaaFrame4
import Derived.Test.YtdpfmpbnahhjmaaSize4
import Derived.Test.YtdpfmpbnahhjmaaSum
namespace Go.Proofs.Ytdpfmpbnahhjmaa
open Go.RowKit Go.Lib
attribute [local go_sem ↓] Go.wp_at_zero Go.wp_at_succ

theorem B.nextB_other {b n : Nat} {d : List UInt8} {c : UInt8} (h : kind (b, n) c.toNat = 2) : nextB (b, n) d c = d := by unfold nextB; rw [if_neg (by omega)]
theorem B.nextB_data {b n : Nat} {d : List UInt8} {c : UInt8} (h : kind (b, n) c.toNat = 1) : nextB (b, n) d c = d ++ [c] := by unfold nextB; rw [if_pos h]
/-- take, of a bit that may stand there -/
theorem take4_ok (row : ByteArray) (d : List UInt8) (k b n : Nat) (g : Nat) (w : World) (h4 : row.size ≤ 4000) (hd : d.length ≤ 4000) (hlt : k < row.size) (hm : B.mayB b n = true) (hc : B.okc row[k] = true) (hk : B.kind (b, n) row[k].toNat ≠ 3) (hB : Blk w g (rdV row k b n ⟨d.toArray⟩) 67) :
    Calls Try.prog 55 #[.pointer (some ⟨g, 0, none⟩)] w fun e w' => e = .returned (.int .i64 0) ∧ Blk w' g (rdV row (k + 1) (B.kn (b, n) row[k].toNat).1 (B.kn (b, n) row[k].toNat).2 ⟨(B.nextB (b, n) d row[k]).toArray⟩) 67 ∧ Below g w w' := by
  rcases B.kind_le (b, n) row[k].toNat with h | h | h
  · rw [B.nextB_data h]
    have := take4_data row ⟨d.toArray⟩ k b n g w h4 (by rw [size_of]; exact hd) hlt hm hc h hB
    rwa [list_of] at this
  · rw [B.nextB_other h]
    exact take4_put row ⟨d.toArray⟩ k b n g w h4 hlt hm hc h hB
  · exact absurd h hk

/-- what head answers -/
def HeadPost (g : Nat) (row : ByteArray) (w : World) (R : List UInt8 × Nat × Nat) (e : Ending) (w' : World) : Prop := Below g w w' ∧
  ((R.2.2 ≠ 0 ∧ e = .returned (.tuple #[.string ⟨#[]⟩, .int .i64 R.2.2])) ∨
   (R.2.2 = 0 ∧ B.crc 0 R.1 ≠ 0 ∧ e = .returned (.tuple #[.string ⟨#[]⟩, .int .i64 11])) ∨
   (R.2.2 = 0 ∧ B.crc 0 R.1 = 0 ∧ e = .returned (.tuple #[.string ⟨(R.1.take (R.1.length - 15)).toArray⟩, .int .i64 0]) ∧ ∃ (b n : Int) (got : ByteArray), Blk w' g (rdV row R.2.1 b n got) 67))
/-- how many bits are left -/
def leftOf (row : ByteArray) (g : Nat) (w : World) : Nat := match w.cell? ⟨g, 1, none⟩ with
  | some v => row.size - (intOf v).toNat
  | none => 0
theorem left_of {row got : ByteArray} {g : Nat} {k b n : Int} {w : World} (h : Blk w g (rdV row k b n got) 67) : leftOf row g w = row.size - k.toNat := by
  unfold leftOf; rw [h.cell 1 _ rfl]; rfl

set_option maxRecDepth 100000 in
set_option maxHeartbeats 8000000 in
theorem rhead_any (row : ByteArray) (g : Nat) (w : World) (hr : B.right row = true) (hB : Blk w g (rdV row 0 0 0 ⟨#[]⟩) 67) :
    Calls Try.prog 39 #[.pointer (some ⟨g, 0, none⟩)] w (HeadPost g row w (B.goL (0, 0) [] 0 row.data.toList)) := by
  have h4 := B.right_size hr
  have hra := B.right_all hr
  have hlen : row.data.toList.length = row.size := B.size_len row
  obtain ⟨R, hR⟩ : ∃ R, R = B.goL (0, 0) [] 0 row.data.toList := ⟨_, rfl⟩
  rw [← hR]
  have HR := Lib.hid hR
  clear hR
  go_enter Try.func39, Try.ntmps39
  go_wp2
  go_loopw [4] (fun _ wr => ∃ (k b n : Nat) (d : List UInt8), k ≤ row.size ∧ B.At4 row.data.toList k (b, n) d ∧ Blk wr g (rdV row k b n ⟨d.toArray⟩) 67 ∧ Below g w wr) (fun _ wr => leftOf row g wr)
  case atStart => exact ⟨0, 0, 0, [], Nat.zero_le _, B.at_start _, hB, Below.refl _ _⟩
  case round =>
    clear hB
    obtain ⟨k, b, n, d, hk, hA, hB, hW⟩ := hrel
    have hall := B.all_take hra k
    have hmay := B.ust_may hall _ _ hA.us
    have hdl := B.ust_all hall _ _ hA.us
    rw [List.length_take, hlen] at hdl
    have hn5 : n ≤ 5 := by unfold B.may at hmay; simp only at hmay; omega
    have hmb := mayB_of hmay
    by_cases hlt : k < row.size
    · have hltL : k < row.data.toList.length := by omega
      have hok : B.okc row[k] = true := List.all_eq_true.1 hra _ (List.getElem_mem hltL)
      by_cases h3 : B.kind (b, n) row[k].toNat = 3
      · have hE := Lib.hid (hA.err hltL h3)
        have CT := Lib.hid (take4_err row ⟨d.toArray⟩ k b n g wr h4 hlt hmb hok h3 hB)
        clear hB hA hall hmay hdl hn5 hmb hok h3 hra hr
        go_wp2_with (go_at_call 55; (with_reducible refine CT.out.mono ?_); rintro e w1 ⟨rfl, _, hb⟩)
        go_ret2
        refine ⟨hW.trans hb, .inl ?_⟩
        rw [HR.out, hE.out]
        exact ⟨by simp, rfl⟩
      · have hq := B.nextB_all (x := (b, n)) hdl.1 hok
        have hql := B.nextB_length (x := (b, n)) (b := d) row[k]
        have hqn := hA.ne row[k]
        have CT := Lib.hid (take4_ok row d k b n g wr h4 (by omega) hlt hmb hok h3 hB)
        have hleft := left_of hB
        have eB := hA.isBad hltL h3
        have eS := hA.stop hltL h3
        have eN := fun hb hs => hA.next hltL h3 hb hs hn5
        have eF := hA.fits (c := row[k])
        have hy5 := B.kn_le (x := (b, n)) (c := row[k].toNat) hn5
        simp only [show row.data.toList[k] = row[k] from rfl] at eB eS eN eF
        obtain ⟨y, hy⟩ : ∃ y, y = (B.kn (b, n) row[k].toNat) := ⟨_, rfl⟩
        obtain ⟨q, hqq⟩ : ∃ q, q = B.nextB (b, n) d row[k] := ⟨_, rfl⟩
        rw [← hy] at CT hy5 eS eN
        rw [← hqq] at CT hq hql hqn eB eS eN eF
        obtain ⟨y1, y2⟩ := y
        simp only at hy5
        have hu0 : 0 < q.length := by rcases q with _ | _; exact absurd rfl hqn; simp
        have hbi := B.badB_iff hq hu0
        have hsi := B.stop_iff (y := (y1, y2)) (q := q) hy5 eF
        obtain ⟨u, hu⟩ : ∃ u : ByteArray, u = ⟨q.toArray⟩ := ⟨_, rfl⟩
        have hul : u.data.toList = q := by rw [hu, list_of]
        have hus : u.size = q.length := by rw [hu, size_of]
        rw [← hu] at CT
        have hur : B.right u = true := right_of_all (by omega) (by rw [hul]; exact hq)
        have hu0' : 0 < u.size := by omega
        have hu00 : u[0] = q[0] := by subst hu; exact getElem_of q 0 _
        have CS0 := fun w => size4_any u w hur
        have CC0 := fun w => check_any u w (by unfold maxLen; omega)
        rw [hul] at CS0
        obtain ⟨sz, er, hse⟩ : ∃ sz er, B.sizeL q = (sz, er) := ⟨_, _, rfl⟩
        have hser := B.size_err q
        rw [hse] at CS0 hbi hsi eF hser
        simp only at CS0 hbi hsi eF hser
        have hszb := B.size_le q
        rw [hse] at hszb
        simp only at hszb
        have hszi : (sz : Int) ≤ 103 := by omega
        have hlen4 : (u.size : Int) ≤ 4000 := by omega
        by_cases h48 : q[0] = 48
        · have e48 : ((u[0].toNat : Int) != 48) = false := by rw [hu00, h48]; rfl
          rcases hser with hz0 | hz0 | hz0
          · subst hz0
            have hbf : B.badB q = false := by rw [hbi]; simp [h48]
            by_cases hfit : sz + 15 ≤ q.length
            · have hfi : ¬ ((u.size : Int) < (sz : Int) + 15) := by omega
              by_cases hy55 : y2 = 5
              · have hy5t : ((y2 : Int) == 5) = true := by simp; omega
                have hsf : B.stopB (y1, y2) q = false := by rw [hsi]; simp [hy55]
                clear hy55
                have hNx := Lib.hid (eN hbf hsf)
                have hUL := Lib.hid hu
                have CS := Lib.hid CS0
                have hk1 : k + 1 ≤ row.size := hlt
                clear hbf hsf hu
                clear eB eS eN eF hbi hsi hq hql hqn hqq hul hur hu00 hse hy hB hA hall hmay hdl hn5 hmb h3 hok hra hr CS0 CC0
                go_wp2_with (first
                | (go_at_call 55; (with_reducible refine CT.out.mono ?_); rintro e w1 ⟨rfl, hB1, hb1⟩; have hz1 := hB1.lt; have c4 := hB1.cell 4 _ rfl)
                | (go_at_call 17; (with_reducible refine (CS.out _).mono ?_); rintro e w2 ⟨rfl, hb2⟩; have hB2 := hB1.keep hb2; have d4 := hB2.cell 4 _ rfl; have d3 := hB2.cell 3 _ rfl; replace hb1 := hb1.trans (hb2.mono (Nat.le_of_lt hz1)); clear hb2 c4 hz1)
                | (go_at_call 56; (with_reducible refine (CC.out _).mono ?_); rintro e w3 ⟨rfl, hb3⟩; have hz2 := hB2.lt; have hB3 := hB2.keep hb3; have f4 := hB3.cell 4 _ rfl; replace hb1 := hb1.trans (hb3.mono (Nat.le_of_lt hz2))))
                go_roundw
                case rel => exact ⟨k + 1, y1, y2, q, hk1, hNx.out, by rw [← hUL.out]; exact_mod_cast hB2, hW.trans hb1⟩
                case measure => rw [left_of hB2, hleft]; omega
              · have hst : B.stopB (y1, y2) q = true := by rw [hsi]; simp [hfit, hy55]
                have hy5f : ((y2 : Int) == 5) = false := by simp; omega
                have hE := Lib.hid (eS hbf hst)
                have hql2 := eF rfl
                have h15 : 15 ≤ u.size := by omega
                have hck := B.check_good h15 hur
                have hsum : B.sum u = B.crc 0 q := by unfold B.sum; rw [hul]
                have CS := Lib.hid CS0
                have hszu : (sz : Int) ≤ u.size := by omega
                have hcut : u.extract 0 sz = ⟨(q.take (q.length - 15)).toArray⟩ := bytes_eq (by rw [Lib.extract_data, hul, List.drop_zero, show q.length - 15 = sz - 0 from by omega])
                have HCUT := Lib.hid hcut
                by_cases hcr : B.crc 0 q = 0
                · have CC : Hid (∀ w, Calls Try.prog 56 #[.string u] w fun e w' => e = .returned (.bool true) ∧ Below w.heap.size w w') := Lib.hid (fun w => by have := CC0 w; rwa [← hck, hsum, hcr] at this)
                  have hcut2 := hcut
                  clear hbf hst hcut hql2 hck hsum hu hcut2
                  clear eB eS eN eF hbi hsi hq hql hqn hqq hul hur hu00 hse hy hB hA hall hmay hdl hn5 hmb h3 hok hra hr CS0 CC0
                  go_wp2_with (first
          | (go_at_call 55; (with_reducible refine CT.out.mono ?_); rintro e w1 ⟨rfl, hB1, hb1⟩; have hz1 := hB1.lt; have c4 := hB1.cell 4 _ rfl)
          | (go_at_call 17; (with_reducible refine (CS.out _).mono ?_); rintro e w2 ⟨rfl, hb2⟩; have hB2 := hB1.keep hb2; have d4 := hB2.cell 4 _ rfl; have d3 := hB2.cell 3 _ rfl; replace hb1 := hb1.trans (hb2.mono (Nat.le_of_lt hz1)); clear hb2 c4 hz1)
          | (go_at_call 56; (with_reducible refine (CC.out _).mono ?_); rintro e w3 ⟨rfl, hb3⟩; have hz2 := hB2.lt; have hB3 := hB2.keep hb3; have f4 := hB3.cell 4 _ rfl; replace hb1 := hb1.trans (hb3.mono (Nat.le_of_lt hz2))))
                  go_ret2
                  refine ⟨hW.trans hb1, .inr (.inr ?_)⟩
                  rw [HR.out, hE.out]
                  exact ⟨rfl, hcr, ret_str HCUT.out, y1, y2, u, by exact_mod_cast hB3⟩
                · have CC : Hid (∀ w, Calls Try.prog 56 #[.string u] w fun e w' => e = .returned (.bool false) ∧ Below w.heap.size w w') := Lib.hid (fun w => by
                    have := CC0 w
                    rwa [← hck, hsum, show (((B.crc 0 q : Nat) : Int) == 0) = false from by simp; omega] at this)
                  clear hbf hst hcut hql2 hck hsum hu
                  clear eB eS eN eF hbi hsi hq hql hqn hqq hul hur hu00 hse hy hB hA hall hmay hdl hn5 hmb h3 hok hra hr CS0 CC0
                  go_wp2_with (first
          | (go_at_call 55; (with_reducible refine CT.out.mono ?_); rintro e w1 ⟨rfl, hB1, hb1⟩; have hz1 := hB1.lt; have c4 := hB1.cell 4 _ rfl)
          | (go_at_call 17; (with_reducible refine (CS.out _).mono ?_); rintro e w2 ⟨rfl, hb2⟩; have hB2 := hB1.keep hb2; have d4 := hB2.cell 4 _ rfl; have d3 := hB2.cell 3 _ rfl; replace hb1 := hb1.trans (hb2.mono (Nat.le_of_lt hz1)); clear hb2 c4 hz1)
          | (go_at_call 56; (with_reducible refine (CC.out _).mono ?_); rintro e w3 ⟨rfl, hb3⟩; have hz2 := hB2.lt; have hB3 := hB2.keep hb3; have f4 := hB3.cell 4 _ rfl; replace hb1 := hb1.trans (hb3.mono (Nat.le_of_lt hz2))))
                  go_ret2
                  refine ⟨hW.trans hb1, .inr (.inl ?_)⟩
                  rw [HR.out, hE.out]
                  exact ⟨rfl, hcr, rfl⟩
            · have hfi : (u.size : Int) < (sz : Int) + 15 := by omega
              have hsf : B.stopB (y1, y2) q = false := by rw [hsi]; simp [hfit]
              have hNx := Lib.hid (eN hbf hsf)
              have hUL := Lib.hid hu
              have CS := Lib.hid CS0
              have hk1 : k + 1 ≤ row.size := hlt
              clear hbf hsf hu
              clear eB eS eN eF hbi hsi hq hql hqn hqq hul hur hu00 hse hy hB hA hall hmay hdl hn5 hmb h3 hok hra hr CS0 CC0
              go_wp2_with (first
              | (go_at_call 55; (with_reducible refine CT.out.mono ?_); rintro e w1 ⟨rfl, hB1, hb1⟩; have hz1 := hB1.lt; have c4 := hB1.cell 4 _ rfl)
              | (go_at_call 17; (with_reducible refine (CS.out _).mono ?_); rintro e w2 ⟨rfl, hb2⟩; have hB2 := hB1.keep hb2; have d4 := hB2.cell 4 _ rfl; have d3 := hB2.cell 3 _ rfl; replace hb1 := hb1.trans (hb2.mono (Nat.le_of_lt hz1)); clear hb2 c4 hz1)
              | (go_at_call 56; (with_reducible refine (CC.out _).mono ?_); rintro e w3 ⟨rfl, hb3⟩; have hz2 := hB2.lt; have hB3 := hB2.keep hb3; have f4 := hB3.cell 4 _ rfl; replace hb1 := hb1.trans (hb3.mono (Nat.le_of_lt hz2))))
              go_roundw
              case rel => exact ⟨k + 1, y1, y2, q, hk1, hNx.out, by rw [← hUL.out]; exact_mod_cast hB2, hW.trans hb1⟩
              case measure => rw [left_of hB2, hleft]; omega
          · obtain ⟨rfl, rfl⟩ := Prod.mk.inj hz0
            have hbf : B.badB q = false := by rw [hbi]; simp [h48]
            have hsf : B.stopB (y1, y2) q = false := by rw [hsi]; simp
            have hNx := Lib.hid (eN hbf hsf)
            have hUL := Lib.hid hu
            have CS := Lib.hid CS0
            have hk1 : k + 1 ≤ row.size := hlt
            clear hbf hsf hu
            clear eB eS eN eF hbi hsi hq hql hqn hqq hul hur hu00 hse hy hB hA hall hmay hdl hn5 hmb h3 hok hra hr CS0 CC0
            go_wp2_with (first
            | (go_at_call 55; (with_reducible refine CT.out.mono ?_); rintro e w1 ⟨rfl, hB1, hb1⟩; have hz1 := hB1.lt; have c4 := hB1.cell 4 _ rfl)
            | (go_at_call 17; (with_reducible refine (CS.out _).mono ?_); rintro e w2 ⟨rfl, hb2⟩; have hB2 := hB1.keep hb2; have d4 := hB2.cell 4 _ rfl; have d3 := hB2.cell 3 _ rfl; replace hb1 := hb1.trans (hb2.mono (Nat.le_of_lt hz1)); clear hb2 c4 hz1)
            | (go_at_call 56; (with_reducible refine (CC.out _).mono ?_); rintro e w3 ⟨rfl, hb3⟩; have hz2 := hB2.lt; have hB3 := hB2.keep hb3; have f4 := hB3.cell 4 _ rfl; replace hb1 := hb1.trans (hb3.mono (Nat.le_of_lt hz2))))
            go_roundw
            case rel => exact ⟨k + 1, y1, y2, q, hk1, hNx.out, by rw [← hUL.out]; exact_mod_cast hB2, hW.trans hb1⟩
            case measure => rw [left_of hB2, hleft]; omega
          · obtain ⟨rfl, rfl⟩ := Prod.mk.inj hz0

            have hE := Lib.hid (eB (by rw [hbi]; simp))
            have CS := Lib.hid CS0
            clear hu
            clear eB eS eN eF hbi hsi hq hql hqn hqq hul hur hu00 hse hy hB hA hall hmay hdl hn5 hmb h3 hok hra hr CS0 CC0
            go_wp2_with (first
            | (go_at_call 55; (with_reducible refine CT.out.mono ?_); rintro e w1 ⟨rfl, hB1, hb1⟩; have hz1 := hB1.lt; have c4 := hB1.cell 4 _ rfl)
            | (go_at_call 17; (with_reducible refine (CS.out _).mono ?_); rintro e w2 ⟨rfl, hb2⟩; have hB2 := hB1.keep hb2; have d4 := hB2.cell 4 _ rfl; have d3 := hB2.cell 3 _ rfl; replace hb1 := hb1.trans (hb2.mono (Nat.le_of_lt hz1)); clear hb2 c4 hz1)
            | (go_at_call 56; (with_reducible refine (CC.out _).mono ?_); rintro e w3 ⟨rfl, hb3⟩; have hz2 := hB2.lt; have hB3 := hB2.keep hb3; have f4 := hB3.cell 4 _ rfl; replace hb1 := hb1.trans (hb3.mono (Nat.le_of_lt hz2))))
            go_ret2
            refine ⟨hW.trans hb1, .inl ?_⟩
            rw [HR.out, hE.out]
            exact ⟨by simp, rfl⟩
        · have e48 : ((u[0].toNat : Int) != 48) = true := by
            rw [hu00]; simp only [bne_iff_ne, ne_eq]
            intro e; exact h48 (UInt8.toNat_inj.1 (show q[0].toNat = 48 by omega))

          have hnb := h48
          clear hser
          have hE := Lib.hid (eB (by rw [hbi]; simp [hnb]))
          have CS := Lib.hid CS0
          clear hu
          clear eB eS eN eF hbi hsi hq hql hqn hqq hul hur hu00 hse hy hB hA hall hmay hdl hn5 hmb h3 hok hra hr CS0 CC0
          go_wp2_with (first
          | (go_at_call 55; (with_reducible refine CT.out.mono ?_); rintro e w1 ⟨rfl, hB1, hb1⟩; have hz1 := hB1.lt; have c4 := hB1.cell 4 _ rfl)
          | (go_at_call 17; (with_reducible refine (CS.out _).mono ?_); rintro e w2 ⟨rfl, hb2⟩; have hB2 := hB1.keep hb2; have d4 := hB2.cell 4 _ rfl; have d3 := hB2.cell 3 _ rfl; replace hb1 := hb1.trans (hb2.mono (Nat.le_of_lt hz1)); clear hb2 c4 hz1)
          | (go_at_call 56; (with_reducible refine (CC.out _).mono ?_); rintro e w3 ⟨rfl, hb3⟩; have hz2 := hB2.lt; have hB3 := hB2.keep hb3; have f4 := hB3.cell 4 _ rfl; replace hb1 := hb1.trans (hb3.mono (Nat.le_of_lt hz2))))
          go_ret2
          refine ⟨hW.trans hb1, .inl ?_⟩
          rw [HR.out, hE.out]
          exact ⟨by simp, rfl⟩
    · have hE := Lib.hid (hA.short (by omega))
      have hks : k = row.size := by omega
      subst hks
      have CT := Lib.hid (take4_short row ⟨d.toArray⟩ b n g wr hB)
      clear hB hA hall hmay hdl hn5 hmb hra hr
      go_wp2_with (go_at_call 55; (with_reducible refine CT.out.mono ?_); rintro e w1 ⟨rfl, _, hb⟩)
      go_ret2
      refine ⟨hW.trans hb, .inl ?_⟩
      rw [HR.out, hE.out]
      exact ⟨by simp, rfl⟩
end Go.Proofs.Ytdpfmpbnahhjmaa
