/- The walk of package bits' Flip. -/
import Derived.Test.YtfnofajglbjgjaaBitsA
import Derived.Test.YtfnofajglbjgjaaFlip1
import Derived.Test.YtfnofajglbjgjaaBytes
namespace Go.Proofs.Ytfnofajglbjgjaa
open Go.RowKit Go.Lib

/-- the numbers zs lie from cell off of block b on -/
def RowI (w : World) (b off : Nat) (zs : List Int) : Prop := ∀ i, i < zs.length → w.cell? ⟨b, off + i, none⟩ = some (.int .i64 (zs.getD i 0))

set_option maxHeartbeats 400000 in
theorem flip_wrong (s : ByteArray) (A : Option Addr) (n cap : Nat) (w : World) (hs : s.size ≤ maxLen) (hr : B.right s = false) :
    Calls Try.prog 20 #[.string s, .slice A n cap] w fun e w' => e = .returned (.tuple #[.string ⟨#[]⟩, .int .i64 1]) ∧ w = w' := by
  go_enter Try.func20, Try.ntmps20
  go_wp2_with (go_at_call 11; (with_reducible refine (right_any _ _ hs).mono ?_); rintro e w' ⟨rfl, rfl⟩)
  go_ret2
  exact ⟨rfl, rfl⟩

set_option maxHeartbeats 400000 in
theorem flip_none (s : ByteArray) (A : Option Addr) (cap : Nat) (w : World) (hr : B.right s = true) :
    Calls Try.prog 20 #[.string s, .slice A 0 cap] w fun e w' => e = .returned (.tuple #[.string s, .int .i64 0]) ∧ Below w.heap.size w w' := by
  have hsz := B.right_size hr
  have hs : s.size ≤ maxLen := by unfold maxLen; omega
  have hconv := Lib.run_convert_string_bytes (P := Try.prog) w 9 52 5 s Try.underlying9 Try.underlying52 Try.underlying5
  have hrow := bytesWorld_row w 5 s
  have hbel := bytesWorld_below w 5 s
  have hfin := RowB.back (P := Try.prog) (cap := grownCap w s.size 0 5) (k := s.size) 52 9 (B.size_len s) Try.underlying52 Try.underlying5 Try.underlying9 hrow
  clear hrow
  go_enter Try.func20, Try.ntmps20
  go_wp2_with (go_at_call 11; (with_reducible refine (right_any _ _ hs).mono ?_); rintro e w' ⟨rfl, rfl⟩)
  refine wp_loop_rounds 1 ?_
  rw [rounds_succ]
  go_wp2
  go_ret2
  exact ⟨rfl, hbel⟩

/-- what Flip answers of a row that may be -/
def flipEnd (s : ByteArray) (zs : List Int) : Ending := if B.places s.size zs then .returned (.tuple #[.string ⟨(B.flips s.data.toList zs).toArray⟩, .int .i64 0]) else .returned (.tuple #[.string ⟨#[]⟩, .int .i64 1])
theorem flipEnd_yes {s : ByteArray} {zs : List Int} (h : B.places s.size zs = true) : flipEnd s zs = .returned (.tuple #[.string ⟨(B.flips s.data.toList zs).toArray⟩, .int .i64 0]) := by unfold flipEnd; rw [if_pos h]
theorem flipEnd_no {s : ByteArray} {zs : List Int} (h : B.places s.size zs = false) : flipEnd s zs = .returned (.tuple #[.string ⟨#[]⟩, .int .i64 1]) := by unfold flipEnd; rw [h]; rfl

set_option maxHeartbeats 1000000 in
theorem flip_any (s : ByteArray) (b off cap : Nat) (zs : List Int) (w : World) (hr : B.right s = true) (hn : zs.length ≤ maxLen) (hc : RowI w b off zs) (hb0 : b < w.heap.size) :
    Calls Try.prog 20 #[.string s, .slice (some ⟨b, off, none⟩) zs.length cap] w fun e w' =>
      e = flipEnd s zs ∧ Below w.heap.size w w' := by
  have hsz := B.right_size hr
  have hs : s.size ≤ maxLen := by unfold maxLen; omega
  have hconv := Lib.run_convert_string_bytes (P := Try.prog) w 9 52 5 s Try.underlying9 Try.underlying52 Try.underlying5
  have hrow := bytesWorld_row w 5 s
  have hbel := bytesWorld_below w 5 s
  obtain ⟨n, hln⟩ : ∃ n, zs.length = n := ⟨_, rfl⟩
  unfold maxLen at hn
  rw [hln] at hn ⊢
  have HL := Lib.hid hln
  have HC := Lib.hid hc
  clear hc hln
  go_enter Try.func20, Try.ntmps20
  go_wp2_with (go_at_call 11; (with_reducible refine (right_any _ _ hs).mono ?_); rintro e w' ⟨rfl, rfl⟩)
  go_loopw [16] (fun i wr => ∃ k : Nat, k ≤ n ∧ i = .int .i64 k ∧ RowB wr w.heap.size (B.flips s.data.toList (zs.take k)) ∧ B.preP s.size zs k ∧ Below w.heap.size w wr) (fun i _ => n - (RowKit.intOf i).toNat)
  case atStart => exact ⟨0, Nat.zero_le _, rfl, hrow, B.preP_zero _ _, hbel⟩
  case round =>
    obtain ⟨k, hk, rfl, hrw, hp, hb⟩ := hrel
    clear hconv hrow hbel
    by_cases hlt : k < n
    · have hx := HC.out k (by rw [HL.out]; exact hlt)
      rw [← hb.cell (p := ⟨b, off + k, none⟩) hb0] at hx
      obtain ⟨z, hz⟩ : ∃ z, zs.getD k 0 = z := ⟨_, rfl⟩
      rw [hz] at hx
      by_cases hin : 0 ≤ z ∧ z < s.size
      · obtain ⟨h0, h1⟩ := hin
        obtain ⟨j, rfl⟩ := Int.eq_ofNat_of_zero_le h0
        have hjs : j < s.size := by omega
        have hlen : (B.flips s.data.toList (zs.take k)).length = s.size := by rw [B.flips_length, B.size_len]
        have hp' := B.preP_succ (by rw [HL.out]; exact hlt) hp (by rw [hz]; exact h0) (by rw [hz]; exact h1)
        have hfs := B.flips_succ s.data.toList zs k (by rw [HL.out]; exact hlt)
        rw [hz, Int.toNat_natCast, B.modify_set (by rw [hlen]; exact hjs)] at hfs
        have hce := hrw.cell j _ (List.getElem?_eq_getElem (by rw [hlen]; exact hjs))
        have hfr := hrw.free j (by rw [hlen]; exact hjs)
        have hok : B.okc (B.flips s.data.toList (zs.take k))[j] = true := List.all_eq_true.1 (B.flips_all (B.right_all hr) _) _ (List.getElem_mem _)
        have hst := hrw.set j (by rw [hlen]; exact hjs) (B.turn (B.flips s.data.toList (zs.take k))[j])
        rw [← hfs] at hst
        have hxr := B.turn_step hok
        obtain ⟨c, hcc⟩ : ∃ c, (B.flips s.data.toList (zs.take k))[j] = c := ⟨_, rfl⟩
        rw [hcc] at hce hst hxr
        have HST := Lib.hid hst
        clear hst hok hcc hfs hlen hp hrw hz
        go_wp2
        go_roundw
        case rel => exact ⟨k + 1, by omega, by go_num, HST.out, hp', hb.setCell (Nat.le_refl _) _⟩
        case measure => simp [RowKit.intOf]; omega
      · have hbad := Lib.hid (B.places_bad (n := s.size) (zs := zs) (k := k) (by rw [HL.out]; exact hlt) (by rw [hz]; exact hin))
        clear hz hp hrw
        by_cases h0 : z < 0
        · clear hin
          go_wp2
          go_ret2
          exact ⟨(flipEnd_no hbad.out).symm, hb⟩
        · have h1 : (s.size : Int) ≤ z := by omega
          clear hin
          go_wp2
          go_ret2
          exact ⟨(flipEnd_no hbad.out).symm, hb⟩
    · have hgood := Lib.hid (B.preP_full (by rw [HL.out, show n = k from by omega]; exact hp))
      have hall : zs.take k = zs := List.take_of_length_le (by rw [HL.out]; omega)
      rw [hall] at hrw
      have hfin := RowB.back (P := Try.prog) (cap := grownCap w s.size 0 5) (k := s.size) 52 9 (by rw [B.flips_length, B.size_len]) Try.underlying52 Try.underlying5 Try.underlying9 hrw
      clear hall hrw hp
      go_wp2
      go_ret2
      exact ⟨(flipEnd_yes hgood.out).symm, hb⟩
end Go.Proofs.Ytfnofajglbjgjaa
