/- Plain facts on rows of dominant bits. No Go, no program. -/
import Derived.Test.YtdgobggepcmojaaBurst
namespace Go.Proofs.Ytdgobggepcmojaa.B
open Go.RowKit

/-- k dominant bits -/
def zs (k : Nat) : ByteArray := ⟨(List.replicate k (48 : UInt8)).toArray⟩
theorem zs_list (k : Nat) : (zs k).data.toList = List.replicate k (48 : UInt8) := rfl
theorem zs_size (k : Nat) : (zs k).size = k := by rw [← size_len, zs_list, List.length_replicate]
theorem zs_succ (k : Nat) : zs k ++ ⟨#[48]⟩ = zs (k + 1) := by
  apply ByteArray.ext; apply Array.ext'
  rw [ByteArray.data_append, Array.toList_append, zs_list, zs_list, List.replicate_succ']
theorem zs_all (k : Nat) : (zs k).data.toList.all okc = true := by
  rw [zs_list, List.all_eq_true]
  intro c hc
  rw [(List.mem_replicate.1 hc).2]; rfl
theorem zs_right {k : Nat} (h : k ≤ 4000) : right (zs k) = true := by
  unfold right
  rw [zs_all, zs_size]; simp [h]
theorem crc_zs (k : Nat) : crc 0 (zs k).data.toList = 0 := by
  unfold crc
  rw [zs_list, List.map_replicate]
  exact sumB_zeros k
theorem sum_zs (k : Nat) : sum (zs k) = 0 := crc_zs k
theorem sum_zs_cat (k : Nat) (s : ByteArray) : sum (zs k ++ s) = sum s := by
  unfold sum
  rw [cat_list, crc_append, crc_zs]
theorem cat_right {a b : ByteArray} (ha : right a = true) (hb : right b = true) (h : a.size + b.size ≤ 4000) : right (a ++ b) = true := by
  unfold right
  rw [cat_list, List.all_append, right_all ha, right_all hb, ByteArray.size_append]
  simp [h]
theorem check_zs {k : Nat} (h : k ≤ 4000) : check (zs k) = decide (15 ≤ k) := by
  unfold check
  rw [zs_size, zs_right h, sum_zs]; simp
theorem framed_zero {s : ByteArray} (h : sum s = 0) : framed s = s ++ ⟨#[48, 48, 48, 48, 48, 48, 48, 48, 48, 48, 48, 48, 48, 48, 48]⟩ := by
  unfold framed
  rw [h]; rfl
theorem check_zs_cat {k : Nat} {s : ByteArray} (hs : right s = true) (h : k + s.size ≤ 4000) (h0 : sum s = 0) (h15 : 15 ≤ s.size) : check (zs k ++ s) = true := by
  unfold check
  rw [cat_right (zs_right (by omega)) hs (by rw [zs_size]; exact h), sum_zs_cat, h0, ByteArray.size_append, zs_size]
  simp; omega
end Go.Proofs.Ytdgobggepcmojaa.B
