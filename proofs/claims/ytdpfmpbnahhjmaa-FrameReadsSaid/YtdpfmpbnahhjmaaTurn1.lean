/- Plain facts on a turned bit. No Go, no program. -/
import Derived.Test.YtdpfmpbnahhjmaaFlip1
import Derived.Lib.Strings
namespace Go.Proofs.Ytdpfmpbnahhjmaa.B

/-- a bit turned by cutting -/
def turnB (s : ByteArray) (i : Nat) : ByteArray := ⟨(s.data.toList.modify i turn).toArray⟩

theorem turnB_eq {s : ByteArray} {i : Nat} (h : i < s.size) (c : UInt8) (hc : turn s[i] = c) : s.extract 0 i ++ ⟨#[c]⟩ ++ s.extract (i + 1) s.size = turnB s i := by
  apply ByteArray.ext; apply Array.ext'
  rw [ByteArray.data_append, Array.toList_append, ByteArray.data_append, Array.toList_append]
  have hl : i < s.data.toList.length := by rw [size_len]; exact h
  have e1 : (s.extract 0 i).data.toList = s.data.toList.take i := by rw [Lib.extract_data]; simp
  have e2 : (s.extract (i + 1) s.size).data.toList = s.data.toList.drop (i + 1) := by
    rw [Lib.extract_data, List.take_of_length_le (by rw [List.length_drop, size_len]; omega)]
  rw [e1, e2]
  show s.data.toList.take i ++ [c] ++ s.data.toList.drop (i + 1) = s.data.toList.modify i turn
  rw [List.modify_eq_take_cons_drop hl, ← hc]
  simp
  rfl

end Go.Proofs.Ytdpfmpbnahhjmaa.B
