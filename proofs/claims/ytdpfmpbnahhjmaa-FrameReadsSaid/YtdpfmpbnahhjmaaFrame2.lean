/- Plain facts on frames: the head of a frame, and the frame of a head. No Go, no program. -/
import Derived.Test.YtdpfmpbnahhjmaaFrame1
namespace Go.Proofs.Ytdpfmpbnahhjmaa.B

structure Fr where
  id : Nat
  ext : Bool
  remote : Bool
  dlc : Nat
  data : List UInt8
theorem Fr.same {f g : Fr} (h1 : f.id = g.id) (h2 : f.ext = g.ext) (h3 : f.remote = g.remote) (h4 : f.dlc = g.dlc) (h5 : f.data = g.data) : f = g := by
  cases f; cases g; simp_all
/-- may it be -/
def FrR (f : Fr) : Prop := f.dlc ≤ 8 ∧ (if f.remote then f.data = [] else f.data.length = f.dlc) ∧ f.id < (if f.ext then 536870912 else 2048)

def rb (b : Bool) : UInt8 := if b then 49 else 48
theorem rb_okc (b : Bool) : okc (rb b) = true := by cases b <;> rfl
theorem rb_iff (b : Bool) : (rb b == 49) = b := by cases b <;> rfl
theorem rb_49 (b : Bool) : rb b = 49 ↔ b = true := by cases b <;> decide
def idL (f : Fr) : List UInt8 := if f.ext then (ofl f.id 29).take 11 ++ [49, 49] ++ (ofl f.id 29).drop 11 else ofl f.id 11
def dataL (d : List UInt8) : List UInt8 := d.flatMap fun c => ofl c.toNat 8
def preL (f : Fr) : List UInt8 := [48] ++ idL f ++ [rb f.remote, 48, 48] ++ ofl f.dlc 4
def headL (f : Fr) : List UInt8 := preL f ++ dataL f.data
def base (f : Fr) : Nat := if f.ext then 39 else 19

theorem dataL_length (d : List UInt8) : (dataL d).length = 8 * d.length := by
  induction d with
  | nil => rfl
  | cons c d ih =>
    have e : dataL (c :: d) = ofl c.toNat 8 ++ dataL d := by simp [dataL]
    rw [e, List.length_append, ofl_length, ih, List.length_cons]; omega
theorem idL_length (f : Fr) : (idL f).length = if f.ext then 31 else 11 := by
  unfold idL; split <;> simp [ofl_length]
theorem preL_length (f : Fr) : (preL f).length = base f := by
  unfold preL base
  simp only [List.length_append, idL_length, ofl_length, List.length_cons, List.length_nil]
  split <;> rfl
theorem headL_length (f : Fr) : (headL f).length = base f + 8 * f.data.length := by
  unfold headL; rw [List.length_append, preL_length, dataL_length]
theorem dataL_all (d : List UInt8) : (dataL d).all okc = true := by
  rw [List.all_eq_true]; intro c hc
  obtain ⟨x, _, hx⟩ := List.mem_flatMap.1 hc
  exact List.all_eq_true.1 (ofl_all _ _) c hx
theorem idL_all (f : Fr) : (idL f).all okc = true := by
  unfold idL
  have h := ofl_all f.id 29
  split
  · rw [List.all_append, List.all_append, all_take h]
    have : ((ofl f.id 29).drop 11).all okc = true := by
      rw [List.all_eq_true] at *; intro x hx; exact h x (List.mem_of_mem_drop hx)
    rw [this]; rfl
  · exact ofl_all _ _
theorem headL_all (f : Fr) : (headL f).all okc = true := by
  unfold headL preL
  simp only [List.all_append, idL_all, ofl_all, dataL_all, List.all_cons, List.all_nil, rb_okc]
  rfl
theorem headL_head (f : Fr) (q : List UInt8) : (headL f ++ q).head? = some 48 := rfl

/-- places in rows that are put together -/
theorem bitAt_right {a : List UInt8} {i : Nat} (h : a.length ≤ i) (b : List UInt8) : bitAt (a ++ b) i = bitAt b (i - a.length) := by
  unfold bitAt; rw [List.getD_eq_getElem?_getD, List.getD_eq_getElem?_getD, List.getElem?_append_right h]
theorem cutL_right {a : List UInt8} {i j : Nat} (h : a.length ≤ i) (b : List UInt8) : cutL (a ++ b) i j = cutL b (i - a.length) (j - a.length) := by
  unfold cutL
  rw [List.drop_take, List.drop_append, List.drop_of_length_le h, List.nil_append, List.drop_take]
  congr 1; omega
theorem cutL_whole (a b : List UInt8) : cutL (a ++ b) 0 a.length = a := by
  unfold cutL; rw [List.drop_zero, List.take_left]
theorem cutL_at (a b c : List UInt8) (i j : Nat) (hi : i = a.length) (hj : j = a.length + b.length) : cutL (a ++ (b ++ c)) i j = b := by
  subst hi hj
  rw [cutL_right (Nat.le_refl _), Nat.sub_self, show a.length + b.length - a.length = b.length from by omega, cutL_whole]

theorem head_13 (f : Fr) (q : List UInt8) : bitAt (headL f ++ q) 13 = if f.ext then 49 else 48 := by
  have e : headL f ++ q = ([48] ++ idL f) ++ ([rb f.remote, 48, 48] ++ (ofl f.dlc 4 ++ (dataL f.data ++ q))) := by unfold headL preL; simp
  rw [e]
  cases he : f.ext
  · have hl : ([48] ++ idL f : List UInt8).length = 12 := by rw [List.length_append, idL_length, he]; rfl
    rw [bitAt_right (by omega), hl]; rfl
  · have hl : ((ofl f.id 29).take 11).length = 11 := by simp [ofl_length]
    have e2 : [48] ++ idL f = ([48] ++ (ofl f.id 29).take 11) ++ ([49, 49] ++ (ofl f.id 29).drop 11) := by unfold idL; rw [he]; simp
    have hl2 : ([48] ++ (ofl f.id 29).take 11 : List UInt8).length = 12 := by rw [List.length_append, hl]; rfl
    rw [e2, List.append_assoc, bitAt_right (by omega), hl2]; rfl
theorem head_base (f : Fr) (q : List UInt8) : baseL (headL f ++ q) = base f := by
  unfold baseL base; rw [head_13]; cases f.ext <;> rfl
theorem head_r (f : Fr) (q : List UInt8) : bitAt (headL f ++ q) (base f - 7) = rb f.remote := by
  have e : headL f ++ q = ([48] ++ idL f) ++ ([rb f.remote, 48, 48] ++ (ofl f.dlc 4 ++ (dataL f.data ++ q))) := by unfold headL preL; simp
  have hl : ([48] ++ idL f : List UInt8).length = base f - 7 := by rw [List.length_append, idL_length]; unfold base; split <;> rfl
  rw [e, bitAt_right (by omega), hl, Nat.sub_self]; rfl
theorem head_dlc (f : Fr) (q : List UInt8) : cutL (headL f ++ q) (base f - 4) (base f) = ofl f.dlc 4 := by
  have e : headL f ++ q = ([48] ++ idL f ++ [rb f.remote, 48, 48]) ++ (ofl f.dlc 4 ++ (dataL f.data ++ q)) := by unfold headL preL; simp
  have hl : ([48] ++ idL f ++ [rb f.remote, 48, 48] : List UInt8).length = base f - 4 := by
    rw [List.length_append, List.length_append, idL_length]; unfold base; split <;> rfl
  have hb : 19 ≤ base f := by unfold base; split <;> omega
  rw [e, cutL_at _ _ _ _ _ hl.symm (by rw [hl, ofl_length]; omega)]
theorem head_size {f : Fr} (h : FrR f) (q : List UInt8) : sizeL (headL f ++ q) = ((headL f).length, 0) := by
  obtain ⟨h8, hd, _⟩ := h
  have hb : base f = 19 ∨ base f = 39 := by unfold base; split <;> simp
  have hl := headL_length f
  unfold sizeL
  rw [head_base, head_dlc, head_r, num_ofl f.dlc 4 (by omega), List.length_append, if_neg (by omega), if_neg (by omega), if_neg (by omega), hl]
  congr 2
  cases hr : f.remote
  · rw [hr] at hd; simp only [Bool.false_eq_true, if_false] at hd
    rw [if_neg (by decide), hd]
  · rw [hr] at hd; simp only [if_true] at hd
    rw [if_pos (by decide), hd]; rfl

/-- the bytes of a row of bits -/
def bytesL : Nat → List UInt8 → List UInt8
  | 0, _ => []
  | k + 1, l => UInt8.ofNat (num (l.take 8)) :: bytesL k (l.drop 8)
theorem bytesL_dataL (d : List UInt8) : bytesL d.length (dataL d) = d := by
  induction d with
  | nil => rfl
  | cons c d ih =>
    have e : dataL (c :: d) = ofl c.toNat 8 ++ dataL d := by simp [dataL]
    have h8 : (ofl c.toNat 8).length = 8 := ofl_length _ _
    have h1 : (ofl c.toNat 8 ++ dataL d).take 8 = ofl c.toNat 8 := by rw [List.take_append_of_le_length (by omega), List.take_of_length_le (by omega)]
    have h2 : (ofl c.toNat 8 ++ dataL d).drop 8 = dataL d := by rw [List.drop_append, List.drop_of_length_le (by omega), h8]; simp
    rw [e, List.length_cons, bytesL, h1, h2, ih, num_ofl _ _ (by have := c.toNat_lt; omega)]
    simp
def decode (l : List UInt8) : Fr where
  id := if bitAt l 13 = 49 then num (cutL l 1 12) * 262144 + num (cutL l 14 32) else num (cutL l 1 12)
  ext := bitAt l 13 == 49
  remote := bitAt l (baseL l - 7) == 49
  dlc := num (cutL l (baseL l - 4) (baseL l))
  data := bytesL ((l.length - baseL l) / 8) (l.drop (baseL l))
theorem head_id {f : Fr} (h : FrR f) : (if bitAt (headL f) 13 = 49 then num (cutL (headL f) 1 12) * 262144 + num (cutL (headL f) 14 32) else num (cutL (headL f) 1 12)) = f.id := by
  obtain ⟨_, _, hid⟩ := h
  have h13 := head_13 f []
  rw [List.append_nil] at h13
  rw [h13]
  cases he : f.ext
  · rw [he] at hid; simp only [Bool.false_eq_true, if_false] at hid
    rw [if_neg (by decide)]
    have e : headL f = [48] ++ (ofl f.id 11 ++ ([rb f.remote, 48, 48] ++ (ofl f.dlc 4 ++ dataL f.data))) := by unfold headL preL idL; rw [he]; simp
    have c1 : cutL (headL f) 1 12 = ofl f.id 11 := by rw [e]; exact cutL_at _ _ _ _ _ rfl (by rw [ofl_length]; rfl)
    rw [c1, num_ofl _ _ (by omega)]
  · rw [he] at hid; simp only [if_true] at hid
    rw [if_pos (by decide)]
    have hl : ((ofl f.id 29).take 11).length = 11 := by simp [ofl_length]
    have hl2 : ((ofl f.id 29).drop 11).length = 18 := by simp [ofl_length]
    have e : headL f = [48] ++ ((ofl f.id 29).take 11 ++ ([49, 49] ++ (ofl f.id 29).drop 11 ++ ([rb f.remote, 48, 48] ++ (ofl f.dlc 4 ++ dataL f.data)))) := by unfold headL preL idL; rw [he]; simp
    have e2 : headL f = ([48] ++ (ofl f.id 29).take 11 ++ [49, 49]) ++ ((ofl f.id 29).drop 11 ++ ([rb f.remote, 48, 48] ++ (ofl f.dlc 4 ++ dataL f.data))) := by rw [e]; simp
    have c1 : cutL (headL f) 1 12 = (ofl f.id 29).take 11 := by rw [e]; exact cutL_at _ _ _ _ _ rfl (by rw [hl]; rfl)
    have c2 : cutL (headL f) 14 32 = (ofl f.id 29).drop 11 := by
      rw [e2]
      exact cutL_at _ _ _ _ _ (by rw [List.length_append, List.length_append, hl]; rfl) (by rw [List.length_append, List.length_append, hl, hl2]; rfl)
    have hn := num_append ((ofl f.id 29).take 11) ((ofl f.id 29).drop 11)
    rw [List.take_append_drop, num_ofl _ _ (by omega), hl2] at hn
    have h18 : (2 : Nat) ^ 18 = 262144 := rfl
    rw [h18] at hn
    rw [c1, c2, ← hn]
/-- a head's frame -/
theorem decode_head {f : Fr} (h : FrR f) : decode (headL f) = f := by
  have h13 := head_13 f []
  have hb := head_base f []
  have hr := head_r f []
  have hd := head_dlc f []
  rw [List.append_nil] at h13 hb hr hd
  obtain ⟨h8, hdd, hid⟩ := id h
  apply Fr.same
  · exact head_id h
  · show (bitAt (headL f) 13 == 49) = f.ext
    rw [h13]; cases f.ext <;> rfl
  · show (bitAt (headL f) (baseL (headL f) - 7) == 49) = f.remote
    rw [hb, hr, rb_iff]
  · show num (cutL (headL f) (baseL (headL f) - 4) (baseL (headL f))) = f.dlc
    rw [hb, hd, num_ofl _ _ (by omega)]
  · show bytesL (((headL f).length - baseL (headL f)) / 8) ((headL f).drop (baseL (headL f))) = f.data
    rw [hb, headL_length, show (base f + 8 * f.data.length - base f) / 8 = f.data.length from by omega]
    unfold headL
    rw [List.drop_append, List.drop_of_length_le (by rw [preL_length]; exact Nat.le_refl _), preL_length, Nat.sub_self, List.drop_zero, List.nil_append, bytesL_dataL]
end Go.Proofs.Ytdpfmpbnahhjmaa.B
