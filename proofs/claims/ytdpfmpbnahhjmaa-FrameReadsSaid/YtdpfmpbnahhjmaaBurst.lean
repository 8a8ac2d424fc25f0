/- Plain facts on framed rows, and on rows some of whose bits, within fifteen, are turned. No Go, no program. -/
import Derived.Test.YtdpfmpbnahhjmaaSum1
import Derived.Test.YtdpfmpbnahhjmaaTurn1
namespace Go.Proofs.Ytdpfmpbnahhjmaa.B
open Go.RowKit

theorem stepN_same (s : Nat) : stepN s (s.testBit 14) = 2 * s % 32768 := by unfold stepN; simp
theorem crc_cons (s : Nat) (c : UInt8) (l : List UInt8) : crc s (c :: l) = crc (stepN s (one c)) l := rfl
/-- a sum's own bits take it to 0 -/
theorem crc_self (m : Nat) : ∀ k, k ≤ 15 → crc (m * 2 ^ (15 - k) % 32768) (ofl m k) = 0 := by
  intro k
  induction k with
  | zero => intro _; simp [ofl, crc_nil]
  | succ k ih =>
    intro hk
    rw [ofl_cons, crc_cons]
    have h1 : one (UInt8.ofNat (48 + m / 2 ^ k % 2)) = m.testBit k := by
      rw [one_dec, Nat.testBit_eq_decide_div_mod_eq, UInt8.toNat_ofNat_of_lt' (by show _ < 2 ^ 8; omega), decide_eq_decide]
      omega
    have h2 : (m * 2 ^ (15 - (k + 1)) % 32768).testBit 14 = m.testBit k := by
      rw [show (32768 : Nat) = 2 ^ 15 from rfl, Nat.testBit_mod_two_pow, Nat.testBit_mul_two_pow, show 14 - (15 - (k + 1)) = k from by omega]
      simp
    rw [h1, ← h2, stepN_same]
    rw [show 2 * (m * 2 ^ (15 - (k + 1)) % 32768) % 32768 = m * 2 ^ (15 - k) % 32768 from by
      rw [show 15 - k = (15 - (k + 1)) + 1 from by omega, Nat.pow_succ, ← Nat.mul_assoc, Nat.mul_comm 2, Nat.mod_mul_mod]]
    exact ih (by omega)
theorem sum_framed (s : ByteArray) : sum (framed s) = 0 := by
  unfold framed sum
  rw [cat_list, crc_append, ofn_list]
  have h := crc_self (crc 0 s.data.toList) 15 (by omega)
  have hl := crc_lt s.data.toList
  rwa [show crc 0 s.data.toList * 2 ^ (15 - 15) % 32768 = crc 0 s.data.toList from by simp; omega] at h
theorem framed_size (s : ByteArray) : (framed s).size = s.size + 15 := by unfold framed; rw [ByteArray.size_append, ofn_size]
theorem framed_right {s : ByteArray} (hr : right s = true) (h : s.size ≤ 3985) : right (framed s) = true := by
  unfold right
  rw [framed_size]
  have h1 := right_all hr
  unfold framed
  rw [cat_list, List.all_append, h1, ofn_list, ofl_all]
  simp; omega
theorem framed_check {s : ByteArray} (hr : right s = true) (h : s.size ≤ 3985) : check (framed s) = true := by
  unfold check
  rw [framed_right hr h, framed_size, sum_framed]
  simp

/-! ### turned bits -/
theorem one_turn {c : UInt8} (h : okc c = true) : one (turn c) = !one c := by
  rcases (okc_iff c).1 h with e | e
  · rw [UInt8.toNat_inj.1 (show c.toNat = (48 : UInt8).toNat from e)]; rfl
  · rw [UInt8.toNat_inj.1 (show c.toNat = (49 : UInt8).toNat from e)]; rfl
theorem one_inj {c d : UInt8} (hc : okc c = true) (hd : okc d = true) (h : one c = one d) : c = d := by
  rw [one_dec, one_dec, decide_eq_decide] at h
  apply UInt8.toNat_inj.1
  rcases (okc_iff c).1 hc with e | e <;> rcases (okc_iff d).1 hd with f | f <;> omega
theorem map_one_inj {a b : List UInt8} (ha : a.all okc = true) (hb : b.all okc = true) (h : a.map one = b.map one) : a = b := by
  induction a generalizing b with
  | nil => cases b with | nil => rfl | cons _ _ => simp at h
  | cons x a ih =>
    cases b with
    | nil => simp at h
    | cons y b =>
      simp only [List.all_cons, Bool.and_eq_true] at ha hb
      simp only [List.map_cons, List.cons.injEq] at h
      rw [one_inj ha.1 hb.1 h.1, ih ha.2 hb.2 h.2]

/-- which bits are turned: those of the pattern's first i that are within the row -/
def err (p pat i j : Nat) : Bool := decide (p ≤ j) && decide (j < p + i) && pat.testBit (j - p)
def errs (p pat i n : Nat) : List Bool := (List.range n).map (err p pat i)
def hit (t : ByteArray) (p pat : Nat) : Nat → ByteArray
  | 0 => t
  | i + 1 => if p + i < t.size ∧ pat.testBit i = true then turnB (hit t p pat i) (p + i) else hit t p pat i
theorem turnB_size (s : ByteArray) (i : Nat) : (turnB s i).size = s.size := by
  show (s.data.toList.modify i turn).length = s.size
  rw [List.length_modify, size_len]
theorem turnB_right {s : ByteArray} (i : Nat) (h : right s = true) : right (turnB s i) = true := by
  unfold right
  rw [turnB_size, show (turnB s i).data.toList = s.data.toList.modify i turn from rfl, all_modify (right_all h)]
  have := right_size h
  simp [this]
theorem hit_size (t : ByteArray) (p pat i : Nat) : (hit t p pat i).size = t.size := by
  induction i with
  | zero => rfl
  | succ i ih => unfold hit; split; rw [turnB_size, ih]; exact ih
theorem hit_right {t : ByteArray} (p pat i : Nat) (h : right t = true) : right (hit t p pat i) = true := by
  induction i with
  | zero => exact h
  | succ i ih => unfold hit; split; exact turnB_right _ ih; exact ih
theorem err_succ (p pat i j : Nat) : err p pat (i + 1) j = if j = p + i then pat.testBit i else err p pat i j := by
  unfold err
  by_cases h : j = p + i
  · subst h; simp
  · rw [if_neg h]
    by_cases h2 : p ≤ j
    · by_cases h3 : j < p + i
      · simp [h2, h3, show j < p + (i + 1) from by omega]
      · simp [h3, show ¬ j < p + (i + 1) from by omega]
    · simp [h2]
theorem err_at (p pat i : Nat) : err p pat i (p + i) = false := by unfold err; simp
theorem hit_bits {t : ByteArray} (p pat i : Nat) (h : right t = true) : (hit t p pat i).data.toList.map one = xorB (t.data.toList.map one) (errs p pat i t.size) := by
  induction i with
  | zero =>
    apply List.ext_getElem
    · simp [xorB, errs, hit]
    · intro j h1 h2
      have hf : err p pat 0 j = false := by
        unfold err
        by_cases h3 : p ≤ j
        · simp [show ¬ j < p from by omega]
        · simp [h3]
      simp only [xorB, errs, List.getElem_zipWith, List.getElem_map, List.getElem_range, hf]
      simp [hit]
  | succ i ih =>
    apply List.ext_getElem
    · rw [List.length_map, size_len, hit_size]; simp [xorB, errs]
    · intro j h1 h2
      rw [List.length_map, size_len, hit_size] at h1
      have hj : ((hit t p pat i).data.toList.map one)[j]'(by rw [List.length_map, size_len, hit_size]; exact h1) = (xorB (t.data.toList.map one) (errs p pat i t.size))[j]'(by simp [xorB, errs]; exact h1) := by simp only [ih]
      simp only [xorB, errs, List.getElem_zipWith, List.getElem_map, List.getElem_range] at hj ⊢
      rw [err_succ]
      have hok : okc ((hit t p pat i).data.toList[j]'(by rw [size_len, hit_size]; exact h1)) = true := List.all_eq_true.1 (right_all (hit_right p pat i h)) _ (List.getElem_mem _)
      by_cases hc : p + i < t.size ∧ pat.testBit i = true
      · have e : (hit t p pat (i + 1)).data.toList = (hit t p pat i).data.toList.modify (p + i) turn := by
          show (if p + i < t.size ∧ pat.testBit i = true then turnB (hit t p pat i) (p + i) else hit t p pat i).data.toList = _
          rw [if_pos hc]; rfl
        simp only [e, List.getElem_modify]
        by_cases hji : p + i = j
        · subst hji
          rw [if_pos rfl, if_pos rfl, one_turn hok, hj, err_at, hc.2]
          cases one t.data.toList[p + i] <;> rfl
        · rw [if_neg hji, if_neg (fun e => hji e.symm)]
          exact hj
      · have e : (hit t p pat (i + 1)).data.toList = (hit t p pat i).data.toList := by
          show (if p + i < t.size ∧ pat.testBit i = true then turnB (hit t p pat i) (p + i) else hit t p pat i).data.toList = _
          rw [if_neg hc]
        simp only [e]
        by_cases hji : j = p + i
        · subst hji
          rw [if_pos rfl, hj, err_at]
          have : pat.testBit i = false := by
            cases hp : pat.testBit i
            · rfl
            · exact absurd ⟨h1, hp⟩ hc
          rw [this]
        · rw [if_neg hji]
          exact hj
theorem errs_form (p pat n : Nat) (h : p ≤ n) : ∃ m b, ∃ l : List Bool, l.length ≤ 15 ∧ errs p pat 15 n = List.replicate p false ++ l ++ List.replicate b false ∧ m = l.length := by
  obtain ⟨m, hm⟩ : ∃ m, m = min 15 (n - p) := ⟨_, rfl⟩
  obtain ⟨b, hb⟩ : ∃ b, b = n - p - m := ⟨_, rfl⟩
  refine ⟨_, b, (List.range m).map (fun x => err p pat 15 (p + x)), by simp; omega, ?_, rfl⟩
  unfold errs
  rw [show n = p + m + b from by omega, List.range_add, List.range_add, List.map_append, List.map_append, List.map_map, List.map_map]
  congr 1
  · congr 1
    rw [List.eq_replicate_iff]
    refine ⟨by simp, fun x hx => ?_⟩
    simp only [List.mem_map, List.mem_range] at hx
    obtain ⟨j, hj, rfl⟩ := hx
    unfold err
    simp; omega
  · rw [List.eq_replicate_iff]
    refine ⟨by simp, fun x hx => ?_⟩
    simp only [List.mem_map, List.mem_range, Function.comp] at hx
    obtain ⟨j, hj, rfl⟩ := hx
    unfold err
    simp; omega
theorem xorB_false (l : List Bool) : xorB l (List.replicate l.length false) = l := by
  induction l with
  | nil => rfl
  | cons x l ih => simp only [xorB, List.length_cons, List.replicate_succ, List.zipWith_cons_cons] at ih ⊢; rw [ih]; simp
theorem xorB_self {l e : List Bool} (hl : l.length = e.length) (h : xorB l e = l) : ¬ true ∈ e := by
  induction l generalizing e with
  | nil => cases e with | nil => simp | cons _ _ => simp at hl
  | cons x l ih =>
    cases e with
    | nil => simp at hl
    | cons y e =>
      simp only [xorB, List.zipWith_cons_cons, List.cons.injEq] at h
      have h1 : y = false := by cases x <;> cases y <;> simp_all
      have h2 := ih (by simpa using hl) h.2
      simp [h1, h2]
/-- bits turned within fifteen are told by the sum -/
theorem burst_told {t : ByteArray} (p pat : Nat) (h : right t = true) (h0 : sum t = 0) (hp : p ≤ t.size) : sum (hit t p pat 15) = 0 ↔ hit t p pat 15 = t := by
  obtain ⟨m, b, l, hl, hE, _⟩ := errs_form p pat t.size hp
  have hlen : (t.data.toList.map one).length = (errs p pat 15 t.size).length := by simp [errs]
  have hs : sum (hit t p pat 15) = sumB 0 (errs p pat 15 t.size) := by
    unfold sum crc
    rw [hit_bits p pat 15 h]
    have := sumB_xor 0 0 _ _ hlen
    rw [Nat.xor_self] at this
    rw [this, show sumB 0 (t.data.toList.map one) = 0 from h0, Nat.zero_xor]
  rw [hs, hE, burst_between p b l hl]
  have hmem : true ∈ errs p pat 15 t.size ↔ true ∈ l := by
    rw [hE]; simp
  rw [← hmem]
  constructor
  · intro hn
    have hrep : errs p pat 15 t.size = List.replicate (t.data.toList.map one).length false := by
      rw [List.eq_replicate_iff]
      refine ⟨by rw [hlen], fun x hx => ?_⟩
      cases x
      · rfl
      · exact absurd hx hn
    apply ByteArray.ext; apply Array.ext'
    apply map_one_inj (right_all (hit_right p pat 15 h)) (right_all h)
    rw [hit_bits p pat 15 h, hrep, xorB_false]
  · intro e
    have := hit_bits p pat 15 h
    rw [e] at this
    exact xorB_self hlen this.symm
theorem burst_check {t : ByteArray} (p pat : Nat) (h : right t = true) (h0 : sum t = 0) (h15 : 15 ≤ t.size) (hp : p ≤ t.size) : check (hit t p pat 15) = decide (hit t p pat 15 = t) := by
  unfold check
  rw [hit_size, hit_right p pat 15 h, Bool.eq_iff_iff]
  have := burst_told p pat h h0 hp
  simp [h15, this]
theorem pat_bit (pat k : Nat) (h : pat < 4294967296) : (bits BinOp.and IntKind.u32 ((pat : Int) / 2 ^ k) 1 == 1) = pat.testBit k := by
  have hd := Nat.div_le_self pat (2 ^ k)
  have e : ((pat : Int) / 2 ^ k) = ((pat / 2 ^ k : Nat) : Int) := by simp
  rw [e, show (1 : Int) = ((1 : Nat) : Int) from rfl, and_u32 _ _ (by omega) (by omega), Nat.and_one_is_mod, int_dec, Nat.testBit_eq_decide_div_mod_eq]
theorem hit_yes {t : ByteArray} {p pat i : Nat} (h : p + i < t.size) (hb : pat.testBit i = true) : hit t p pat (i + 1) = turnB (hit t p pat i) (p + i) := by
  show (if p + i < t.size ∧ pat.testBit i = true then turnB (hit t p pat i) (p + i) else hit t p pat i) = _
  rw [if_pos ⟨h, hb⟩]
theorem hit_no {t : ByteArray} {p pat i : Nat} (h : ¬ (p + i < t.size ∧ pat.testBit i = true)) : hit t p pat (i + 1) = hit t p pat i := by
  show (if p + i < t.size ∧ pat.testBit i = true then turnB (hit t p pat i) (p + i) else hit t p pat i) = _
  rw [if_neg h]
end Go.Proofs.Ytdpfmpbnahhjmaa.B
