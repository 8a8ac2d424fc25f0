/- Package frame's Size: where bits of a head stand, what they tell. -/
import Derived.Test.YtcaeobkaoebndaaGreatJ4
import Derived.Test.YtcaeobkaoebndaaGreatRight4
namespace Go.Proofs.YtcaeobkaoebndaaGreat
open Go.RowKit Go.Lib
attribute [local go_sem ↓] Go.wp_at_zero Go.wp_at_succ

/-- three cells: where the bits of a head stand -/
abbrev plV (ext : Bool) (r d : Int) : Array Value := #[.bool ext, .int .i64 r, .int .i64 d]

set_option maxRecDepth 100000 in
set_option maxHeartbeats 400000 in
theorem num4_any (s : ByteArray) (w : World) (hs : s.size ≤ 64) (hr : B.right s = true) :
    Calls Tryz.prog 99 #[.string s] w fun e w' => e = .returned (.int .u64 (B.num s.data.toList)) ∧ w = w' := by
  have CN := Lib.hid (number_yes s w hs hr)
  go_enter Tryz.func99, Tryz.ntmps99
  go_wp2_with (go_at_call 109; (with_reducible refine CN.out.mono ?_); rintro e w' ⟨rfl, rfl⟩)
  go_ret
  exact ⟨rfl, rfl⟩

set_option maxRecDepth 100000 in
set_option maxHeartbeats 400000 in
theorem asks_any (ext : Bool) (r : Nat) (d : Int) (s : ByteArray) (w : World) (h : r < s.size) :
    Calls Tryz.prog 85 #[.agg (plV ext r d), .string s] w fun e w' => e = .returned (.bool ((s[r].toNat : Int) == 49)) ∧ Below w.heap.size w w' := by
  go_enter Tryz.func85, Tryz.ntmps85
  go_wp2
  go_ret
  exact ⟨rfl, (Below.refl _ _).alloc (Nat.le_refl _) _⟩
set_option maxRecDepth 100000 in
set_option maxHeartbeats 400000 in
theorem places_19 (s : ByteArray) (w : World) (h : 13 < s.size) (h13 : ((s[13].toNat : Int) == 48) = true) :
    Calls Tryz.prog 83 #[.string s] w fun e w' => e = .returned (.agg (plV false 12 19)) ∧ Below w.heap.size w w' := by
  go_enter Tryz.func83, Tryz.ntmps83
  go_wp2
  refine bodyPost_ret (v := .agg (plV false 12 19)) (by simp [results, Tryz.results83, go_sem]) rfl ⟨rfl, ?_⟩
  exact (Below.refl _ _).alloc (Nat.le_refl _) _
set_option maxRecDepth 100000 in
set_option maxHeartbeats 400000 in
theorem dlc_19 (s u : ByteArray) (n : Nat) (w : World) (h : (19 : Int) ≤ s.size) (hu : s.extract 15 19 = u) (hr : B.right u = true) (hn : n < 16) (hnu : B.num u.data.toList = n) :
    Calls Tryz.prog 84 #[.agg (plV false 12 19), .string s] w fun e w' => e = .returned (.int .i64 n) ∧ Below w.heap.size w w' := by
  have hus : u.size ≤ 4 := by rw [← hu, ByteArray.size_extract]; omega
  have CN0 := fun w => num4_any u w (by omega) hr
  rw [hnu] at CN0
  have CN := Lib.hid CN0
  clear CN0 hnu hr
  go_enter Tryz.func84, Tryz.ntmps84
  go_wp2_with (go_at_call 99; (with_reducible refine (CN.out _).mono ?_); rintro e w' ⟨rfl, rfl⟩)
  go_ret
  exact ⟨rfl, (Below.refl _ _).alloc (Nat.le_refl _) _⟩
theorem asks_19 (s : ByteArray) (q : Bool) (w : World) (h : 12 < s.size) (hq : ((s[12].toNat : Int) == 49) = q) :
    Calls Tryz.prog 85 #[.agg (plV false 12 19), .string s] w fun e w' => e = .returned (.bool q) ∧ Below w.heap.size w w' := by
  have := asks_any false 12 19 s w h
  rwa [hq] at this
set_option maxRecDepth 100000 in
set_option maxHeartbeats 400000 in
theorem places_39 (s : ByteArray) (w : World) (h : 13 < s.size) (h13 : ((s[13].toNat : Int) == 48) = false) :
    Calls Tryz.prog 83 #[.string s] w fun e w' => e = .returned (.agg (plV true 32 39)) ∧ Below w.heap.size w w' := by
  go_enter Tryz.func83, Tryz.ntmps83
  go_wp2
  refine bodyPost_ret (v := .agg (plV true 32 39)) (by simp [results, Tryz.results83, go_sem]) rfl ⟨rfl, ?_⟩
  exact (Below.refl _ _).alloc (Nat.le_refl _) _
set_option maxRecDepth 100000 in
set_option maxHeartbeats 400000 in
theorem dlc_39 (s u : ByteArray) (n : Nat) (w : World) (h : (39 : Int) ≤ s.size) (hu : s.extract 35 39 = u) (hr : B.right u = true) (hn : n < 16) (hnu : B.num u.data.toList = n) :
    Calls Tryz.prog 84 #[.agg (plV true 32 39), .string s] w fun e w' => e = .returned (.int .i64 n) ∧ Below w.heap.size w w' := by
  have hus : u.size ≤ 4 := by rw [← hu, ByteArray.size_extract]; omega
  have CN0 := fun w => num4_any u w (by omega) hr
  rw [hnu] at CN0
  have CN := Lib.hid CN0
  clear CN0 hnu hr
  go_enter Tryz.func84, Tryz.ntmps84
  go_wp2_with (go_at_call 99; (with_reducible refine (CN.out _).mono ?_); rintro e w' ⟨rfl, rfl⟩)
  go_ret
  exact ⟨rfl, (Below.refl _ _).alloc (Nat.le_refl _) _⟩
theorem asks_39 (s : ByteArray) (q : Bool) (w : World) (h : 32 < s.size) (hq : ((s[32].toNat : Int) == 49) = q) :
    Calls Tryz.prog 85 #[.agg (plV true 32 39), .string s] w fun e w' => e = .returned (.bool q) ∧ Below w.heap.size w w' := by
  have := asks_any true 32 39 s w h
  rwa [hq] at this

set_option maxRecDepth 100000 in
set_option maxHeartbeats 400000 in
theorem size4_no (s : ByteArray) (w : World) (hs : s.size ≤ maxLen) (hr : B.right s = false) :
    Calls Tryz.prog 64 #[.string s] w fun e w' => e = .returned (.tuple #[.int .i64 0, .int .i64 1]) ∧ w = w' := by
  go_enter Tryz.func64, Tryz.ntmps64
  go_wp2_with (go_at_call 82; (with_reducible refine (right_any _ _ hs).mono ?_); rintro e w' ⟨rfl, rfl⟩)
  go_ret2
  exact ⟨rfl, rfl⟩
set_option maxRecDepth 100000 in
set_option maxHeartbeats 400000 in
theorem size4_14 (s : ByteArray) (w : World) (hr : B.right s = true) (h : s.size < 14) :
    Calls Tryz.prog 64 #[.string s] w fun e w' => e = .returned (.tuple #[.int .i64 (B.sizeL s.data.toList).1, .int .i64 (B.sizeL s.data.toList).2]) ∧ Below w.heap.size w w' := by
  have h4 := B.right_size hr
  have hz := Lib.hid (size_14 h)
  have h13 : (s.size : Int) ≤ 13 := by omega
  have CR : Hid (∀ w, Calls Tryz.prog 82 #[.string s] w fun e w' => e = .returned (.bool true) ∧ w = w') := Lib.hid fun w => by have := right_any s w (by unfold maxLen; omega); rwa [hr] at this
  clear hr
  go_enter Tryz.func64, Tryz.ntmps64
  go_wp2_with (go_at_call 82; (with_reducible refine (CR.out _).mono ?_); rintro e w' ⟨rfl, rfl⟩)
  go_ret2
  exact ⟨ret_two (by rw [hz.out]; rfl) (by rw [hz.out]; rfl), Below.refl _ _⟩

set_option maxRecDepth 100000 in
set_option maxHeartbeats 2000000 in
theorem size4_19 (s : ByteArray) (w : World) (hr : B.right s = true) (h : 13 < s.size) (h13 : ¬ s[13].toNat = 49) :
    Calls Tryz.prog 64 #[.string s] w fun e w' => e = .returned (.tuple #[.int .i64 (B.sizeL s.data.toList).1, .int .i64 (B.sizeL s.data.toList).2]) ∧ Below w.heap.size w w' := by
  have h4 := B.right_size hr
  have hb : (if s[13].toNat = 49 then 39 else 19) = 19 := by rw [if_neg h13]
  have x13 : ((s[13].toNat : Int) == 48) = true := by have := B.right_bound hr 13 h; simp; omega
  have h14 : ¬ (s.size : Int) ≤ 13 := by omega
  have CR : Hid (∀ w, Calls Tryz.prog 82 #[.string s] w fun e w' => e = .returned (.bool true) ∧ w = w') := Lib.hid fun w => by have := right_any s w (by unfold maxLen; omega); rwa [hr] at this
  have CP := Lib.hid (fun w => places_19 s w h x13)
  by_cases hn : s.size < 19
  · have hz := Lib.hid (size_base h hb hn)
    have hn' : (s.size : Int) < 19 := by omega
    clear hb hn x13 h13 hr
    go_enter Tryz.func64, Tryz.ntmps64
    go_wp2_with (first
      | (go_at_call 82; (with_reducible refine (CR.out _).mono ?_); rintro e w' ⟨rfl, rfl⟩)
      | (go_at_call 83; (with_reducible refine (CP.out _).mono ?_); rintro e w1 ⟨rfl, hw1⟩))
    go_ret2
    exact ⟨ret_two (by rw [hz.out]; rfl) (by rw [hz.out]; rfl), hw1.alloc hw1.size _⟩
  · have hn' : ¬ (s.size : Int) < 19 := by omega
    have hn2 : (19 : Int) ≤ s.size := by omega
    have hru := right_cut hr 15 19
    have hnl := B.num_lt _ (B.right_all hru)
    have hl4 : (s.extract 15 19).data.toList.length = 4 := by rw [B.size_len, ByteArray.size_extract]; omega
    rw [hl4] at hnl
    have HD := fun hd => size_dlc (n := 19) h hb (by omega) hd
    have HK := fun hd => size_ok (n := 19) h hb (by omega) hd (by omega)
    simp only [show 19 - 4 = 15 from rfl, show 19 - 7 = 12 from rfl] at HD HK
    obtain ⟨d, hd⟩ : ∃ d, B.num (s.extract 15 19).data.toList = d := ⟨_, rfl⟩
    rw [hd] at hnl HD HK
    have CD := Lib.hid (fun w => dlc_19 s _ d w hn2 rfl hru (by omega) hd)
    clear hd hb hl4 hru
    by_cases h8 : 8 < d
    · have hz := Lib.hid (HD h8)
      have h8' : (8 : Int) < d := by omega
      clear HD HK x13 h13 hr
      go_enter Tryz.func64, Tryz.ntmps64
      go_wp2_with (first
        | (go_at_call 82; (with_reducible refine (CR.out _).mono ?_); rintro e w' ⟨rfl, rfl⟩)
        | (go_at_call 83; (with_reducible refine (CP.out _).mono ?_); rintro e w1 ⟨rfl, hw1⟩)
        | (go_at_call 84; (with_reducible refine (CD.out _).mono ?_); rintro e w2 ⟨rfl, hw2⟩))
      go_ret2
      exact ⟨ret_two (by rw [hz.out]; rfl) (by rw [hz.out]; rfl), below_keep (hw1.alloc hw1.size _) hw2 (by have := hw1.size; simp; omega)⟩
    · have hz := HK (by omega)
      have h8' : ¬ (8 : Int) < d := by omega
      have h8n : (d : Int) ≤ 8 := by omega
      have h7 : 12 < s.size := by omega
      obtain ⟨q, hq⟩ : ∃ q, ((s[12].toNat : Int) == 49) = q := ⟨_, rfl⟩
      have hz2 : B.sizeL s.data.toList = (19 + 8 * (if q then 0 else d), 0) := by
        rw [hz]
        congr 3
        cases q
        · rw [if_neg (by simp at hq; omega)]; rfl
        · rw [if_pos (by simp at hq; omega)]; rfl
      have CA := Lib.hid (fun w => asks_19 s q w h7 hq)
      have CB := Lib.hid (fun w => databytes_any d q w)
      obtain ⟨m, hm⟩ : ∃ m : Nat, m = if q then 0 else d := ⟨_, rfl⟩
      have hm8 : m ≤ 8 := by rw [hm]; split <;> omega
      rw [show (if q then (0 : Int) else d) = (m : Int) from by rw [hm]; split <;> rfl] at CB
      rw [← hm] at hz2
      have HZ := Lib.hid hz2
      clear HD HK hz hz2 hq hm hr x13 h13
      go_enter Tryz.func64, Tryz.ntmps64
      go_wp2_with (first
        | (go_at_call 82; (with_reducible refine (CR.out _).mono ?_); rintro e w' ⟨rfl, rfl⟩)
        | (go_at_call 83; (with_reducible refine (CP.out _).mono ?_); rintro e w1 ⟨rfl, hw1⟩)
        | (go_at_call 84; (with_reducible refine (CD.out _).mono ?_); rintro e w2 ⟨rfl, hw2⟩))
      have hP := (blk_new w1 (plV false 12 19) 108 w1.heap.size rfl).keep hw2
      have hB := below_keep (hw1.alloc hw1.size (.cells (plV false 12 19) 108)) hw2 (by have := hw1.size; simp; omega)
      have hBs : w.heap.size ≤ w2.heap.size := hB.size
      obtain ⟨g, hg⟩ : ∃ g, g = w1.heap.size := ⟨_, rfl⟩
      rw [← hg] at hP ⊢
      clear hg hw1 hw2 CP CD CR
      have d0 := hP.cell 0 _ rfl
      have d1 := hP.cell 1 _ rfl
      have d2 := hP.cell 2 _ rfl
      have hBd := hB.drew
      clear hP
      have KS := Lib.hid (show ∀ wa wb, Below wa.heap.size wa wb → (Below w.heap.size w wa ∧ w.heap.size ≤ wa.heap.size ∧ wa.cell? ⟨g, 0, none⟩ = some (.bool false) ∧ wa.cell? ⟨g, 1, none⟩ = some (.int .i64 12) ∧ wa.cell? ⟨g, 2, none⟩ = some (.int .i64 19)) → (Below w.heap.size w wb ∧ w.heap.size ≤ wb.heap.size ∧ wb.cell? ⟨g, 0, none⟩ = some (.bool false) ∧ wb.cell? ⟨g, 1, none⟩ = some (.int .i64 12) ∧ wb.cell? ⟨g, 2, none⟩ = some (.int .i64 19)) from fun wa wb k ⟨h1, h2, c0, c1, c2⟩ => ⟨below_keep h1 k h2, by have := k.size; omega, cell_keep k c0, cell_keep k c1, cell_keep k c2⟩)
      have y1 : IntKind.i64.wrap (8 * (m : Int)) = 8 * (m : Int) := IntWalk.i64_in _ (by omega)
      have y2 : IntKind.i64.wrap (19 + 8 * (m : Int)) = 19 + 8 * (m : Int) := IntWalk.i64_in _ (by omega)
      go_region_held3 (fun w' => Below w.heap.size w w' ∧ w.heap.size ≤ w'.heap.size ∧ w'.cell? ⟨g, 0, none⟩ = some (.bool false) ∧ w'.cell? ⟨g, 1, none⟩ = some (.int .i64 12) ∧ w'.cell? ⟨g, 2, none⟩ = some (.int .i64 19))
        (first | assumption | exact ⟨hBd, hBs, d0, d1, d2⟩)
        (first
          | (go_at_call 85; (with_reducible refine (CA.out _).mono ?_); rintro e w' ⟨rfl, hb⟩; have hS := KS.out _ _ hb (by assumption))
          | (go_at_call 55; (with_reducible refine (CB.out _).mono ?_); rintro e w' ⟨rfl, rfl⟩))
      rename_i hdup
      clear hdup
      have hE := hS.1
      clear hS
      go_wp2
      go_ret2
      exact ⟨ret_two (by rw [HZ.out]; simp) (by rw [HZ.out]; rfl), hE⟩

set_option maxRecDepth 100000 in
set_option maxHeartbeats 2000000 in
theorem size4_39 (s : ByteArray) (w : World) (hr : B.right s = true) (h : 13 < s.size) (h13 : s[13].toNat = 49) :
    Calls Tryz.prog 64 #[.string s] w fun e w' => e = .returned (.tuple #[.int .i64 (B.sizeL s.data.toList).1, .int .i64 (B.sizeL s.data.toList).2]) ∧ Below w.heap.size w w' := by
  have h4 := B.right_size hr
  have hb : (if s[13].toNat = 49 then 39 else 19) = 39 := by rw [if_pos h13]
  have x13 : ((s[13].toNat : Int) == 48) = false := by simp; omega
  have h14 : ¬ (s.size : Int) ≤ 13 := by omega
  have CR : Hid (∀ w, Calls Tryz.prog 82 #[.string s] w fun e w' => e = .returned (.bool true) ∧ w = w') := Lib.hid fun w => by have := right_any s w (by unfold maxLen; omega); rwa [hr] at this
  have CP := Lib.hid (fun w => places_39 s w h x13)
  by_cases hn : s.size < 39
  · have hz := Lib.hid (size_base h hb hn)
    have hn' : (s.size : Int) < 39 := by omega
    clear hb hn x13 h13 hr
    go_enter Tryz.func64, Tryz.ntmps64
    go_wp2_with (first
      | (go_at_call 82; (with_reducible refine (CR.out _).mono ?_); rintro e w' ⟨rfl, rfl⟩)
      | (go_at_call 83; (with_reducible refine (CP.out _).mono ?_); rintro e w1 ⟨rfl, hw1⟩))
    go_ret2
    exact ⟨ret_two (by rw [hz.out]; rfl) (by rw [hz.out]; rfl), hw1.alloc hw1.size _⟩
  · have hn' : ¬ (s.size : Int) < 39 := by omega
    have hn2 : (39 : Int) ≤ s.size := by omega
    have hru := right_cut hr 35 39
    have hnl := B.num_lt _ (B.right_all hru)
    have hl4 : (s.extract 35 39).data.toList.length = 4 := by rw [B.size_len, ByteArray.size_extract]; omega
    rw [hl4] at hnl
    have HD := fun hd => size_dlc (n := 39) h hb (by omega) hd
    have HK := fun hd => size_ok (n := 39) h hb (by omega) hd (by omega)
    simp only [show 39 - 4 = 35 from rfl, show 39 - 7 = 32 from rfl] at HD HK
    obtain ⟨d, hd⟩ : ∃ d, B.num (s.extract 35 39).data.toList = d := ⟨_, rfl⟩
    rw [hd] at hnl HD HK
    have CD := Lib.hid (fun w => dlc_39 s _ d w hn2 rfl hru (by omega) hd)
    clear hd hb hl4 hru
    by_cases h8 : 8 < d
    · have hz := Lib.hid (HD h8)
      have h8' : (8 : Int) < d := by omega
      clear HD HK x13 h13 hr
      go_enter Tryz.func64, Tryz.ntmps64
      go_wp2_with (first
        | (go_at_call 82; (with_reducible refine (CR.out _).mono ?_); rintro e w' ⟨rfl, rfl⟩)
        | (go_at_call 83; (with_reducible refine (CP.out _).mono ?_); rintro e w1 ⟨rfl, hw1⟩)
        | (go_at_call 84; (with_reducible refine (CD.out _).mono ?_); rintro e w2 ⟨rfl, hw2⟩))
      go_ret2
      exact ⟨ret_two (by rw [hz.out]; rfl) (by rw [hz.out]; rfl), below_keep (hw1.alloc hw1.size _) hw2 (by have := hw1.size; simp; omega)⟩
    · have hz := HK (by omega)
      have h8' : ¬ (8 : Int) < d := by omega
      have h8n : (d : Int) ≤ 8 := by omega
      have h7 : 32 < s.size := by omega
      obtain ⟨q, hq⟩ : ∃ q, ((s[32].toNat : Int) == 49) = q := ⟨_, rfl⟩
      have hz2 : B.sizeL s.data.toList = (39 + 8 * (if q then 0 else d), 0) := by
        rw [hz]
        congr 3
        cases q
        · rw [if_neg (by simp at hq; omega)]; rfl
        · rw [if_pos (by simp at hq; omega)]; rfl
      have CA := Lib.hid (fun w => asks_39 s q w h7 hq)
      have CB := Lib.hid (fun w => databytes_any d q w)
      obtain ⟨m, hm⟩ : ∃ m : Nat, m = if q then 0 else d := ⟨_, rfl⟩
      have hm8 : m ≤ 8 := by rw [hm]; split <;> omega
      rw [show (if q then (0 : Int) else d) = (m : Int) from by rw [hm]; split <;> rfl] at CB
      rw [← hm] at hz2
      have HZ := Lib.hid hz2
      clear HD HK hz hz2 hq hm hr x13 h13
      go_enter Tryz.func64, Tryz.ntmps64
      go_wp2_with (first
        | (go_at_call 82; (with_reducible refine (CR.out _).mono ?_); rintro e w' ⟨rfl, rfl⟩)
        | (go_at_call 83; (with_reducible refine (CP.out _).mono ?_); rintro e w1 ⟨rfl, hw1⟩)
        | (go_at_call 84; (with_reducible refine (CD.out _).mono ?_); rintro e w2 ⟨rfl, hw2⟩))
      have hP := (blk_new w1 (plV true 32 39) 108 w1.heap.size rfl).keep hw2
      have hB := below_keep (hw1.alloc hw1.size (.cells (plV true 32 39) 108)) hw2 (by have := hw1.size; simp; omega)
      have hBs : w.heap.size ≤ w2.heap.size := hB.size
      obtain ⟨g, hg⟩ : ∃ g, g = w1.heap.size := ⟨_, rfl⟩
      rw [← hg] at hP ⊢
      clear hg hw1 hw2 CP CD CR
      have d0 := hP.cell 0 _ rfl
      have d1 := hP.cell 1 _ rfl
      have d2 := hP.cell 2 _ rfl
      have hBd := hB.drew
      clear hP
      have KS := Lib.hid (show ∀ wa wb, Below wa.heap.size wa wb → (Below w.heap.size w wa ∧ w.heap.size ≤ wa.heap.size ∧ wa.cell? ⟨g, 0, none⟩ = some (.bool true) ∧ wa.cell? ⟨g, 1, none⟩ = some (.int .i64 32) ∧ wa.cell? ⟨g, 2, none⟩ = some (.int .i64 39)) → (Below w.heap.size w wb ∧ w.heap.size ≤ wb.heap.size ∧ wb.cell? ⟨g, 0, none⟩ = some (.bool true) ∧ wb.cell? ⟨g, 1, none⟩ = some (.int .i64 32) ∧ wb.cell? ⟨g, 2, none⟩ = some (.int .i64 39)) from fun wa wb k ⟨h1, h2, c0, c1, c2⟩ => ⟨below_keep h1 k h2, by have := k.size; omega, cell_keep k c0, cell_keep k c1, cell_keep k c2⟩)
      have y1 : IntKind.i64.wrap (8 * (m : Int)) = 8 * (m : Int) := IntWalk.i64_in _ (by omega)
      have y2 : IntKind.i64.wrap (39 + 8 * (m : Int)) = 39 + 8 * (m : Int) := IntWalk.i64_in _ (by omega)
      go_region_held3 (fun w' => Below w.heap.size w w' ∧ w.heap.size ≤ w'.heap.size ∧ w'.cell? ⟨g, 0, none⟩ = some (.bool true) ∧ w'.cell? ⟨g, 1, none⟩ = some (.int .i64 32) ∧ w'.cell? ⟨g, 2, none⟩ = some (.int .i64 39))
        (first | assumption | exact ⟨hBd, hBs, d0, d1, d2⟩)
        (first
          | (go_at_call 85; (with_reducible refine (CA.out _).mono ?_); rintro e w' ⟨rfl, hb⟩; have hS := KS.out _ _ hb (by assumption))
          | (go_at_call 55; (with_reducible refine (CB.out _).mono ?_); rintro e w' ⟨rfl, rfl⟩))
      rename_i hdup
      clear hdup
      have hE := hS.1
      clear hS
      go_wp2
      go_ret2
      exact ⟨ret_two (by rw [HZ.out]; simp) (by rw [HZ.out]; rfl), hE⟩

/-- Size, of a row that may be -/
theorem size4_any (s : ByteArray) (w : World) (hr : B.right s = true) :
    Calls Tryz.prog 64 #[.string s] w fun e w' => e = .returned (.tuple #[.int .i64 (B.sizeL s.data.toList).1, .int .i64 (B.sizeL s.data.toList).2]) ∧ Below w.heap.size w w' := by
  by_cases h : 13 < s.size
  · by_cases h13 : s[13].toNat = 49
    · exact size4_39 s w hr h h13
    · exact size4_19 s w hr h h13
  · exact size4_14 s w hr (by omega)
end Go.Proofs.YtcaeobkaoebndaaGreat
