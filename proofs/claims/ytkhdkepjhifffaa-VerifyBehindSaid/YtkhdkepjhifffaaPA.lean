/- Whether a code may be, by the program: the walks. -/
import Derived.Test.YtkhdkepjhifffaaKC
namespace Go.Proofs.Ytkhdkepjhifffaa.PA
open Go.RowKit Go.Proofs.Ytkhdkepjhifffaa.RG Go.Proofs.Ytkhdkepjhifffaa.KA Go.Proofs.Ytkhdkepjhifffaa.KB Go.Proofs.Ytkhdkepjhifffaa.KC
set_option linter.unusedVariables false
set_option maxRecDepth 100000
set_option maxRecDepth 100000

theorem within_c {n l g : Int} {b : Bool} (h : (decide (l ≤ n) && decide (n ≤ g)) = b) (w : World) : Calls Try.prog 45 #[.int .i64 n, .int .i64 l, .int .i64 g] w fun e w' => e = .returned (.bool b) ∧ w' = w := by
  subst h
  by_cases h1 : l ≤ n
  · by_cases h2 : n ≤ g
    · go_enter Try.func45, Try.ntmps45
      go_wp2_with fail
      go_ret
      exact ⟨ret_bool (by simp [h1, h2]), rfl⟩
    · go_enter Try.func45, Try.ntmps45
      go_wp2_with fail
      go_ret
      exact ⟨ret_bool (by simp [h2]), rfl⟩
  · go_enter Try.func45, Try.ntmps45
    go_wp2_with fail
    go_ret
    exact ⟨ret_bool (by simp; omega), rfl⟩
def oneL : List Int := [1, 2, 3, 4, 6, 7, 8, 12, 16, 17, 19, 21, 28]
theorem uses_two {op : Int} (h : op ∈ twoL) : uses op = 2 := by
  simp only [twoL, List.mem_cons, List.not_mem_nil, or_false] at h
  rcases h with rfl | rfl | rfl <;> rfl
theorem uses_one {op : Int} (h : op ∈ oneL) : uses op = 1 := by
  simp only [oneL, List.mem_cons, List.not_mem_nil, or_false] at h
  rcases h with rfl | rfl | rfl | rfl | rfl | rfl | rfl | rfl | rfl | rfl | rfl | rfl | rfl <;> rfl
theorem uses_none {op : Int} (h2 : op ∉ twoL) (h1 : op ∉ oneL) (ha : 1 ≤ op) (hb : op ≤ 33) : uses op = 0 := by
  unfold uses
  rw [if_neg (by omega), if_neg h2, if_pos]
  simp only [oneL, twoL, noneL, List.mem_cons, List.not_mem_nil, or_false] at *
  omega
theorem uses_no {op : Int} (h : ¬ (1 ≤ op ∧ op ≤ 33)) : uses op = -1 := by
  unfold uses
  rw [if_pos (by omega)]
set_option maxHeartbeats 4000000 in
theorem puses_c (op : Int) (w : World) : Calls Try.prog 75 #[.int .i64 op] w fun e w' => e = .returned (.int .i64 (uses op)) ∧ w' = w := by
  by_cases h2 : op ∈ twoL
  · obtain ⟨R, HR⟩ : ∃ R, Hid (uses op = R) := ⟨_, Lib.hid rfl⟩
    have HRR := Lib.hid (show (2 : Int) = R from by rw [← HR.out, uses_two h2])
    rw [HR.out]
    clear HR
    simp only [twoL, List.mem_cons, List.not_mem_nil, or_false] at h2
    rcases h2 with rfl | rfl | rfl
    all_goals
      go_enter Try.func75, Try.ntmps75
      go_wp2_with fail
      go_ret
      exact ⟨ret_int HRR.out, rfl⟩
  by_cases h1 : op ∈ oneL
  · obtain ⟨R, HR⟩ : ∃ R, Hid (uses op = R) := ⟨_, Lib.hid rfl⟩
    have HRR := Lib.hid (show (1 : Int) = R from by rw [← HR.out, uses_one h1])
    rw [HR.out]
    clear HR h2
    simp only [oneL, List.mem_cons, List.not_mem_nil, or_false] at h1
    rcases h1 with rfl | rfl | rfl | rfl | rfl | rfl | rfl | rfl | rfl | rfl | rfl | rfl | rfl
    all_goals
      go_enter Try.func75, Try.ntmps75
      go_wp2_with fail
      go_ret
      exact ⟨ret_int HRR.out, rfl⟩
  obtain ⟨R, HR⟩ : ∃ R, Hid (uses op = R) := ⟨_, Lib.hid rfl⟩
  rw [HR.out]
  have e10 : (op == 10) = false := by
    rw [beq_eq_false_iff_ne]; intro e; subst e; exact h2 (by decide)
  have e11 : (op == 11) = false := by
    rw [beq_eq_false_iff_ne]; intro e; subst e; exact h2 (by decide)
  have e18 : (op == 18) = false := by
    rw [beq_eq_false_iff_ne]; intro e; subst e; exact h2 (by decide)
  have e1 : (op == 1) = false := by
    rw [beq_eq_false_iff_ne]; intro e; subst e; exact h1 (by decide)
  have e2 : (op == 2) = false := by
    rw [beq_eq_false_iff_ne]; intro e; subst e; exact h1 (by decide)
  have e3 : (op == 3) = false := by
    rw [beq_eq_false_iff_ne]; intro e; subst e; exact h1 (by decide)
  have e4 : (op == 4) = false := by
    rw [beq_eq_false_iff_ne]; intro e; subst e; exact h1 (by decide)
  have e6 : (op == 6) = false := by
    rw [beq_eq_false_iff_ne]; intro e; subst e; exact h1 (by decide)
  have e7 : (op == 7) = false := by
    rw [beq_eq_false_iff_ne]; intro e; subst e; exact h1 (by decide)
  have e8 : (op == 8) = false := by
    rw [beq_eq_false_iff_ne]; intro e; subst e; exact h1 (by decide)
  have e12 : (op == 12) = false := by
    rw [beq_eq_false_iff_ne]; intro e; subst e; exact h1 (by decide)
  have e16 : (op == 16) = false := by
    rw [beq_eq_false_iff_ne]; intro e; subst e; exact h1 (by decide)
  have e17 : (op == 17) = false := by
    rw [beq_eq_false_iff_ne]; intro e; subst e; exact h1 (by decide)
  have e19 : (op == 19) = false := by
    rw [beq_eq_false_iff_ne]; intro e; subst e; exact h1 (by decide)
  have e21 : (op == 21) = false := by
    rw [beq_eq_false_iff_ne]; intro e; subst e; exact h1 (by decide)
  have e28 : (op == 28) = false := by
    rw [beq_eq_false_iff_ne]; intro e; subst e; exact h1 (by decide)
  by_cases h3 : 1 ≤ op ∧ op ≤ 33
  · have HRR := Lib.hid (show (0 : Int) = R from by rw [← HR.out, uses_none h2 h1 h3.1 h3.2])
    have W1 := fun w => within_c (n := op) (l := 1) (g := 33) (b := true) (by simp [h3.1, h3.2]) w
    clear h1 h2 h3 HR
    go_enter Try.func75, Try.ntmps75
    go_wp2_with (go_at_call 45; refine (W1 _).mono ?_; rintro e w3 ⟨rfl, rfl⟩)
    go_ret
    exact ⟨ret_int HRR.out, rfl⟩
  · have HRR := Lib.hid (show (-1 : Int) = R from by rw [← HR.out, uses_no h3])
    have W1 := fun w => within_c (n := op) (l := 1) (g := 33) (b := false) (by simp; omega) w
    clear h1 h2 h3 HR
    go_enter Try.func75, Try.ntmps75
    go_wp2_with (go_at_call 45; refine (W1 _).mono ?_; rintro e w3 ⟨rfl, rfl⟩)
    go_ret
    exact ⟨ret_int HRR.out, rfl⟩

set_option maxHeartbeats 16000000 in
theorem mayInts_c (l : List Int) (v : Value) (w : World) (S : Nat → Prop) (h : RowR TI w S v l) (hl : l.length ≤ 100000000000) : Calls Try.prog 47 #[v] w fun e w' => e = .returned (.bool (l.all intOk)) ∧ Below w.heap.size w w' := by
  obtain ⟨ao, cap, rfl, hcap⟩ := h.val
  obtain ⟨R, HR⟩ : ∃ R, Hid (l.all intOk = R) := ⟨_, Lib.hid rfl⟩
  rw [HR.out]
  obtain ⟨N, hN⟩ : ∃ x, Hid (l.length = x) := ⟨_, Lib.hid rfl⟩
  have HH := Lib.hid h
  rw [hN.out] at hcap hl HH ⊢
  clear h
  go_enter Try.func47, Try.ntmps47
  go_wp2_with fail
  go_loopg [7] N (fun g iv wr => ∃ i : Nat, i + g = N ∧ iv = .int .i64 (i : Int) ∧ Hid ((l.take i).all intOk = true) ∧ Hid (Below w.heap.size w wr))
  case atStart => exact ⟨0, Nat.zero_add _, rfl, Lib.hid rfl, Lib.hid (Below.refl _ _)⟩
  case round =>
    obtain ⟨i, hi, rfl, HA, HX⟩ := hrel
    by_cases hlt : i < N
    · obtain ⟨g, rfl⟩ : ∃ g, gk = g + 1 := ⟨gk - 1, by omega⟩
      have hne : l ≠ [] := by intro e; have := hN.out; rw [e] at this; simp at this; omega
      obtain ⟨b, off, cap, hve, _, hblt, hcells⟩ := HH.out.open_ hne
      rw [hN.out] at hve
      cases hve
      obtain ⟨n, hn⟩ := getElem?_of_lt (l := l) (k := i) (by rw [hN.out]; exact hlt)
      obtain ⟨q, hL, hq⟩ := hcells i n hn
      have HN := Lib.hid hn
      have i0 : (0 : Int) ≤ (i : Int) := by omega
      have i1 : (i : Int) < (N : Int) := by omega
      have hL2 := hL.keep HX.out hblt
      have x0 : wr.cell? ⟨b, off + i, none⟩ = some (.int .i64 n) := by have := hL2 0 _ rfl; simpa [TI, Ty.flat] using this
      clear hcells hL hL2 hn hne hq
      cases hb : intOk n
      · have W1 := fun w => within_c (show (decide (-4611686018427387904 ≤ n) && decide (n ≤ 4611686018427387903)) = false from hb) w
        have HRF := Lib.hid (show false = R from by rw [← HR.out, all_take_no HN.out hb])
        go_wp2_with (go_at_call 45; refine (W1 _).mono ?_; rintro e w3 ⟨rfl, rfl⟩)
        go_ret
        exact ⟨ret_bool HRF.out, HX.out⟩
      · have W1 := fun w => within_c (show (decide (-4611686018427387904 ≤ n) && decide (n ≤ 4611686018427387903)) = true from hb) w
        have HA2 := Lib.hid (all_take_yes HN.out hb HA.out)
        go_wp2_with (go_at_call 45; refine (W1 _).mono ?_; rintro e w3 ⟨rfl, rfl⟩)
        go_roundg g
        case rel => exact ⟨i + 1, by omega, by go_num, HA2, HX⟩
        case measure => omega
    · have HRF := Lib.hid (show true = R from by
        rw [← HR.out]
        have h := HA.out
        rw [List.take_of_length_le (by rw [hN.out]; omega)] at h
        exact h.symm)
      go_wp2_with fail
      go_ret
      exact ⟨ret_bool HRF.out, HX.out⟩

set_option maxHeartbeats 16000000 in
theorem mayTexts_c (l : List By) (v : Value) (w : World) (S : Nat → Prop) (h : RowR TT w S v l) (hl : l.length ≤ 100000000000) : Calls Try.prog 48 #[v] w fun e w' => e = .returned (.bool (l.all textOk)) ∧ Below w.heap.size w w' := by
  obtain ⟨ao, cap, rfl, hcap⟩ := h.val
  obtain ⟨R, HR⟩ : ∃ R, Hid (l.all textOk = R) := ⟨_, Lib.hid rfl⟩
  rw [HR.out]
  obtain ⟨N, hN⟩ : ∃ x, Hid (l.length = x) := ⟨_, Lib.hid rfl⟩
  have HH := Lib.hid h
  rw [hN.out] at hcap hl HH ⊢
  clear h
  go_enter Try.func48, Try.ntmps48
  go_wp2_with fail
  go_loopg [7] N (fun g iv wr => ∃ i : Nat, i + g = N ∧ iv = .int .i64 (i : Int) ∧ Hid ((l.take i).all textOk = true) ∧ Hid (Below w.heap.size w wr))
  case atStart => exact ⟨0, Nat.zero_add _, rfl, Lib.hid rfl, Lib.hid (Below.refl _ _)⟩
  case round =>
    obtain ⟨i, hi, rfl, HA, HX⟩ := hrel
    by_cases hlt : i < N
    · obtain ⟨g, rfl⟩ : ∃ g, gk = g + 1 := ⟨gk - 1, by omega⟩
      have hne : l ≠ [] := by intro e; have := hN.out; rw [e] at this; simp at this; omega
      obtain ⟨b, off, cap, hve, _, hblt, hcells⟩ := HH.out.open_ hne
      rw [hN.out] at hve
      cases hve
      obtain ⟨n, hn⟩ := getElem?_of_lt (l := l) (k := i) (by rw [hN.out]; exact hlt)
      obtain ⟨q, hL, hq⟩ := hcells i n hn
      have HN := Lib.hid hn
      have i0 : (0 : Int) ≤ (i : Int) := by omega
      have i1 : (i : Int) < (N : Int) := by omega
      have hL2 := hL.keep HX.out hblt
      have x0 : wr.cell? ⟨b, off + i, none⟩ = some (.string ⟨n.toArray⟩) := by have := hL2 0 _ rfl; simpa [TT, Ty.flat] using this
      have hsz : (ByteArray.mk n.toArray).size = n.length := rfl
      clear hcells hL hL2 hn hne hq
      by_cases h1 : (n.length : Int) > 60
      · have HRF := Lib.hid (show false = R from by rw [← HR.out, all_take_no HN.out (by simp [textOk]; omega)])
        go_wp2_with fail
        go_ret
        exact ⟨ret_bool HRF.out, HX.out⟩
      · have HA2 := Lib.hid (all_take_yes HN.out (show textOk n = true by simp [textOk]; omega) HA.out)
        go_wp2_with fail
        go_roundg g
        case rel => exact ⟨i + 1, by omega, by go_num, HA2, HX⟩
        case measure => omega
    · have HRF := Lib.hid (show true = R from by
        rw [← HR.out]
        have h := HA.out
        rw [List.take_of_length_le (by rw [hN.out]; omega)] at h
        exact h.symm)
      go_wp2_with fail
      go_ret
      exact ⟨ret_bool HRF.out, HX.out⟩
end Go.Proofs.Ytkhdkepjhifffaa.PA
