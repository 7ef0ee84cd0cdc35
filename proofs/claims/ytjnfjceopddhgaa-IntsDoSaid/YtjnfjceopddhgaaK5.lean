/- The document's own answer for sums, products and the like: what its parts give. -/
import Derived.Test.YtjnfjceopddhgaaK2
namespace Go.Proofs.Ytjnfjceopddhgaa.K5
open Go.ChangeShapes Go.WideShapes Go.ChangeAt Go.RowKit
open Go.Proofs.Ytjnfjceopddhgaa.M Go.Proofs.Ytjnfjceopddhgaa.K1 Go.Proofs.Ytjnfjceopddhgaa.K2
set_option linter.unusedVariables false

theorem radd_any (a b : Int) (w : World) (ha : In a) (hb : In b) :
    Calls Try.prog 29 #[.int .i64 a, .int .i64 b] w fun e w' => e = .returned (.int .i64 (w63 (a + b))) ∧ w = w' := by
  obtain ⟨a0, a1⟩ := ha
  obtain ⟨b0, b1⟩ := hb
  go_enter Try.func29, Try.ntmps29
  go_wp2_with (go_at_call 17; refine (rwrap_any _ _ (by omega) (by omega)).mono ?_; rintro e w' ⟨rfl, rfl⟩)
  go_ret
  exact ⟨rfl, rfl⟩

/-- What is out already, and what is left, come to the product. -/
def Left (T A O : Int) (m : Nat) : Prop := w63 (O + A * (m : Int)) = T
theorem left_even {T A O : Int} {m : Nat} (h : Left T A O m) (e : m % 2 = 0) : Left T (w63 (A + A)) O (m / 2) := by
  unfold Left at *
  rw [← h]
  have k : (m : Int) = 2 * ((m / 2 : Nat) : Int) := by omega
  rw [← w63_add_r, w63_mul_l, w63_add_r]
  congr 1
  rw [k, ← Int.mul_assoc, show A * 2 = A + A from by omega]
theorem left_odd {T A O : Int} {m : Nat} (h : Left T A O m) (e : m % 2 = 1) : Left T (w63 (A + A)) (w63 (O + A)) (m / 2) := by
  unfold Left at *
  rw [← h]
  have k : (m : Int) = 2 * ((m / 2 : Nat) : Int) + 1 := by omega
  rw [w63_add_l, ← w63_add_r, w63_mul_l, w63_add_r]
  congr 1
  rw [show A * (m : Int) = A * (2 * ((m / 2 : Nat) : Int) + 1) from by rw [← k], Int.mul_add, ← Int.mul_assoc, show A * 2 = A + A from by omega]
  omega
theorem half_lt {m i : Nat} (h : m < 2 ^ (63 - i)) (hi : i < 63) : m / 2 < 2 ^ (63 - (i + 1)) := by
  have e : 63 - i = (63 - (i + 1)) + 1 := by omega
  rw [e, Nat.pow_succ] at h
  omega

theorem rmul_pos (a : Int) (m : Nat) (w : World) (ha : In a) (hm : m ≤ 4611686018427387904) :
    Calls Try.prog 30 #[.int .i64 a, .int .i64 (m : Int)] w fun e w' => e = .returned (.int .i64 (w63 (a * m))) ∧ w = w' := by
  have ha' := ha
  obtain ⟨a0, a1⟩ := ha'
  have hm63 : m < 2 ^ (63 - 0) := by omega
  go_enter Try.func30, Try.ntmps30
  go_wp2
  go_loop [0, 1, 6, 7] (fun x y o t => ∃ (i n : Nat) (A O : Int), i ≤ 63 ∧ n < 2 ^ (63 - i) ∧ In A ∧ In O ∧ Left (w63 (a * m)) A O n ∧ x = .int .i64 A ∧ y = .int .i64 (n : Int) ∧ o = .int .i64 O ∧ t = .int .i64 (i : Int)) (fun _ _ _ t => 63 - (intOf t).toNat)
  case atStart => exact ⟨0, m, a, 0, by omega, hm63, ha, ⟨by omega, by omega⟩, by unfold Left; rw [Int.zero_add], rfl, rfl, rfl, rfl⟩
  case round =>
    obtain ⟨i, n, A, O, hi, hn, iA, iO, hL, rfl, rfl, rfl, rfl⟩ := hrel
    obtain ⟨A0, A1⟩ := iA
    obtain ⟨O0, O1⟩ := iO
    have hn63 : n < 2 ^ 63 := Nat.lt_of_lt_of_le hn (Nat.pow_le_pow_right (by omega) (by omega))
    have HN := Lib.hid hn
    clear hn hm63 ha
    by_cases hlt : i < 63
    · by_cases hp : n % 2 = 0
      · have hb : ((n : Int) % 2 != 0) = false := by rw [bne_eq_false_iff_eq]; omega
        have HL := Lib.hid (left_even hL hp)
        clear hL hp
        go_wp2_with (go_at_call 17; refine (rwrap_any _ _ (by omega) (by omega)).mono ?_; rintro e w' ⟨rfl, rfl⟩)
        go_round
        case rel => exact ⟨i + 1, n / 2, w63 (A + A), O, by omega, half_lt HN.out hlt, In.w63 _, ⟨O0, O1⟩, HL.out, rfl, by go_num, rfl, by go_num⟩
        case measure => simp [intOf]; omega
      · have hb : ((n : Int) % 2 != 0) = true := by rw [bne_iff_ne]; omega
        have HL := Lib.hid (left_odd hL (by omega))
        clear hL hp
        go_wp2_with (go_at_call 17; refine (rwrap_any _ _ (by omega) (by omega)).mono ?_; rintro e w' ⟨rfl, rfl⟩)
        go_round
        case rel => exact ⟨i + 1, n / 2, w63 (A + A), w63 (O + A), by omega, half_lt HN.out hlt, In.w63 _, In.w63 _, HL.out, rfl, by go_num, rfl, by go_num⟩
        case measure => simp [intOf]; omega
    · have h63 : i = 63 := by omega
      have hO : O = w63 (a * m) := by
        have hz := HN.out
        rw [h63] at hz
        have hz0 : n = 0 := by omega
        unfold Left at hL
        rw [← hL, hz0]
        simp only [Int.natCast_zero, Int.mul_zero, Int.add_zero]
        exact (w63_id O O0 O1).symm
      have HO := Lib.hid hO
      clear hO hL h63
      go_wp2
      go_ret
      exact ⟨ret_int HO.out, rfl⟩
theorem rmul_neg (a : Int) (m : Nat) (w : World) (ha : In a) (hm : m ≤ 4611686018427387904) (hm1 : 1 ≤ m) :
    Calls Try.prog 30 #[.int .i64 a, .int .i64 (-(m : Int))] w fun e w' => e = .returned (.int .i64 (w63 (a * -(m : Int)))) ∧ w = w' := by
  have ha' := ha
  obtain ⟨a0, a1⟩ := ha'
  have hm63 : m < 2 ^ (63 - 0) := by omega
  go_enter Try.func30, Try.ntmps30
  go_wp2
  go_loop [0, 1, 6, 7] (fun x y o t => ∃ (i n : Nat) (A O : Int), i ≤ 63 ∧ n < 2 ^ (63 - i) ∧ In A ∧ In O ∧ Left (w63 (a * m)) A O n ∧ x = .int .i64 A ∧ y = .int .i64 (-(n : Int)) ∧ o = .int .i64 O ∧ t = .int .i64 (i : Int)) (fun _ _ _ t => 63 - (intOf t).toNat)
  case atStart => exact ⟨0, m, a, 0, by omega, hm63, ha, ⟨by omega, by omega⟩, by unfold Left; rw [Int.zero_add], rfl, rfl, rfl, rfl⟩
  case round =>
    obtain ⟨i, n, A, O, hi, hn, iA, iO, hL, rfl, rfl, rfl, rfl⟩ := hrel
    obtain ⟨A0, A1⟩ := iA
    obtain ⟨O0, O1⟩ := iO
    have hn63 : n < 2 ^ 63 := Nat.lt_of_lt_of_le hn (Nat.pow_le_pow_right (by omega) (by omega))
    have HN := Lib.hid hn
    have ht : (-(n : Int)).tmod 2 = -((n : Int) % 2) := by rw [tmod_neg_l, tmod_pos _ _ (by omega)]
    have hq : (-(n : Int)).tdiv 2 = -((n : Int) / 2) := by rw [tdiv_neg_l, tdiv_pos _ _ (by omega)]
    clear hn hm63 ha
    by_cases hlt : i < 63
    · by_cases hp : n % 2 = 0
      · have hb : (-((n : Int) % 2) != 0) = false := by rw [bne_eq_false_iff_eq]; omega
        have HL := Lib.hid (left_even hL hp)
        clear hL hp
        go_wp2_with (go_at_call 17; refine (rwrap_any _ _ (by omega) (by omega)).mono ?_; rintro e w' ⟨rfl, rfl⟩)
        go_round
        case rel => exact ⟨i + 1, n / 2, w63 (A + A), O, by omega, half_lt HN.out hlt, In.w63 _, ⟨O0, O1⟩, HL.out, rfl, by go_num, rfl, by go_num⟩
        case measure => simp [intOf]; omega
      · have hb : (-((n : Int) % 2) != 0) = true := by rw [bne_iff_ne]; omega
        have HL := Lib.hid (left_odd hL (by omega))
        clear hL hp
        go_wp2_with (go_at_call 17; refine (rwrap_any _ _ (by omega) (by omega)).mono ?_; rintro e w' ⟨rfl, rfl⟩)
        go_round
        case rel => exact ⟨i + 1, n / 2, w63 (A + A), w63 (O + A), by omega, half_lt HN.out hlt, In.w63 _, In.w63 _, HL.out, rfl, by go_num, rfl, by go_num⟩
        case measure => simp [intOf]; omega
    · have h63 : i = 63 := by omega
      have hO : O = w63 (a * m) := by
        have hz := HN.out
        rw [h63] at hz
        have hz0 : n = 0 := by omega
        unfold Left at hL
        rw [← hL, hz0]
        simp only [Int.natCast_zero, Int.mul_zero, Int.add_zero]
        exact (w63_id O O0 O1).symm
      have HO := Lib.hid hO
      clear hO hL h63
      go_wp2_with (go_at_call 17; refine (rwrap_any _ _ (by omega) (by omega)).mono ?_; rintro e w' ⟨rfl, rfl⟩)
      go_ret
      exact ⟨ret_int (by rw [HO.out, w63_neg, Int.mul_neg]), rfl⟩
theorem rmul_any (a b : Int) (w : World) (ha : In a) (hb : In b) :
    Calls Try.prog 30 #[.int .i64 a, .int .i64 b] w fun e w' => e = .returned (.int .i64 (w63 (a * b))) ∧ w = w' := by
  obtain ⟨b0, b1⟩ := hb
  by_cases h : 0 ≤ b
  · obtain ⟨m, rfl⟩ := Int.eq_ofNat_of_zero_le h
    exact rmul_pos a m w ha (by omega)
  · obtain ⟨m, hm⟩ := Int.eq_ofNat_of_zero_le (show 0 ≤ -b by omega)
    obtain rfl : b = -(m : Int) := by omega
    exact rmul_neg a m w ha (by omega) (by omega)

theorem rdo_add (a b : Int) (w : World) (ia : In a) (ib : In b) :
    Calls Try.prog 14 #[.string ⟨#[43]⟩, .int .i64 a, .int .i64 b] w fun e w' => e = .returned (.tuple #[.int .i64 (w63 (a + b)), .int .i64 0]) ∧ w = w' := by
  have ia' := ia
  obtain ⟨a0, a1⟩ := ia'
  have ib' := ib
  obtain ⟨b0, b1⟩ := ib'
  go_enter Try.func14, Try.ntmps14
  go_wp2_with (first | (go_at_call 18; refine (is_yes _ _ (by omega) (by omega)).mono ?_; rintro e w' ⟨rfl, rfl⟩) | (go_at_call 29; refine (radd_any _ _ _ ia ib).mono ?_; rintro e w' ⟨rfl, rfl⟩))
  go_ret2
  exact ⟨rfl, rfl⟩

theorem rdo_sub (a b : Int) (w : World) (ia : In a) (ib : In b) :
    Calls Try.prog 14 #[.string ⟨#[45]⟩, .int .i64 a, .int .i64 b] w fun e w' => e = .returned (.tuple #[.int .i64 (w63 (a - b)), .int .i64 0]) ∧ w = w' := by
  have ia' := ia
  obtain ⟨a0, a1⟩ := ia'
  have ib' := ib
  obtain ⟨b0, b1⟩ := ib'
  go_enter Try.func14, Try.ntmps14
  go_wp2_with (first | (go_at_call 18; refine (is_yes _ _ (by omega) (by omega)).mono ?_; rintro e w' ⟨rfl, rfl⟩) | (go_at_call 17; refine (rwrap_any _ _ (by omega) (by omega)).mono ?_; rintro e w' ⟨rfl, rfl⟩))
  go_ret2
  exact ⟨rfl, rfl⟩

theorem rdo_mul (a b : Int) (w : World) (ia : In a) (ib : In b) :
    Calls Try.prog 14 #[.string ⟨#[42]⟩, .int .i64 a, .int .i64 b] w fun e w' => e = .returned (.tuple #[.int .i64 (w63 (a * b)), .int .i64 0]) ∧ w = w' := by
  have ia' := ia
  obtain ⟨a0, a1⟩ := ia'
  have ib' := ib
  obtain ⟨b0, b1⟩ := ib'
  go_enter Try.func14, Try.ntmps14
  go_wp2_with (first | (go_at_call 18; refine (is_yes _ _ (by omega) (by omega)).mono ?_; rintro e w' ⟨rfl, rfl⟩) | (go_at_call 30; refine (rmul_any _ _ _ ia ib).mono ?_; rintro e w' ⟨rfl, rfl⟩))
  go_ret2
  exact ⟨rfl, rfl⟩

theorem rdo_quo (a b : Int) (w : World) (ia : In a) (ib : In b) (h : b ≠ 0) :
    Calls Try.prog 14 #[.string ⟨#[47]⟩, .int .i64 a, .int .i64 b] w fun e w' => e = .returned (.tuple #[.int .i64 (w63 (a.tdiv b)), .int .i64 0]) ∧ w = w' := by
  have ia' := ia
  obtain ⟨a0, a1⟩ := ia'
  have ib' := ib
  obtain ⟨b0, b1⟩ := ib'
  have e1 : (b == 0) = false := beq_eq_false_iff_ne.2 h
  have e2 : ¬ b = 0 := h
  clear h
  go_enter Try.func14, Try.ntmps14
  go_wp2_with (first | (go_at_call 18; refine (is_yes _ _ (by omega) (by omega)).mono ?_; rintro e w' ⟨rfl, rfl⟩) | (go_at_call 17; refine (rwrap_any _ _ (wrap64_lo _) (wrap64_hi _)).mono ?_; rintro e w' ⟨rfl, rfl⟩))
  go_ret2
  exact ⟨ret2 (w63_wrap64 _), rfl⟩

theorem rdo_rem (a b : Int) (w : World) (ia : In a) (ib : In b) (h : b ≠ 0) :
    Calls Try.prog 14 #[.string ⟨#[37]⟩, .int .i64 a, .int .i64 b] w fun e w' => e = .returned (.tuple #[.int .i64 (a.tmod b), .int .i64 0]) ∧ w = w' := by
  have ia' := ia
  obtain ⟨a0, a1⟩ := ia'
  have ib' := ib
  obtain ⟨b0, b1⟩ := ib'
  have e1 : (b == 0) = false := beq_eq_false_iff_ne.2 h
  have e2 : ¬ b = 0 := h
  clear h
  go_enter Try.func14, Try.ntmps14
  go_wp2_with (first | (go_at_call 18; refine (is_yes _ _ (by omega) (by omega)).mono ?_; rintro e w' ⟨rfl, rfl⟩))
  go_ret2
  exact ⟨ret2 (rem_code a b a0 a1), rfl⟩

theorem rdo_quo0 (a : Int) (w : World) (ia : In a) :
    Calls Try.prog 14 #[.string ⟨#[47]⟩, .int .i64 a, .int .i64 0] w fun e w' => e = .returned (.tuple #[.int .i64 0, .int .i64 3]) ∧ w = w' := by
  have ia' := ia
  obtain ⟨a0, a1⟩ := ia'
  go_enter Try.func14, Try.ntmps14
  go_wp2_with (first | (go_at_call 18; refine (is_yes _ _ (by omega) (by omega)).mono ?_; rintro e w' ⟨rfl, rfl⟩))
  go_ret2
  exact ⟨rfl, rfl⟩

theorem rdo_rem0 (a : Int) (w : World) (ia : In a) :
    Calls Try.prog 14 #[.string ⟨#[37]⟩, .int .i64 a, .int .i64 0] w fun e w' => e = .returned (.tuple #[.int .i64 0, .int .i64 3]) ∧ w = w' := by
  have ia' := ia
  obtain ⟨a0, a1⟩ := ia'
  go_enter Try.func14, Try.ntmps14
  go_wp2_with (first | (go_at_call 18; refine (is_yes _ _ (by omega) (by omega)).mono ?_; rintro e w' ⟨rfl, rfl⟩))
  go_ret2
  exact ⟨rfl, rfl⟩

theorem rdo_eq (a b : Int) (w : World) (ia : In a) (ib : In b) :
    Calls Try.prog 14 #[.string ⟨#[61]⟩, .int .i64 a, .int .i64 b] w fun e w' => e = .returned (.tuple #[.int .i64 (tr ((a == b))), .int .i64 0]) ∧ w = w' := by
  obtain ⟨a0, a1⟩ := ia
  obtain ⟨b0, b1⟩ := ib
  by_cases h : a = b
  · have g : (a == b) = true := by simp [h]
    rw [show tr ((a == b)) = 1 from by rw [g]; rfl]
    clear h
    go_enter Try.func14, Try.ntmps14
    go_wp2_with (first | (go_at_call 18; refine (is_yes _ _ (by omega) (by omega)).mono ?_; rintro e w' ⟨rfl, rfl⟩))
    go_ret2
    exact ⟨rfl, rfl⟩
  · have g : (a == b) = false := by simp [h]
    rw [show tr ((a == b)) = 0 from by rw [g]; rfl]
    clear h
    go_enter Try.func14, Try.ntmps14
    go_wp2_with (first | (go_at_call 18; refine (is_yes _ _ (by omega) (by omega)).mono ?_; rintro e w' ⟨rfl, rfl⟩))
    go_ret2
    exact ⟨rfl, rfl⟩

theorem rdo_lt (a b : Int) (w : World) (ia : In a) (ib : In b) :
    Calls Try.prog 14 #[.string ⟨#[60]⟩, .int .i64 a, .int .i64 b] w fun e w' => e = .returned (.tuple #[.int .i64 (tr (decide (a < b))), .int .i64 0]) ∧ w = w' := by
  obtain ⟨a0, a1⟩ := ia
  obtain ⟨b0, b1⟩ := ib
  by_cases h : a < b
  · have g : decide (a < b) = true := by simp [h]
    rw [show tr (decide (a < b)) = 1 from by rw [g]; rfl]
    skip
    go_enter Try.func14, Try.ntmps14
    go_wp2_with (first | (go_at_call 18; refine (is_yes _ _ (by omega) (by omega)).mono ?_; rintro e w' ⟨rfl, rfl⟩))
    go_ret2
    exact ⟨rfl, rfl⟩
  · have g : decide (a < b) = false := by simp [h]
    rw [show tr (decide (a < b)) = 0 from by rw [g]; rfl]
    skip
    go_enter Try.func14, Try.ntmps14
    go_wp2_with (first | (go_at_call 18; refine (is_yes _ _ (by omega) (by omega)).mono ?_; rintro e w' ⟨rfl, rfl⟩))
    go_ret2
    exact ⟨rfl, rfl⟩

end Go.Proofs.Ytjnfjceopddhgaa.K5
