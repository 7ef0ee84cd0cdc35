/- What the operations on integers give, one operation after the other: the program's, and the document's own answer. -/
import Derived.Test.YtjnfjceopddhgaaK1
namespace Go.Proofs.Ytjnfjceopddhgaa.K2
open Go.ChangeShapes Go.WideShapes Go.ChangeAt Go.RowKit
open Go.Proofs.Ytjnfjceopddhgaa.M Go.Proofs.Ytjnfjceopddhgaa.K1
set_option linter.unusedVariables false

/-- A number that is an integer of 63 bits. -/
structure In (n : Int) : Prop where
  lo : -4611686018427387904 ≤ n
  hi : n ≤ 4611686018427387903
theorem In.w63 (n : Int) : In (w63 n) := ⟨w63_lo n, w63_hi n⟩

theorem do_add (a b : Int) (w : World) (ha : In a) (hb : In b) :
    Calls Try.prog 13 #[.string ⟨#[43]⟩, .int .i64 a, .int .i64 b] w fun e w' => e = .returned (.tuple #[.int .i64 (w63 (a + b)), .int .i64 0]) ∧ w = w' := by
  obtain ⟨a0, a1⟩ := ha
  obtain ⟨b0, b1⟩ := hb
  go_enter Try.func13, Try.ntmps13
  go_wp2_with (first | (go_at_call 27; refine (int_yes _ _ (by omega) (by omega)).mono ?_; rintro e w' ⟨rfl, rfl⟩) | (go_at_call 16; refine (wrap_any _ _ (by omega) (by omega)).mono ?_; rintro e w' ⟨rfl, rfl⟩))
  go_ret2
  exact ⟨rfl, rfl⟩

theorem do_sub (a b : Int) (w : World) (ha : In a) (hb : In b) :
    Calls Try.prog 13 #[.string ⟨#[45]⟩, .int .i64 a, .int .i64 b] w fun e w' => e = .returned (.tuple #[.int .i64 (w63 (a - b)), .int .i64 0]) ∧ w = w' := by
  obtain ⟨a0, a1⟩ := ha
  obtain ⟨b0, b1⟩ := hb
  go_enter Try.func13, Try.ntmps13
  go_wp2_with (first | (go_at_call 27; refine (int_yes _ _ (by omega) (by omega)).mono ?_; rintro e w' ⟨rfl, rfl⟩) | (go_at_call 16; refine (wrap_any _ _ (by omega) (by omega)).mono ?_; rintro e w' ⟨rfl, rfl⟩))
  go_ret2
  exact ⟨rfl, rfl⟩

theorem do_mul (a b : Int) (w : World) (ha : In a) (hb : In b) :
    Calls Try.prog 13 #[.string ⟨#[42]⟩, .int .i64 a, .int .i64 b] w fun e w' => e = .returned (.tuple #[.int .i64 (w63 (a * b)), .int .i64 0]) ∧ w = w' := by
  obtain ⟨a0, a1⟩ := ha
  obtain ⟨b0, b1⟩ := hb
  go_enter Try.func13, Try.ntmps13
  go_wp2_with (first | (go_at_call 27; refine (int_yes _ _ (by omega) (by omega)).mono ?_; rintro e w' ⟨rfl, rfl⟩) | (go_at_call 16; refine (wrap_any _ _ (wrap64_lo _) (wrap64_hi _)).mono ?_; rintro e w' ⟨rfl, rfl⟩))
  go_ret2
  exact ⟨ret2 (w63_wrap64 _), rfl⟩

theorem do_quo (a b : Int) (w : World) (ha : In a) (hb : In b) (h : b ≠ 0) :
    Calls Try.prog 13 #[.string ⟨#[47]⟩, .int .i64 a, .int .i64 b] w fun e w' => e = .returned (.tuple #[.int .i64 (w63 (a.tdiv b)), .int .i64 0]) ∧ w = w' := by
  obtain ⟨a0, a1⟩ := ha
  obtain ⟨b0, b1⟩ := hb
  have e1 : (b != 0) = true := by rw [bne_iff_ne]; exact h
  have e2 : ¬ b = 0 := h
  clear h
  go_enter Try.func13, Try.ntmps13
  go_wp2_with (first | (go_at_call 27; refine (int_yes _ _ (by omega) (by omega)).mono ?_; rintro e w' ⟨rfl, rfl⟩) | (go_at_call 16; refine (wrap_any _ _ (wrap64_lo _) (wrap64_hi _)).mono ?_; rintro e w' ⟨rfl, rfl⟩))
  go_ret2
  exact ⟨ret2 (w63_wrap64 _), rfl⟩

theorem do_rem (a b : Int) (w : World) (ha : In a) (hb : In b) (h : b ≠ 0) :
    Calls Try.prog 13 #[.string ⟨#[37]⟩, .int .i64 a, .int .i64 b] w fun e w' => e = .returned (.tuple #[.int .i64 (a.tmod b), .int .i64 0]) ∧ w = w' := by
  obtain ⟨a0, a1⟩ := ha
  obtain ⟨b0, b1⟩ := hb
  have e1 : (b == 0) = false := beq_eq_false_iff_ne.2 h
  have e2 : ¬ b = 0 := h
  clear h
  go_enter Try.func13, Try.ntmps13
  go_wp2_with (go_at_call 27; refine (int_yes _ _ (by omega) (by omega)).mono ?_; rintro e w' ⟨rfl, rfl⟩)
  go_ret2
  exact ⟨rfl, rfl⟩

theorem do_quo0 (a : Int) (w : World) (ha : In a) :
    Calls Try.prog 13 #[.string ⟨#[47]⟩, .int .i64 a, .int .i64 0] w fun e w' => e = .returned (.tuple #[.int .i64 0, .int .i64 3]) ∧ w = w' := by
  obtain ⟨a0, a1⟩ := ha
  go_enter Try.func13, Try.ntmps13
  go_wp2_with (go_at_call 27; refine (int_yes _ _ (by omega) (by omega)).mono ?_; rintro e w' ⟨rfl, rfl⟩)
  go_ret2
  exact ⟨rfl, rfl⟩

theorem do_rem0 (a : Int) (w : World) (ha : In a) :
    Calls Try.prog 13 #[.string ⟨#[37]⟩, .int .i64 a, .int .i64 0] w fun e w' => e = .returned (.tuple #[.int .i64 0, .int .i64 3]) ∧ w = w' := by
  obtain ⟨a0, a1⟩ := ha
  go_enter Try.func13, Try.ntmps13
  go_wp2_with (go_at_call 27; refine (int_yes _ _ (by omega) (by omega)).mono ?_; rintro e w' ⟨rfl, rfl⟩)
  go_ret2
  exact ⟨rfl, rfl⟩

theorem do_eq (a b : Int) (w : World) (ha : In a) (hb : In b) :
    Calls Try.prog 13 #[.string ⟨#[61]⟩, .int .i64 a, .int .i64 b] w fun e w' => e = .returned (.tuple #[.int .i64 (tr (a == b)), .int .i64 0]) ∧ w = w' := by
  obtain ⟨a0, a1⟩ := ha
  obtain ⟨b0, b1⟩ := hb
  go_enter Try.func13, Try.ntmps13
  go_wp2_with (first | (go_at_call 27; refine (int_yes _ _ (by omega) (by omega)).mono ?_; rintro e w' ⟨rfl, rfl⟩) | (go_at_call 28; refine (truth_any _ _).mono ?_; rintro e w' ⟨rfl, rfl⟩))
  go_ret2
  exact ⟨rfl, rfl⟩

theorem do_lt (a b : Int) (w : World) (ha : In a) (hb : In b) :
    Calls Try.prog 13 #[.string ⟨#[60]⟩, .int .i64 a, .int .i64 b] w fun e w' => e = .returned (.tuple #[.int .i64 (tr (decide (a < b))), .int .i64 0]) ∧ w = w' := by
  obtain ⟨a0, a1⟩ := ha
  obtain ⟨b0, b1⟩ := hb
  go_enter Try.func13, Try.ntmps13
  go_wp2_with (first | (go_at_call 27; refine (int_yes _ _ (by omega) (by omega)).mono ?_; rintro e w' ⟨rfl, rfl⟩) | (go_at_call 28; refine (truth_any _ _).mono ?_; rintro e w' ⟨rfl, rfl⟩))
  go_ret2
  exact ⟨rfl, rfl⟩

/-! The same, each with its answer named by the caller. -/
theorem rwrap_as (n c : Int) (w : World) (h0 : -9223372036854775808 ≤ n) (h1 : n ≤ 9223372036854775807) (h : w63 n = c) :
    Calls Try.prog 17 #[.int .i64 n] w fun e w' => e = .returned (.int .i64 c) ∧ w = w' := by
  subst h; exact rwrap_any n w h0 h1
theorem do_add_as (a b c : Int) (w : World) (ha : In a) (hb : In b) (h : w63 (a + b) = c) :
    Calls Try.prog 13 #[.string ⟨#[43]⟩, .int .i64 a, .int .i64 b] w fun e w' => e = .returned (.tuple #[.int .i64 c, .int .i64 0]) ∧ w = w' := by
  subst h; exact do_add a b w ha hb
theorem do_sub_as (a b c : Int) (w : World) (ha : In a) (hb : In b) (h : w63 (a - b) = c) :
    Calls Try.prog 13 #[.string ⟨#[45]⟩, .int .i64 a, .int .i64 b] w fun e w' => e = .returned (.tuple #[.int .i64 c, .int .i64 0]) ∧ w = w' := by
  subst h; exact do_sub a b w ha hb
theorem do_mul_as (a b c : Int) (w : World) (ha : In a) (hb : In b) (h : w63 (a * b) = c) :
    Calls Try.prog 13 #[.string ⟨#[42]⟩, .int .i64 a, .int .i64 b] w fun e w' => e = .returned (.tuple #[.int .i64 c, .int .i64 0]) ∧ w = w' := by
  subst h; exact do_mul a b w ha hb
theorem do_quo_as (a b c : Int) (w : World) (ha : In a) (hb : In b) (h0 : b ≠ 0) (h : w63 (a.tdiv b) = c) :
    Calls Try.prog 13 #[.string ⟨#[47]⟩, .int .i64 a, .int .i64 b] w fun e w' => e = .returned (.tuple #[.int .i64 c, .int .i64 0]) ∧ w = w' := by
  subst h; exact do_quo a b w ha hb h0
theorem do_rem_as (a b c : Int) (w : World) (ha : In a) (hb : In b) (h0 : b ≠ 0) (h : a.tmod b = c) :
    Calls Try.prog 13 #[.string ⟨#[37]⟩, .int .i64 a, .int .i64 b] w fun e w' => e = .returned (.tuple #[.int .i64 c, .int .i64 0]) ∧ w = w' := by
  subst h; exact do_rem a b w ha hb h0
theorem do_eq_as (a b c : Int) (w : World) (ha : In a) (hb : In b) (h : tr (a == b) = c) :
    Calls Try.prog 13 #[.string ⟨#[61]⟩, .int .i64 a, .int .i64 b] w fun e w' => e = .returned (.tuple #[.int .i64 c, .int .i64 0]) ∧ w = w' := by
  subst h; exact do_eq a b w ha hb
theorem do_lt_as (a b c : Int) (w : World) (ha : In a) (hb : In b) (h : tr (decide (a < b)) = c) :
    Calls Try.prog 13 #[.string ⟨#[60]⟩, .int .i64 a, .int .i64 b] w fun e w' => e = .returned (.tuple #[.int .i64 c, .int .i64 0]) ∧ w = w' := by
  subst h; exact do_lt a b w ha hb

end Go.Proofs.Ytjnfjceopddhgaa.K2
