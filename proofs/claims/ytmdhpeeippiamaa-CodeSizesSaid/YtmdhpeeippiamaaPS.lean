/- A number from 0 to another, by the law: the walk. -/
import Derived.Test.YtmdhpeeippiamaaPL
namespace Go.Proofs.Ytmdhpeeippiamaa.PS
open Go.RowKit Go.Proofs.Ytmdhpeeippiamaa.RG Go.Proofs.Ytmdhpeeippiamaa.KA Go.Proofs.Ytmdhpeeippiamaa.KB
set_option linter.unusedVariables false
set_option maxRecDepth 100000

theorem size130_c (n : Int) (h0 : -9223372036854775808 ≤ n) (h1 : n ≤ 9223372036854775807) (w : World) : Calls Try.prog 21 #[.int .i64 n, .int .i64 130] w fun e w' => ∃ r : Nat, r ≤ 130 ∧ e = .returned (.int .i64 (r : Int)) ∧ w' = w := by
  by_cases hn : n < 0
  · obtain ⟨m, hm⟩ : ∃ m, -(n + 1) = m := ⟨_, rfl⟩
    obtain ⟨r, hr⟩ : ∃ r : Nat, m.tmod 131 = (r : Int) := ⟨(m.tmod 131).toNat, by
      have := Int.tmod_eq_emod_of_nonneg (a := m) (b := 131) (by omega)
      omega⟩
    have hr1 : r ≤ 130 := by
      have := Int.tmod_eq_emod_of_nonneg (a := m) (b := 131) (by omega)
      omega
    go_enter Try.func21, Try.ntmps21
    go_wp2_with fail
    go_ret
    exact ⟨r, hr1, by first | rfl | (congr 2; omega) | (rw [← hr, ← hm]), rfl⟩
  · obtain ⟨r, hr⟩ : ∃ r : Nat, n.tmod 131 = (r : Int) := ⟨(n.tmod 131).toNat, by
      have := Int.tmod_eq_emod_of_nonneg (a := n) (b := 131) (by omega)
      omega⟩
    have hr1 : r ≤ 130 := by
      have := Int.tmod_eq_emod_of_nonneg (a := n) (b := 131) (by omega)
      omega
    go_enter Try.func21, Try.ntmps21
    go_wp2_with fail
    go_ret
    exact ⟨r, hr1, by first | rfl | (rw [← hr]), rfl⟩
theorem size450_c (n : Int) (h0 : -9223372036854775808 ≤ n) (h1 : n ≤ 9223372036854775807) (w : World) : Calls Try.prog 21 #[.int .i64 n, .int .i64 450] w fun e w' => ∃ r : Nat, r ≤ 450 ∧ e = .returned (.int .i64 (r : Int)) ∧ w' = w := by
  by_cases hn : n < 0
  · obtain ⟨m, hm⟩ : ∃ m, -(n + 1) = m := ⟨_, rfl⟩
    obtain ⟨r, hr⟩ : ∃ r : Nat, m.tmod 451 = (r : Int) := ⟨(m.tmod 451).toNat, by
      have := Int.tmod_eq_emod_of_nonneg (a := m) (b := 451) (by omega)
      omega⟩
    have hr1 : r ≤ 450 := by
      have := Int.tmod_eq_emod_of_nonneg (a := m) (b := 451) (by omega)
      omega
    go_enter Try.func21, Try.ntmps21
    go_wp2_with fail
    go_ret
    exact ⟨r, hr1, by first | rfl | (congr 2; omega) | (rw [← hr, ← hm]), rfl⟩
  · obtain ⟨r, hr⟩ : ∃ r : Nat, n.tmod 451 = (r : Int) := ⟨(n.tmod 451).toNat, by
      have := Int.tmod_eq_emod_of_nonneg (a := n) (b := 451) (by omega)
      omega⟩
    have hr1 : r ≤ 450 := by
      have := Int.tmod_eq_emod_of_nonneg (a := n) (b := 451) (by omega)
      omega
    go_enter Try.func21, Try.ntmps21
    go_wp2_with fail
    go_ret
    exact ⟨r, hr1, by first | rfl | (rw [← hr]), rfl⟩
end Go.Proofs.Ytmdhpeeippiamaa.PS
