/- Plain numbers: wrapping to 63 bits, and to 64. Nothing of the program is in sight. -/
import Derived.RowKit
namespace Go.Proofs.YtlcapkgbbgpdmaaGreatDoor.M
open Go.RowKit (wrap64)

/-- A number, less or more a multiple of 2^63, such that it lies from -2^62 to 2^62 - 1. -/
def w63 (n : Int) : Int := (n + 4611686018427387904) % 9223372036854775808 - 4611686018427387904

theorem w63_lo (n : Int) : -4611686018427387904 ≤ w63 n := by unfold w63; omega
theorem w63_hi (n : Int) : w63 n ≤ 4611686018427387903 := by unfold w63; omega
theorem w63_id (n : Int) (h0 : -4611686018427387904 ≤ n) (h1 : n ≤ 4611686018427387903) : w63 n = n := by unfold w63; omega
theorem w63_ne (n : Int) (h : n < -4611686018427387904 ∨ 4611686018427387903 < n) : w63 n ≠ n := by unfold w63; omega
theorem w63_w63 (n : Int) : w63 (w63 n) = w63 n := w63_id _ (w63_lo n) (w63_hi n)
theorem w63_spec (n : Int) : ∃ k : Int, w63 n = n + 9223372036854775808 * k :=
  ⟨-((n + 4611686018427387904) / 9223372036854775808), by unfold w63; omega⟩
theorem w63_add_k (n k : Int) : w63 (n + 9223372036854775808 * k) = w63 n := by unfold w63; omega
theorem w63_add_l (a b : Int) : w63 (w63 a + b) = w63 (a + b) := by unfold w63; omega
theorem w63_add_r (a b : Int) : w63 (a + w63 b) = w63 (a + b) := by unfold w63; omega
theorem w63_sub_l (a b : Int) : w63 (w63 a - b) = w63 (a - b) := by unfold w63; omega
theorem w63_sub_r (a b : Int) : w63 (a - w63 b) = w63 (a - b) := by unfold w63; omega
theorem w63_neg (a : Int) : w63 (-(w63 a)) = w63 (-a) := by unfold w63; omega
theorem w63_mul_l (a b : Int) : w63 (w63 a * b) = w63 (a * b) := by
  obtain ⟨k, hk⟩ := w63_spec a
  rw [hk, Int.add_mul, Int.mul_assoc, w63_add_k]
theorem w63_mul_r (a b : Int) : w63 (a * w63 b) = w63 (a * b) := by
  rw [Int.mul_comm, w63_mul_l, Int.mul_comm]
theorem w63_wrap64 (n : Int) : w63 (wrap64 n) = w63 n := by unfold w63 wrap64; omega
theorem w63_code (n : Int) : wrap64 (n * 2) / 2 = w63 n := by unfold wrap64 w63; omega
theorem wrap64_lo (n : Int) : -9223372036854775808 ≤ wrap64 n := by unfold wrap64; omega
theorem wrap64_hi (n : Int) : wrap64 n ≤ 9223372036854775807 := by unfold wrap64; omega

/-- Division towards nought, for a number of either sign. -/
theorem tdiv_neg_l (a b : Int) : (-a).tdiv b = -(a.tdiv b) := Int.neg_tdiv a b
theorem tmod_neg_l (a b : Int) : (-a).tmod b = -(a.tmod b) := Int.neg_tmod a b
theorem tdiv_pos (a b : Int) (ha : 0 ≤ a) : a.tdiv b = a / b := Int.tdiv_eq_ediv_of_nonneg ha
theorem tmod_pos (a b : Int) (ha : 0 ≤ a) : a.tmod b = a % b := Int.tmod_eq_emod_of_nonneg ha
theorem tdiv_le (a b : Int) : -(a.natAbs : Int) ≤ a.tdiv b ∧ a.tdiv b ≤ a.natAbs := by
  have h := Int.natAbs_tdiv_le_natAbs a b
  omega
theorem tmod_le (a b : Int) : -(a.natAbs : Int) ≤ a.tmod b ∧ a.tmod b ≤ a.natAbs := by
  have h := Int.natAbs_tmod a b
  have h2 := Nat.mod_le a.natAbs b.natAbs
  omega
/-- What is left, said by the quotient. -/
theorem rem_code (a b : Int) (ha0 : -4611686018427387904 ≤ a) (ha1 : a ≤ 4611686018427387903) :
    wrap64 (a - wrap64 (wrap64 (a.tdiv b) * b)) = a.tmod b := by
  have d := tdiv_le a b
  have m := tmod_le a b
  have k := Int.mul_tdiv_add_tmod a b
  have w1 : wrap64 (a.tdiv b) = a.tdiv b := by unfold wrap64; omega
  have e : a.tdiv b * b = a - a.tmod b := by rw [Int.mul_comm]; omega
  rw [w1, e]
  unfold wrap64
  omega
theorem tmod2 (n : Int) : (n.tmod 2 = 0 ↔ n % 2 = 0) := by
  rcases Int.le_total 0 n with h | h
  · rw [tmod_pos n 2 h]
  · have e : n = -(-n) := by omega
    have p := tmod_pos (-n) 2 (by omega)
    have q := tmod_neg_l (-n) 2
    rw [← e] at q
    omega
end Go.Proofs.YtlcapkgbbgpdmaaGreatDoor.M
