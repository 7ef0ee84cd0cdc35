/- An integer's eight bytes, by the document: the walk. -/
import Derived.Test.YtkhdkepjhifffaaKD
namespace Go.Proofs.Ytkhdkepjhifffaa.KE
open Go.RowKit Go.Proofs.Ytkhdkepjhifffaa.RG Go.Proofs.Ytkhdkepjhifffaa.KA Go.Proofs.Ytkhdkepjhifffaa.KB Go.Proofs.Ytkhdkepjhifffaa.KD
set_option linter.unusedVariables false
set_option maxRecDepth 100000
set_option maxRecDepth 100000

/-- What is left of a number, and the rest. -/
theorem parts256 (n : Int) : ∃ M Q : Int, n % 256 = M ∧ n / 256 = Q ∧ 0 ≤ M ∧ M < 256 ∧ n = 256 * Q + M ∧ (n - M).tdiv 256 = Q ∧ (0 ≤ n → n.tmod 256 = M) ∧ (n < 0 → (M = 0 ∧ n.tmod 256 = 0) ∨ (0 < M ∧ n.tmod 256 = M - 256)) := by
  refine ⟨n % 256, n / 256, rfl, rfl, by omega, by omega, by omega, ?_, fun h => Int.tmod_eq_emod_of_nonneg h, fun h => ?_⟩
  · have e : n - n % 256 = 256 * (n / 256) := by omega
    rw [e]
    exact Int.mul_tdiv_cancel_left _ (by decide)
  · have e : n.tmod 256 = -((-n) % 256) := by
      have h1 : (-n).tmod 256 = (-n) % 256 := Int.tmod_eq_emod_of_nonneg (by omega)
      have h2 : (-n).tmod 256 = -(n.tmod 256) := Int.neg_tmod _ _
      omega
    rw [e]
    omega
end Go.Proofs.Ytkhdkepjhifffaa.KE