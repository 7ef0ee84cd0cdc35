/- Small functions: what stands for itself, how many numbers, digits, the first bytes. -/
import Derived.Test.YtenhncepoclolaaDoorA
namespace Go.Proofs.YtenhncepoclolaaDoor.D
open Go.RowKit Go.Maps Go.Proofs.YtenhncepoclolaaDoor.P Go.Proofs.YtenhncepoclolaaDoor.A
set_option linter.unusedVariables false

theorem numbers_any (n : Nat) (hn : n ≤ 100) (w : World) :
    Calls Tryd.prog 24 #[.int .i64 (n : Int)] w fun e w' => e = .returned (.int .i64 ((1 + (n + 6) / 7 : Nat) : Int)) ∧ w = w' := by
  go_enter Tryd.func24, Tryd.ntmps24
  go_wp2
  go_ret
  refine ⟨?_, rfl⟩
  show Ending.returned (.int .i64 (1 + ((n : Int) + 7 - 1) / 7)) = _
  congr 2
  omega

theorem stands_any (b : UInt8) (w : World) :
    Calls Tryd.prog 28 #[bv b] w fun e w' => e = .returned (.bool (decide (32 ≤ b.toNat ∧ b.toNat ≤ 126))) ∧ w = w' := by
  unfold bv
  by_cases h : 32 ≤ b.toNat
  · by_cases h2 : b.toNat ≤ 126
    · rw [decide_eq_true ⟨h, h2⟩]
      go_enter Tryd.func28, Tryd.ntmps28
      go_wp2
      go_ret
      exact ⟨by simp; omega, rfl⟩
    · rw [decide_eq_false (fun c => h2 c.2)]
      go_enter Tryd.func28, Tryd.ntmps28
      go_wp2
      go_ret
      exact ⟨by simp; omega, rfl⟩
  · rw [decide_eq_false (fun c => h c.1)]
    go_enter Tryd.func28, Tryd.ntmps28
    go_wp2
    go_ret
    exact ⟨rfl, rfl⟩

theorem few_any (s : ByteArray) (w : World) :
    Calls Tryd.prog 12 #[.string s] w fun e w' => (∃ t : ByteArray, t.size ≤ 150 ∧ e = .returned (.string t)) ∧ w = w' := by
  go_enter Tryd.func12, Tryd.ntmps12
  go_wp2
  · go_ret
    exact ⟨⟨s.extract 0 150, by simp; omega, rfl⟩, rfl⟩
  · go_ret
    exact ⟨⟨s, by omega, rfl⟩, rfl⟩
end Go.Proofs.YtenhncepoclolaaDoor.D
