/- Small functions: what stands for itself, the first bytes. -/
import Derived.Test.YtaioniaadpgmkaaDoorA
namespace Go.Proofs.YtaioniaadpgmkaaDoor.D
open Go.RowKit Go.Maps Go.Proofs.YtaioniaadpgmkaaDoor.P Go.Proofs.YtaioniaadpgmkaaDoor.A
set_option linter.unusedVariables false

theorem stands_any (b : UInt8) (w : World) :
    Calls Tryd.prog 66 #[bv b] w fun e w' => e = .returned (.bool (decide (32 ≤ b.toNat ∧ b.toNat ≤ 126))) ∧ w = w' := by
  unfold bv
  by_cases h : 32 ≤ b.toNat
  · by_cases h2 : b.toNat ≤ 126
    · rw [decide_eq_true ⟨h, h2⟩]
      go_enter Tryd.func66, Tryd.ntmps66
      go_wp2
      go_ret
      exact ⟨by simp; omega, rfl⟩
    · rw [decide_eq_false (fun c => h2 c.2)]
      go_enter Tryd.func66, Tryd.ntmps66
      go_wp2
      go_ret
      exact ⟨by simp; omega, rfl⟩
  · rw [decide_eq_false (fun c => h c.1)]
    go_enter Tryd.func66, Tryd.ntmps66
    go_wp2
    go_ret
    exact ⟨rfl, rfl⟩

theorem few_any (s : ByteArray) (w : World) :
    Calls Tryd.prog 10 #[.string s] w fun e w' => (∃ t : ByteArray, t.size ≤ 300 ∧ e = .returned (.string t)) ∧ w = w' := by
  go_enter Tryd.func10, Tryd.ntmps10
  go_wp2
  · go_ret
    exact ⟨⟨s.extract 0 300, by simp; omega, rfl⟩, rfl⟩
  · go_ret
    exact ⟨⟨s, by omega, rfl⟩, rfl⟩
end Go.Proofs.YtaioniaadpgmkaaDoor.D
