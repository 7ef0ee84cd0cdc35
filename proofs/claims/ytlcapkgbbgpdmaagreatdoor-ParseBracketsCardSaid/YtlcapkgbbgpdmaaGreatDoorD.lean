/- Small functions: what stands for itself, the first bytes. -/
import Derived.Test.YtlcapkgbbgpdmaaGreatDoorA
namespace Go.Proofs.YtlcapkgbbgpdmaaGreatDoor.D
open Go.RowKit Go.Maps Go.Proofs.YtlcapkgbbgpdmaaGreatDoor.P Go.Proofs.YtlcapkgbbgpdmaaGreatDoor.A
set_option linter.unusedVariables false
set_option maxRecDepth 100000

theorem stands_any (b : UInt8) (w : World) :
    Calls Tryz.prog 183 #[bv b] w fun e w' => e = .returned (.bool (decide (32 ≤ b.toNat ∧ b.toNat ≤ 126))) ∧ w = w' := by
  unfold bv
  by_cases h : 32 ≤ b.toNat
  · by_cases h2 : b.toNat ≤ 126
    · rw [decide_eq_true ⟨h, h2⟩]
      go_enter Tryz.func183, Tryz.ntmps183
      go_wp2
      go_ret
      exact ⟨by simp; omega, rfl⟩
    · rw [decide_eq_false (fun c => h2 c.2)]
      go_enter Tryz.func183, Tryz.ntmps183
      go_wp2
      go_ret
      exact ⟨by simp; omega, rfl⟩
  · rw [decide_eq_false (fun c => h c.1)]
    go_enter Tryz.func183, Tryz.ntmps183
    go_wp2
    go_ret
    exact ⟨rfl, rfl⟩

end Go.Proofs.YtlcapkgbbgpdmaaGreatDoor.D