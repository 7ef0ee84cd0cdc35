/- What Show gives: the number's digits, put into an array from its end on. -/
import Derived.Test.YtaioniaadpgmkaaDoorK2
import Derived.Test.YtaioniaadpgmkaaDoorS
import Derived.Laws.IdiomStrings
namespace Go.Proofs.YtaioniaadpgmkaaDoor.K3
open Go.ChangeShapes Go.WideShapes Go.ChangeAt Go.RowKit
open Go.Proofs.YtaioniaadpgmkaaDoor.M Go.Proofs.YtaioniaadpgmkaaDoor.K1 Go.Proofs.YtaioniaadpgmkaaDoor.S
set_option linter.unusedVariables false

theorem add_plain (b o j : Nat) : (⟨b, o, none⟩ : Addr).add j = ⟨b, o + j, none⟩ := by unfold Addr.add; split <;> simp_all

theorem ret_str {a b : List UInt8} (h : a = b) : Ending.returned (.string ⟨a.toArray⟩) = .returned (.string ⟨b.toArray⟩) := by rw [h]
end Go.Proofs.YtaioniaadpgmkaaDoor.K3
