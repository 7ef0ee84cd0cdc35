/- What the operations on integers give, one operation after the other: the program's, and the document's own answer. -/
import Derived.Test.YtlcapkgbbgpdmaaGreatDoorK1
namespace Go.Proofs.YtlcapkgbbgpdmaaGreatDoor.K2
open Go.ChangeShapes Go.WideShapes Go.ChangeAt Go.RowKit
open Go.Proofs.YtlcapkgbbgpdmaaGreatDoor.M Go.Proofs.YtlcapkgbbgpdmaaGreatDoor.K1
set_option linter.unusedVariables false
set_option maxRecDepth 100000

/-- A number that is an integer of 63 bits. -/
structure In (n : Int) : Prop where
  lo : -4611686018427387904 ≤ n
  hi : n ≤ 4611686018427387903
theorem In.w63 (n : Int) : In (w63 n) := ⟨w63_lo n, w63_hi n⟩

end Go.Proofs.YtlcapkgbbgpdmaaGreatDoor.K2
