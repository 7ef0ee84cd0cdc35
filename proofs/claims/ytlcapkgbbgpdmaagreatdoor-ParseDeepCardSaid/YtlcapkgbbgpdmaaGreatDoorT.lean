/- What all frames share: the three listed variables lie as the program's text lays them; one of them is read, the digits' table. -/
import Derived.Test.YtlcapkgbbgpdmaaGreatDoorA
import Derived.Test.YtlcapkgbbgpdmaaGreatDoorRows
import Derived.ProofKit
import Derived.LaidMore
import Derived.OpenShut
import Derived.Stop.Joined
import Derived.Lib.LaidTab
import Derived.Lay
namespace Go.Proofs.YtlcapkgbbgpdmaaGreatDoor.T
open Go.ChangeShapes Go.WideShapes Go.ChangeAt Go.RowKit Go.Maps Go.Proofs.YtlcapkgbbgpdmaaGreatDoor.P Go.Proofs.YtlcapkgbbgpdmaaGreatDoor.A

theorem own : ownKnob Tryz.prog.godebug = none := by kernel_rfl
theorem gDigits : Tryz.prog.globalNamed "selvage/strs.digits" = some 1 := by kernel_rfl
theorem tDigits : (Tryz.prog.globals[1]?).map (·.type) = some 159 := by kernel_rfl
theorem cellsB : Tryz.prog.cellsOf 5 = 1 := by kernel_rfl
theorem cellsA : Tryz.prog.cellsOf 159 = 16 := by kernel_rfl
theorem lenA : Tryz.prog.underlying 159 = some (.array 16 5) := by kernel_rfl
def laid3 : List (String × DataW Unit) := [("unicode/utf8.acceptRanges", Rows.laid_unicode_utf8_acceptRanges), ("selvage/strs.digits", Rows.laid_selvage_strs_digits), ("unicode/utf8.first", Rows.laid_unicode_utf8_first)]
theorem laidShape (os : Os) : World.Shaped Tryz.prog (World.laidAll Tryz.prog os laid3) := World.shaped_of_ZipB (by kernel_rfl) (by kernel_rfl)
theorem of_laid {W : World} (h : laidMetH Tryz.prog laid3 W) : Dig W := by
  rw [MakeChecks.laidMetH_plain _ _ _ (by kernel_rfl)] at h
  obtain ⟨ps, ⟨_, _, _, _, _, _, _, _, _, _, ⟨g', t', cs, fuel, p, q, hg', ht', hvar, hd, _, _⟩, _⟩, _⟩ := h
  obtain rfl := Option.some.inj (gDigits.symm.trans hg')
  obtain rfl := Option.some.inj (tDigits.symm.trans ht')
  have hT : Lib.TabIs Tryz.prog W "selvage/strs.digits" .u8 dg := by
    unfold Lib.TabIs
    rw [hvar, ← Lib.cells_of_tab (zs := dg) lenA Tryz.underlying5 cellsB cellsA hd]
  have hc := fun i hi => hT.cell gDigits i hi
  exact ⟨World.block_lt_of_cell? W ⟨1, 0, none⟩ (hc 0 (by decide)), fun i hi => hc i (by simpa [dg] using hi)⟩

theorem laidOut : laidOutB Tryz.prog = true := by kernel_rfl
theorem wf_le {z : Int} (h : (Lit.int .i64 z).wf = true) : -9223372036854775808 ≤ z ∧ z ≤ 9223372036854775807 := by
  simp [Lit.wf, IntKind.min, IntKind.max, IntKind.signed, IntKind.bits] at h
  omega
end Go.Proofs.YtlcapkgbbgpdmaaGreatDoor.T
