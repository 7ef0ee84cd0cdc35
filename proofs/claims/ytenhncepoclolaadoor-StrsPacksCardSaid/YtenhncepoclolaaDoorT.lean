/- What all frames share: the one listed table is as its initialiser lays it. -/
import Derived.Test.YtenhncepoclolaaDoorA
import Derived.Test.YtenhncepoclolaaDoorRows
import Derived.ProofKit
import Derived.LaidMore
import Derived.OpenShut
import Derived.Stop.Joined
import Derived.Lib.LaidTab
import Derived.ChangeSlices
namespace Go.Proofs.YtenhncepoclolaaDoor.T
open Go.ChangeShapes Go.WideShapes Go.ChangeAt Go.RowKit Go.Maps Go.Proofs.YtenhncepoclolaaDoor.P Go.Proofs.YtenhncepoclolaaDoor.A

theorem own : ownKnob Tryd.prog.godebug = none := by kernel_rfl
theorem gDigits : Tryd.prog.globalNamed "selvage/strs.digits" = some 0 := by kernel_rfl
theorem tDigits : (Tryd.prog.globals[0]?).map (·.type) = some 44 := by kernel_rfl
theorem cellsB : Tryd.prog.cellsOf 5 = 1 := by kernel_rfl
theorem cellsA : Tryd.prog.cellsOf 44 = 16 := by kernel_rfl
theorem lenA : Tryd.prog.underlying 44 = some (.array 16 5) := by kernel_rfl
def laid1 : List (String × DataW Unit) := [("selvage/strs.digits", Rows.laid_selvage_strs_digits)]
theorem door_met (os : Os) (args : Array Value) : laidMetH Tryd.prog laid1 ((World.doorLaid Tryd.prog 400 os).forCall (fun _ _ => 0) ⟨#[], args, []⟩).memory :=
  laidMetH_of_parts3 (fuel := 8) (laidMet_of_run' 8 (by kernel_rfl) (by kernel_rfl)) (by kernel_rfl) (by kernel_rfl)
theorem of_laid {W : World} (h : laidMetH Tryd.prog laid1 W) : Dig W := by
  rw [MakeChecks.laidMetH_plain _ _ _ (by kernel_rfl)] at h
  have hT := Lib.tabIs_of_head (k := .u8) (zs := dg) gDigits tDigits lenA Tryd.underlying5 cellsB cellsA h
  have hc := fun i hi => hT.cell gDigits i hi
  exact ⟨World.block_lt_of_cell? W ⟨0, 0, none⟩ (hc 0 (by decide)), fun i hi => hc i (by simpa [dg] using hi)⟩

theorem laidOut : laidOutB Tryd.prog = true := by kernel_rfl
theorem cellsI : Tryd.prog.cellsOf 3 = 1 := by kernel_rfl
theorem wf_le {z : Int} (h : (Lit.int .i64 z).wf = true) : z ≤ 9223372036854775807 := by
  simp [Lit.wf, IntKind.min, IntKind.max, IntKind.signed, IntKind.bits] at h
  omega
theorem has_of_trod {H : Type} {enc : TypeId × Value → H} {W : World} {v : Value} {d : DataW H} {p : List MemPlace} (hok : ∃ a len cap, v = .slice a len cap)
    (h : DataW.Trod enc Tryd.prog W 0 (fun _ => true) true 23 v d p) : ∃ zs, HasI W v zs ∧ ∀ z ∈ zs, z ≤ 9223372036854775807 := by
  obtain ⟨ao, len, cap, rfl⟩ := hok
  obtain ⟨fuel, hf⟩ := h
  rcases open_ints Tryd.underlying23 Tryd.underlying3 cellsI hf with ⟨hcs, _⟩ | ⟨a, len', cap', zs, hcs, _, hl, hm, hz, _, hcell, hwz⟩
  · have hcs' : (Value.slice ao len cap) = .slice none 0 0 := by simpa [Value.cells] using hcs
    rw [hcs']
    exact ⟨[], ⟨none, 0, rfl, Nat.le_refl _, .inl rfl⟩, fun z hz => by cases hz⟩
  · have hcs' : (Value.slice ao len cap) = .slice (some a) len' cap' := by simpa [Value.cells] using hcs
    rw [hcs']
    have hlz : len' ≤ zs.length := by rw [hz]; simp; omega
    have hlt : (zs.take len').length = len' := by simp; omega
    refine ⟨zs.take len', ⟨some a, cap', by rw [hlt], by omega, ?_⟩, fun z hz' => wf_le (hwz z (List.mem_of_mem_take hz'))⟩
    by_cases h0 : len' = 0
    · subst h0; left; simp
    · right
      obtain ⟨b, off, rfl, hc⟩ := ints_at hcell (by omega)
      refine ⟨b, off, rfl, World.block_lt_of_cell? W _ (hc 0 (by omega)), fun j hj => ?_⟩
      have hjl : j < zs.length := by omega
      rw [hc j hjl]
      simp [List.getD, hjl]
end Go.Proofs.YtenhncepoclolaaDoor.T
