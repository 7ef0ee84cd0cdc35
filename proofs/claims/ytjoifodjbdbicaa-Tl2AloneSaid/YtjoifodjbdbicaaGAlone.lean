/- Tl2Alone: whatever the input, the law answers true, and writes nothing that was there. No condition. -/
import Derived.Test.YtjoifodjbdbicaaUY
import Derived.Test.YtjoifodjbdbicaaQC
import Derived.Test.YtjoifodjbdbicaaQD
import Derived.Below
import Derived.ChangeOld
import Derived.Lay
import Derived.LaidMore
namespace Go.Proofs.Ytjoifodjbdbicaa.tl2Alone
open Go.ChangeShapes Go.WideShapes Go.ChangeAt Go.RowKit Go.Proofs.Ytjoifodjbdbicaa.RG Go.Proofs.Ytjoifodjbdbicaa.QD
set_option linter.unusedVariables false
set_option maxRecDepth 100000
set_option maxRecDepth 100000

set_option maxRecDepth 100000 in
theorem lifted (os : Os) (started : os.Started) (H : Type) (enc : TypeId × Value → H) :
    ReturnsInHanded {} Try.checked os 5 .any (Rows.tl2AloneSpec.pre6 enc Try.prog Try.f5 Rows.tl2AloneRow.domain false) (Rows.tl2AloneSpec.post enc Try.prog Try.f5 false true false false) := by
  refine returnsInHanded_of_change (C := Try.checked) own started (by kernel_rfl) Try.func5
    (ChangeSpec.witness6 (enc := enc) (C := Try.checked) false ⟨#[], #[.slice none 0 0], []⟩ 8 (by kernel_rfl) (by kernel_rfl) (by kernel_rfl) (by kernel_rfl)) ?_
  intro W base args ds gs before hval0 hW hcnd _
  have hval : ∀ (j : Nat) t v, Try.f5.params[j]? = some t → args[j]? = some v → Value.okWide Try.prog W .any base t v := hval0
  have hW' := hW
  obtain ⟨p, q, hA0, hV, rfl, hfz, hnd⟩ := hW
  have hA : DataW.TrodAll enc Try.prog W 0 (fun _ => true) true Try.f5.params.toList args.toList ds p := hA0
  have hlt := DataW.TrodAll.lt hA
  rw [Try.params5] at hA hval
  obtain ⟨v0, vs0, d0, ds0, p0, q0, hargs, rfl, rfl, h0, r0⟩ := trodAll_cons hA
  obtain ⟨rfl, rfl, rfl⟩ := trodAll_nil r0
  obtain rfl : args = #[v0] := by cases args; simp_all
  obtain ⟨rfl, rfl⟩ := trodVars_none hV
  obtain ⟨ao0, le0, ca0, rfl⟩ := okWide_slice Try.underlying22 (hval 0 22 v0 rfl rfl)
  have hlt0 : ∀ x ∈ p0, x.block < W.heap.size := fun x hx => hlt x (by simp [hx])
  obtain ⟨fu0, hf0⟩ := id h0
  obtain ⟨vv0, L0, he0, hd0, hz0⟩ := deeds_of _ _ _ hf0
  have hv0 : vv0 = .slice ao0 le0 ca0 := by have e : [Value.slice ao0 le0 ca0] = [vv0] := he0; injection e with e; exact e.symm
  rw [hv0] at hd0
  clear hA0 hval0
  refine (Go.Proofs.Ytjoifodjbdbicaa.UY.lalone_c Go.Proofs.Ytjoifodjbdbicaa.QC.pt W (fun _ => True) _ L0 hd0 hz0).mono fun e W' ⟨he, bel⟩ => ?_
  subst he
  exact ⟨_, rfl, _, _, _, [], _, [], hW', trodAll_mk1 (shut_bool Try.underlying4 _), (trodAll_cons_mk (Below.trod laidOut (by kernel_rfl) (of_decide_eq_true (by kernel_rfl)) h0 bel hlt0) trodAll_mk0), rfl, bel.frame _, fun h => by cases h⟩

theorem over : Rows.tl2AloneRow.holds Try.pinned (OpenSpec.ofChange Rows.tl2AloneSpec) :=
  OpenClaim.holds_of_wide 5 Try.f5 rfl rfl rfl rfl rfl rfl rfl ⟨rfl, rfl, rfl, rfl, rfl⟩ rfl rfl rfl rfl rfl (by kernel_rfl) Try.func5 (by kernel_rfl)
    (of_decide_eq_true (by kernel_rfl)) (by unfold Func.isWrapper; first | (rw [if_pos (by decide +kernel)]; kernel_rfl) | (rw [if_neg (by decide +kernel)]; exact ⟨rfl, rfl⟩))
    (fun os started H enc _ => lifted os started H enc)

theorem proved : Rows.Tl2AloneSaid := over
end Go.Proofs.Ytjoifodjbdbicaa.tl2Alone
