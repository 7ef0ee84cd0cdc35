/- CodeUses: whatever the input, the law answers true, and writes nothing that was there. No condition. -/
import Derived.Test.YtmdhpeeippiamaaPL
import Derived.Test.YtmdhpeeippiamaaRows
import Derived.ProofKit
import Derived.OpenShut
import Derived.ChangeSame
import Derived.ChangeOld
import Derived.Lay
import Derived.LaidMore
import Derived.Below
namespace Go.Proofs.Ytmdhpeeippiamaa.codeUses
open Go.ChangeShapes Go.WideShapes Go.ChangeAt Go.RowKit
open Go.ChangeMaps (open_string shut_string)
open Go.Proofs.Ytmdhpeeippiamaa.KA Go.Proofs.Ytmdhpeeippiamaa.KB Go.Proofs.Ytmdhpeeippiamaa.PA Go.Proofs.Ytmdhpeeippiamaa.PL Go.Proofs.Ytmdhpeeippiamaa.RG
set_option linter.unusedVariables false

theorem own : ownKnob Try.prog.godebug = none := by kernel_rfl

theorem walk (a0 : Int) (w0 : (Lit.int .i64 a0).wf = true) (w : World) :
    Calls Try.prog 6 #[.int .i64 a0] w fun e w' => e = .returned (.bool true) ∧ Below w.heap.size w w' := by
  have e1 : (KA.uses a0 == KA.uses a0) = true := by simp
  have U1 := fun w => puses_c a0 w
  have U2 := fun w => uses_c a0 w
  have L1 := fun w => lives_c w
  generalize KA.uses a0 = R at e1 U1 U2
  go_enter Try.func6, Try.ntmps6
  go_wp2_with (first | (go_at_call 19; refine (U1 _).mono ?_; rintro e w3 ⟨rfl, rfl⟩) | (go_at_call 20; refine (U2 _).mono ?_; rintro e w4 ⟨rfl, hb⟩; have HX4 := Lib.hid hb; clear hb) | (go_at_call 15; refine (L1 _).mono ?_; rintro e w5 ⟨rfl, hb⟩; have HX5 := Lib.hid (bnext HX4.out hb); clear hb))
  go_ret
  exact ⟨rfl, HX5.out⟩

set_option maxRecDepth 100000 in
theorem lifted (os : Os) (started : os.Started) (H : Type) (enc : TypeId × Value → H) :
    ReturnsInHanded {} Try.checked os 6 .any (Rows.codeUsesSpec.pre6 enc Try.prog Try.f6 Rows.codeUsesRow.domain false) (Rows.codeUsesSpec.post enc Try.prog Try.f6 false true false false) := by
  refine returnsInHanded_of_change (C := Try.checked) own started (by kernel_rfl) Try.func6
    (ChangeSpec.witness6 (enc := enc) (C := Try.checked) false ⟨#[], #[.int .i64 0], []⟩ 8 (by kernel_rfl) (by kernel_rfl) (by kernel_rfl) (by kernel_rfl)) ?_
  intro W base args ds gs before hval0 hW hcnd _
  have hval : ∀ (j : Nat) t v, Try.f6.params[j]? = some t → args[j]? = some v → Value.okWide Try.prog W .any base t v := hval0
  have hW' := hW
  obtain ⟨p, q, hA0, hV, rfl, hfz, hnd⟩ := hW
  have hA : DataW.TrodAll enc Try.prog W 0 (fun _ => true) true Try.f6.params.toList args.toList ds p := hA0
  rw [Try.params6] at hA hval
  obtain ⟨v0, vs0, d0, ds0, p0, q0, hargs, rfl, rfl, h0, r0⟩ := trodAll_cons hA
  obtain ⟨rfl, rfl, rfl⟩ := trodAll_nil r0
  obtain rfl : args = #[v0] := by cases args; simp_all
  obtain ⟨rfl, rfl⟩ := trodVars_none hV
  obtain ⟨a0, rfl, rfl, rfl, w0⟩ := open_int Try.underlying3 (hval 0 3 v0 rfl rfl) h0
  clear hA0 hval0
  refine (walk a0 w0 W).mono fun e W' ⟨he, bel⟩ => ?_
  subst he
  exact ⟨_, rfl, _, _, _, [], _, [], hW', trodAll_mk1 (shut_bool Try.underlying4 _), (trodAll_cons_mk (shut_int Try.underlying3 w0) trodAll_mk0), rfl, bel.frame _, fun h => by cases h⟩

theorem over : Rows.codeUsesRow.holds Try.pinned (OpenSpec.ofChange Rows.codeUsesSpec) :=
  OpenClaim.holds_of_wide 6 Try.f6 rfl rfl rfl rfl rfl rfl rfl ⟨rfl, rfl, rfl, rfl, rfl⟩ rfl rfl rfl rfl rfl (by kernel_rfl) Try.func6 (by kernel_rfl)
    (of_decide_eq_true (by kernel_rfl)) (by unfold Func.isWrapper; first | (rw [if_pos (by decide +kernel)]; kernel_rfl) | (rw [if_neg (by decide +kernel)]; exact ⟨rfl, rfl⟩))
    (fun os started H enc _ => lifted os started H enc)

theorem proved : Rows.CodeUsesSaid := over
end Go.Proofs.Ytmdhpeeippiamaa.codeUses
