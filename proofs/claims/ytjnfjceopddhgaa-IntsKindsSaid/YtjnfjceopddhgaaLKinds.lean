/- IntsKinds: whatever the input, the law answers true, and writes nothing that was there. No condition. -/
import Derived.Test.YtjnfjceopddhgaaK4
import Derived.ChangeOld
import Derived.Below
namespace Go.Proofs.Ytjnfjceopddhgaa.intsKinds
open Go.ChangeShapes Go.WideShapes Go.ChangeAt Go.RowKit
open Go.ChangeMaps (open_string shut_string)
open Go.Proofs.Ytjnfjceopddhgaa.M Go.Proofs.Ytjnfjceopddhgaa.K1 Go.Proofs.Ytjnfjceopddhgaa.K2 Go.Proofs.Ytjnfjceopddhgaa.K3 Go.Proofs.Ytjnfjceopddhgaa.K4
set_option linter.unusedVariables false

theorem own : ownKnob Try.prog.godebug = none := by kernel_rfl

theorem tag_back (a : Int) (h0 : -9223372036854775808 ≤ a) (h1 : a ≤ 9223372036854775807) (h : a % 2 = 1) : 2 * w63 (a / 2) + 1 = a := by
  rw [w63_id _ (by omega) (by omega)]; omega

theorem walk (a0 : Int) (w0 : (Lit.int .i64 a0).wf = true) (w : World) :
    Calls Try.prog 8 #[.int .i64 a0] w fun e w' => e = .returned (.bool true) ∧ Below w.heap.size w w' := by
  have b0 := bd w0
  obtain ⟨h0, h1⟩ := b0
  have tm := tmod2 a0
  by_cases ho : a0 % 2 = 1
  · have e1 : (2 * w63 (a0 / 2) + 1 == a0) = true := by rw [tag_back a0 h0 h1 ho]; simp
    have e2 : (a0.tmod 2 != 0) = true := by rw [bne_iff_ne]; omega
    have e3 : (a0 % 2 != 0) = true := by rw [bne_iff_ne]; omega
    have e4 : (a0.tmod 2 == 0) = false := by rw [beq_eq_false_iff_ne]; omega
    have e5 : (a0 % 2 == 0) = false := by rw [beq_eq_false_iff_ne]; omega
    have HO := Lib.hid ho
    clear ho tm
    by_cases hp : 0 < a0
    all_goals
      go_enter Try.func8, Try.ntmps8
      go_wp2_with (first | (go_at_call 20; refine (untag_odd _ _ HO.out).mono ?_; rintro e w' ⟨rfl, rfl⟩) | (go_at_call 22; refine (at_odd _ _ HO.out).mono ?_; rintro e w' ⟨rfl, rfl⟩) | (go_at_call 19; refine (tag_any _ _ (by omega) (by omega)).mono ?_; rintro e w' ⟨rfl, rfl⟩) | (go_at_call 15; refine (lives _).mono ?_; rintro e w' ⟨rfl, hbel⟩))
      go_ret
      exact ⟨rfl, hbel⟩
  · have hz : a0 % 2 = 0 := by omega
    have e1 : (2 * (a0 / 2) == a0) = true := by rw [beq_iff_eq]; omega
    have e2 : (a0.tmod 2 != 0) = false := by rw [bne_eq_false_iff_eq]; omega
    have e3 : (a0 % 2 != 0) = false := by rw [bne_eq_false_iff_eq]; omega
    have e4 : (a0.tmod 2 == 0) = true := by rw [beq_iff_eq]; omega
    have e5 : (a0 % 2 == 0) = true := by rw [beq_iff_eq]; omega
    have HZ := Lib.hid hz
    clear ho hz tm
    by_cases hp : 0 < a0
    · go_enter Try.func8, Try.ntmps8
      go_wp2_with (first | (go_at_call 20; refine (untag_even _ _ HZ.out).mono ?_; rintro e w' ⟨rfl, rfl⟩) | (go_at_call 22; refine (at_yes _ _ hp HZ.out).mono ?_; rintro e w' ⟨rfl, rfl⟩) | (go_at_call 15; refine (lives _).mono ?_; rintro e w' ⟨rfl, hbel⟩))
      go_ret
      exact ⟨rfl, hbel⟩
    · go_enter Try.func8, Try.ntmps8
      go_wp2_with (first | (go_at_call 20; refine (untag_even _ _ HZ.out).mono ?_; rintro e w' ⟨rfl, rfl⟩) | (go_at_call 22; refine (at_below _ _ (by omega)).mono ?_; rintro e w' ⟨rfl, rfl⟩) | (go_at_call 15; refine (lives _).mono ?_; rintro e w' ⟨rfl, hbel⟩))
      go_ret
      exact ⟨rfl, hbel⟩

set_option maxRecDepth 100000 in
theorem lifted (os : Os) (started : os.Started) (H : Type) (enc : TypeId × Value → H) :
    ReturnsInHanded {} Try.checked os 8 .any (Rows.intsKindsSpec.pre6 enc Try.prog Try.f8 Rows.intsKindsRow.domain false) (Rows.intsKindsSpec.post enc Try.prog Try.f8 false true false false) := by
  refine returnsInHanded_of_change (C := Try.checked) own started (by kernel_rfl) Try.func8
    (ChangeSpec.witness6 (enc := enc) (C := Try.checked) false ⟨#[], #[.int .i64 0], []⟩ 8 (by kernel_rfl) (by kernel_rfl) (by kernel_rfl) (by kernel_rfl)) ?_
  intro W base args ds gs before hval0 hW hcnd _
  have hval : ∀ (j : Nat) t v, Try.f8.params[j]? = some t → args[j]? = some v → Value.okWide Try.prog W .any base t v := hval0
  have hW' := hW
  obtain ⟨p, q, hA0, hV, rfl, hfz, hnd⟩ := hW
  have hA : DataW.TrodAll enc Try.prog W 0 (fun _ => true) true Try.f8.params.toList args.toList ds p := hA0
  rw [Try.params8] at hA hval
  obtain ⟨v0, vs0, d0, ds0, p0, q0, hargs, rfl, rfl, h0, r0⟩ := trodAll_cons hA
  obtain ⟨rfl, rfl, rfl⟩ := trodAll_nil r0
  obtain rfl : args = #[v0] := by cases args; simp_all
  obtain ⟨rfl, rfl⟩ := trodVars_none hV
  obtain ⟨a0, rfl, rfl, rfl, w0⟩ := open_int Try.underlying3 (hval 0 3 v0 rfl rfl) h0
  clear hA0 hval0
  refine (walk a0 w0 W).mono fun e W' ⟨he, bel⟩ => ?_
  subst he
  exact ⟨_, rfl, _, _, _, [], _, [], hW', trodAll_mk1 (shut_bool Try.underlying4 _), (trodAll_cons_mk (shut_int Try.underlying3 w0) trodAll_mk0), rfl, bel.frame _, fun h => by cases h⟩

theorem over : Rows.intsKindsRow.holds Try.pinned (OpenSpec.ofChange Rows.intsKindsSpec) :=
  OpenClaim.holds_of_wide 8 Try.f8 rfl rfl rfl rfl rfl rfl rfl ⟨rfl, rfl, rfl, rfl, rfl⟩ rfl rfl rfl rfl rfl (by kernel_rfl) Try.func8 (by kernel_rfl)
    (of_decide_eq_true (by kernel_rfl)) (by unfold Func.isWrapper; first | (rw [if_pos (by decide +kernel)]; kernel_rfl) | (rw [if_neg (by decide +kernel)]; exact ⟨rfl, rfl⟩))
    (fun os started H enc _ => lifted os started H enc)

theorem proved : Rows.IntsKindsSaid := over
end Go.Proofs.Ytjnfjceopddhgaa.intsKinds
