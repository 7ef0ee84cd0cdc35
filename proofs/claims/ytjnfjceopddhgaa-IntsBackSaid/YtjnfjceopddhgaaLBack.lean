/- IntsBack: whatever the input, the law answers true, and writes nothing that was there. No condition. -/
import Derived.Test.YtjnfjceopddhgaaK4
import Derived.ChangeOld
import Derived.Below
namespace Go.Proofs.Ytjnfjceopddhgaa.intsBack
open Go.ChangeShapes Go.WideShapes Go.ChangeAt Go.RowKit
open Go.ChangeMaps (open_string shut_string)
open Go.Proofs.Ytjnfjceopddhgaa.M Go.Proofs.Ytjnfjceopddhgaa.K1 Go.Proofs.Ytjnfjceopddhgaa.K2 Go.Proofs.Ytjnfjceopddhgaa.K3 Go.Proofs.Ytjnfjceopddhgaa.K4
set_option linter.unusedVariables false

theorem own : ownKnob Try.prog.godebug = none := by kernel_rfl

theorem walk (a0 : Int) (a1 : Int) (w0 : (Lit.int .i64 a0).wf = true) (w1 : (Lit.int .i64 a1).wf = true) (w : World) :
    Calls Try.prog 12 #[.int .i64 a0, .int .i64 a1] w fun e w' => e = .returned (.bool true) ∧ Below w.heap.size w w' := by
  obtain ⟨h00, h01⟩ := bd w0
  obtain ⟨h10, h11⟩ := bd w1
  obtain ⟨A, HA⟩ : ∃ c, Hid (w63 a0 = c) := ⟨_, rfl⟩
  have iA : In A := by have h := HA.out; subst h; exact In.w63 _
  obtain ⟨B, HB⟩ : ∃ c, Hid (w63 a1 = c) := ⟨_, rfl⟩
  have iB : In B := by have h := HB.out; subst h; exact In.w63 _
  obtain ⟨D, HD⟩ : ∃ c, Hid (w63 (A - B) = c) := ⟨_, rfl⟩
  have iD : In D := by have h := HD.out; subst h; exact In.w63 _
  obtain ⟨N, HN⟩ : ∃ c, Hid (w63 (0 - D) = c) := ⟨_, rfl⟩
  have iN : In N := by have h := HN.out; subst h; exact In.w63 _
  have E1 : Hid (w63 (D + B) = A) := by unfold Hid; rw [← HD.out, w63_add_l, Int.sub_add_cancel]; exact w63_id A iA.lo iA.hi
  have E2 : Hid (w63 (B - A) = N) := by unfold Hid; rw [← HN.out, ← HD.out, w63_sub_r]; congr 1; omega
  have E3 : Hid (w63 (D * -1) = N) := by unfold Hid; rw [← HN.out]; congr 1; omega
  go_enter Try.func12, Try.ntmps12
  go_wp2_with fail
  refine (rwrap_as _ A _ h00 h01 HA.out).mono ?_
  rintro e w' ⟨rfl, rfl⟩
  go_wp2_with fail
  refine (rwrap_as _ B _ h10 h11 HB.out).mono ?_
  rintro e w' ⟨rfl, rfl⟩
  go_wp2_with fail
  refine (do_sub_as A B D _ iA iB HD.out).mono ?_
  rintro e w' ⟨rfl, rfl⟩
  go_wp2_with fail
  refine (do_add_as D B A _ iD iB E1.out).mono ?_
  rintro e w' ⟨rfl, rfl⟩
  go_wp2_with fail
  refine (do_sub_as B A N _ iB iA E2.out).mono ?_
  rintro e w' ⟨rfl, rfl⟩
  go_wp2_with fail
  refine (do_sub_as 0 D N _ ⟨by omega, by omega⟩ iD HN.out).mono ?_
  rintro e w' ⟨rfl, rfl⟩
  go_wp2_with fail
  refine (do_mul_as D (-1) N _ iD ⟨by omega, by omega⟩ E3.out).mono ?_
  rintro e w' ⟨rfl, rfl⟩
  go_wp2_with (go_at_call 15; refine (lives _).mono ?_; rintro e w' ⟨rfl, hbel⟩)
  go_ret
  exact ⟨rfl, hbel⟩

set_option maxRecDepth 100000 in
theorem lifted (os : Os) (started : os.Started) (H : Type) (enc : TypeId × Value → H) :
    ReturnsInHanded {} Try.checked os 12 .any (Rows.intsBackSpec.pre6 enc Try.prog Try.f12 Rows.intsBackRow.domain false) (Rows.intsBackSpec.post enc Try.prog Try.f12 false true false false) := by
  refine returnsInHanded_of_change (C := Try.checked) own started (by kernel_rfl) Try.func12
    (ChangeSpec.witness6 (enc := enc) (C := Try.checked) false ⟨#[], #[.int .i64 0, .int .i64 0], []⟩ 8 (by kernel_rfl) (by kernel_rfl) (by kernel_rfl) (by kernel_rfl)) ?_
  intro W base args ds gs before hval0 hW hcnd _
  have hval : ∀ (j : Nat) t v, Try.f12.params[j]? = some t → args[j]? = some v → Value.okWide Try.prog W .any base t v := hval0
  have hW' := hW
  obtain ⟨p, q, hA0, hV, rfl, hfz, hnd⟩ := hW
  have hA : DataW.TrodAll enc Try.prog W 0 (fun _ => true) true Try.f12.params.toList args.toList ds p := hA0
  rw [Try.params12] at hA hval
  obtain ⟨v0, vs0, d0, ds0, p0, q0, hargs, rfl, rfl, h0, r0⟩ := trodAll_cons hA
  obtain ⟨v1, vs1, d1, ds1, p1, q1, rfl, rfl, rfl, h1, r1⟩ := trodAll_cons r0
  obtain ⟨rfl, rfl, rfl⟩ := trodAll_nil r1
  obtain rfl : args = #[v0, v1] := by cases args; simp_all
  obtain ⟨rfl, rfl⟩ := trodVars_none hV
  obtain ⟨a0, rfl, rfl, rfl, w0⟩ := open_int Try.underlying3 (hval 0 3 v0 rfl rfl) h0
  obtain ⟨a1, rfl, rfl, rfl, w1⟩ := open_int Try.underlying3 (hval 1 3 v1 rfl rfl) h1
  clear hA0 hval0
  refine (walk a0 a1 w0 w1 W).mono fun e W' ⟨he, bel⟩ => ?_
  subst he
  exact ⟨_, rfl, _, _, _, [], _, [], hW', trodAll_mk1 (shut_bool Try.underlying4 _), (trodAll_cons_mk (shut_int Try.underlying3 w0) (trodAll_cons_mk (shut_int Try.underlying3 w1) trodAll_mk0)), rfl, bel.frame _, fun h => by cases h⟩

theorem over : Rows.intsBackRow.holds Try.pinned (OpenSpec.ofChange Rows.intsBackSpec) :=
  OpenClaim.holds_of_wide 12 Try.f12 rfl rfl rfl rfl rfl rfl rfl ⟨rfl, rfl, rfl, rfl, rfl⟩ rfl rfl rfl rfl rfl (by kernel_rfl) Try.func12 (by kernel_rfl)
    (of_decide_eq_true (by kernel_rfl)) (by unfold Func.isWrapper; first | (rw [if_pos (by decide +kernel)]; kernel_rfl) | (rw [if_neg (by decide +kernel)]; exact ⟨rfl, rfl⟩))
    (fun os started H enc _ => lifted os started H enc)

theorem proved : Rows.IntsBackSaid := over
end Go.Proofs.Ytjnfjceopddhgaa.intsBack
