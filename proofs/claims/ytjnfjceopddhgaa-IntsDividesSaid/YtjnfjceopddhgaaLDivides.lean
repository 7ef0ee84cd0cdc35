/- IntsDivides: whatever the input, the law answers true, and writes nothing that was there. No condition. -/
import Derived.Test.YtjnfjceopddhgaaK4
import Derived.ChangeOld
import Derived.Below
namespace Go.Proofs.Ytjnfjceopddhgaa.intsDivides
open Go.ChangeShapes Go.WideShapes Go.ChangeAt Go.RowKit
open Go.ChangeMaps (open_string shut_string)
open Go.Proofs.Ytjnfjceopddhgaa.M Go.Proofs.Ytjnfjceopddhgaa.K1 Go.Proofs.Ytjnfjceopddhgaa.K2 Go.Proofs.Ytjnfjceopddhgaa.K3 Go.Proofs.Ytjnfjceopddhgaa.K4
set_option linter.unusedVariables false

theorem own : ownKnob Try.prog.godebug = none := by kernel_rfl

theorem rem_facts (A B : Int) (hA : In A) (hB : In B) (h0 : B ≠ 0) : In (A.tmod B) ∧ w63 (w63 (w63 (A.tdiv B) * B) + A.tmod B) = A ∧ ((A.tmod B = 0) ∨ (0 < A.tmod B ∧ 0 < A) ∨ (A.tmod B < 0 ∧ A < 0)) ∧ ((0 < B ∧ A.tmod B < B ∧ -(A.tmod B) < B) ∨ (B < 0 ∧ B < A.tmod B ∧ B < -(A.tmod B))) := by
  obtain ⟨a0, a1⟩ := hA
  obtain ⟨b0, b1⟩ := hB
  have k := Int.mul_tdiv_add_tmod A B
  have nm := Int.natAbs_tmod A B
  have nl := Nat.mod_lt A.natAbs (show B.natAbs > 0 by omega)
  have le := tmod_le A B
  have sg : (0 ≤ A → 0 ≤ A.tmod B) ∧ (A ≤ 0 → A.tmod B ≤ 0) := by
    refine ⟨fun h => Int.tmod_nonneg B h, fun h => ?_⟩
    have e := Int.neg_tmod A B
    have p := Int.tmod_nonneg (a := -A) B (by omega)
    omega
  refine ⟨⟨by omega, by omega⟩, ?_, by omega, by omega⟩
  rw [w63_mul_l, w63_add_l, Int.mul_comm, k]
  exact w63_id A a0 a1

theorem walk (a0 : Int) (a1 : Int) (w0 : (Lit.int .i64 a0).wf = true) (w1 : (Lit.int .i64 a1).wf = true) (w : World) :
    Calls Try.prog 6 #[.int .i64 a0, .int .i64 a1] w fun e w' => e = .returned (.bool true) ∧ Below w.heap.size w w' := by
  obtain ⟨h00, h01⟩ := bd w0
  obtain ⟨h10, h11⟩ := bd w1
  obtain ⟨A, HA⟩ : ∃ c, Hid (w63 a0 = c) := ⟨_, rfl⟩
  have iA : In A := by have h := HA.out; subst h; exact In.w63 _
  obtain ⟨B, HB⟩ : ∃ c, Hid (w63 a1 = c) := ⟨_, rfl⟩
  have iB : In B := by have h := HB.out; subst h; exact In.w63 _
  by_cases h0 : B = 0
  · subst h0
    go_enter Try.func6, Try.ntmps6
    go_wp2_with fail
    refine (rwrap_as _ A _ h00 h01 HA.out).mono ?_
    rintro e w' ⟨rfl, rfl⟩
    go_wp2_with fail
    refine (rwrap_as _ 0 _ h10 h11 HB.out).mono ?_
    rintro e w' ⟨rfl, rfl⟩
    go_wp2_with fail
    refine (do_quo0 A _ iA).mono ?_
    rintro e w' ⟨rfl, rfl⟩
    go_wp2_with fail
    refine (do_rem0 A _ iA).mono ?_
    rintro e w' ⟨rfl, rfl⟩
    go_wp2_with (go_at_call 15; refine (lives _).mono ?_; rintro e w' ⟨rfl, hbel⟩)
    go_ret
    exact ⟨rfl, hbel⟩
  · obtain ⟨iR, E, hn, hl⟩ := rem_facts A B iA iB h0
    obtain ⟨Q, HQ⟩ : ∃ c, Hid (w63 (A.tdiv B) = c) := ⟨_, rfl⟩
    have iQ : In Q := by have h := HQ.out; subst h; exact In.w63 _
    obtain ⟨R, HR⟩ : ∃ c, Hid (A.tmod B = c) := ⟨_, rfl⟩
    rw [HR.out] at iR E hn hl
    rw [HQ.out] at E
    obtain ⟨P, HP⟩ : ∃ c, Hid (w63 (Q * B) = c) := ⟨_, rfl⟩
    have iP : In P := by have h := HP.out; subst h; exact In.w63 _
    rw [HP.out] at E
    have HE := Lib.hid E
    clear E
    have i0 := iR.lo
    have i1 := iR.hi
    have e1 : (B == 0) = false := beq_eq_false_iff_ne.2 h0
    have H0 := Lib.hid h0
    clear h0
    rcases hl with ⟨l0, l1, l2⟩ | ⟨l0, l1, l2⟩
    all_goals
      rcases hn with n0 | ⟨n0, n1⟩ | ⟨n0, n1⟩
      · subst n0
        go_enter Try.func6, Try.ntmps6
        go_wp2_with fail
        refine (rwrap_as _ A _ h00 h01 HA.out).mono ?_
        rintro e w' ⟨rfl, rfl⟩
        go_wp2_with fail
        refine (rwrap_as _ B _ h10 h11 HB.out).mono ?_
        rintro e w' ⟨rfl, rfl⟩
        go_wp2_with fail
        refine (do_quo_as A B Q _ iA iB H0.out HQ.out).mono ?_
        rintro e w' ⟨rfl, rfl⟩
        go_wp2_with fail
        refine (do_rem_as A B 0 _ iA iB H0.out HR.out).mono ?_
        rintro e w' ⟨rfl, rfl⟩
        go_wp2_with fail
        refine (do_mul_as Q B P _ iQ iB HP.out).mono ?_
        rintro e w' ⟨rfl, rfl⟩
        go_wp2_with fail
        refine (do_add_as P 0 A _ iP iR HE.out).mono ?_
        rintro e w' ⟨rfl, rfl⟩
        go_wp2_with (go_at_call 15; refine (lives _).mono ?_; rintro e w' ⟨rfl, hbel⟩)
        go_ret
        exact ⟨rfl, hbel⟩
      · have e2 : (R == 0) = false := beq_eq_false_iff_ne.2 (by omega)
        go_enter Try.func6, Try.ntmps6
        go_wp2_with fail
        refine (rwrap_as _ A _ h00 h01 HA.out).mono ?_
        rintro e w' ⟨rfl, rfl⟩
        go_wp2_with fail
        refine (rwrap_as _ B _ h10 h11 HB.out).mono ?_
        rintro e w' ⟨rfl, rfl⟩
        go_wp2_with fail
        refine (do_quo_as A B Q _ iA iB H0.out HQ.out).mono ?_
        rintro e w' ⟨rfl, rfl⟩
        go_wp2_with fail
        refine (do_rem_as A B R _ iA iB H0.out HR.out).mono ?_
        rintro e w' ⟨rfl, rfl⟩
        go_wp2_with fail
        refine (do_mul_as Q B P _ iQ iB HP.out).mono ?_
        rintro e w' ⟨rfl, rfl⟩
        go_wp2_with fail
        refine (do_add_as P R A _ iP iR HE.out).mono ?_
        rintro e w' ⟨rfl, rfl⟩
        go_wp2_with (go_at_call 15; refine (lives _).mono ?_; rintro e w' ⟨rfl, hbel⟩)
        go_ret
        exact ⟨rfl, hbel⟩
      · have e2 : (R == 0) = false := beq_eq_false_iff_ne.2 (by omega)
        go_enter Try.func6, Try.ntmps6
        go_wp2_with fail
        refine (rwrap_as _ A _ h00 h01 HA.out).mono ?_
        rintro e w' ⟨rfl, rfl⟩
        go_wp2_with fail
        refine (rwrap_as _ B _ h10 h11 HB.out).mono ?_
        rintro e w' ⟨rfl, rfl⟩
        go_wp2_with fail
        refine (do_quo_as A B Q _ iA iB H0.out HQ.out).mono ?_
        rintro e w' ⟨rfl, rfl⟩
        go_wp2_with fail
        refine (do_rem_as A B R _ iA iB H0.out HR.out).mono ?_
        rintro e w' ⟨rfl, rfl⟩
        go_wp2_with fail
        refine (do_mul_as Q B P _ iQ iB HP.out).mono ?_
        rintro e w' ⟨rfl, rfl⟩
        go_wp2_with fail
        refine (do_add_as P R A _ iP iR HE.out).mono ?_
        rintro e w' ⟨rfl, rfl⟩
        go_wp2_with (go_at_call 15; refine (lives _).mono ?_; rintro e w' ⟨rfl, hbel⟩)
        go_ret
        exact ⟨rfl, hbel⟩

set_option maxRecDepth 100000 in
theorem lifted (os : Os) (started : os.Started) (H : Type) (enc : TypeId × Value → H) :
    ReturnsInHanded {} Try.checked os 6 .any (Rows.intsDividesSpec.pre6 enc Try.prog Try.f6 Rows.intsDividesRow.domain false) (Rows.intsDividesSpec.post enc Try.prog Try.f6 false true false false) := by
  refine returnsInHanded_of_change (C := Try.checked) own started (by kernel_rfl) Try.func6
    (ChangeSpec.witness6 (enc := enc) (C := Try.checked) false ⟨#[], #[.int .i64 0, .int .i64 0], []⟩ 8 (by kernel_rfl) (by kernel_rfl) (by kernel_rfl) (by kernel_rfl)) ?_
  intro W base args ds gs before hval0 hW hcnd _
  have hval : ∀ (j : Nat) t v, Try.f6.params[j]? = some t → args[j]? = some v → Value.okWide Try.prog W .any base t v := hval0
  have hW' := hW
  obtain ⟨p, q, hA0, hV, rfl, hfz, hnd⟩ := hW
  have hA : DataW.TrodAll enc Try.prog W 0 (fun _ => true) true Try.f6.params.toList args.toList ds p := hA0
  rw [Try.params6] at hA hval
  obtain ⟨v0, vs0, d0, ds0, p0, q0, hargs, rfl, rfl, h0, r0⟩ := trodAll_cons hA
  obtain ⟨v1, vs1, d1, ds1, p1, q1, rfl, rfl, rfl, h1, r1⟩ := trodAll_cons r0
  obtain ⟨rfl, rfl, rfl⟩ := trodAll_nil r1
  obtain rfl : args = #[v0, v1] := by cases args; simp_all
  obtain ⟨rfl, rfl⟩ := trodVars_none hV
  obtain ⟨a0, rfl, rfl, rfl, w0⟩ := open_int Try.underlying3 (hval 0 3 v0 rfl rfl) h0
  obtain ⟨a1, rfl, rfl, rfl, w1⟩ := open_int Try.underlying3 (hval 1 3 v1 rfl rfl) h1
  clear hA0 hval0
  refine (walk a0 a1 w0 w1 W).mono fun e W' ⟨he, bel⟩ => ?_
  subst he
  exact ⟨_, rfl, _, _, _, [], _, [], hW', trodAll_mk1 (shut_bool Try.underlying4 _), (trodAll_cons_mk (shut_int Try.underlying3 w0) (trodAll_cons_mk (shut_int Try.underlying3 w1) trodAll_mk0)), rfl, bel.frame _, fun h => by cases h⟩

theorem over : Rows.intsDividesRow.holds Try.pinned (OpenSpec.ofChange Rows.intsDividesSpec) :=
  OpenClaim.holds_of_wide 6 Try.f6 rfl rfl rfl rfl rfl rfl rfl ⟨rfl, rfl, rfl, rfl, rfl⟩ rfl rfl rfl rfl rfl (by kernel_rfl) Try.func6 (by kernel_rfl)
    (of_decide_eq_true (by kernel_rfl)) (by unfold Func.isWrapper; first | (rw [if_pos (by decide +kernel)]; kernel_rfl) | (rw [if_neg (by decide +kernel)]; exact ⟨rfl, rfl⟩))
    (fun os started H enc _ => lifted os started H enc)

theorem proved : Rows.IntsDividesSaid := over
end Go.Proofs.Ytjnfjceopddhgaa.intsDivides
