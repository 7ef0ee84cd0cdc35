/- IntsRing: whatever the input, the law answers true, and writes nothing that was there. No condition. -/
import Derived.Test.YtjnfjceopddhgaaK4
import Derived.ChangeOld
import Derived.Below
namespace Go.Proofs.Ytjnfjceopddhgaa.intsRing
open Go.ChangeShapes Go.WideShapes Go.ChangeAt Go.RowKit
open Go.ChangeMaps (open_string shut_string)
open Go.Proofs.Ytjnfjceopddhgaa.M Go.Proofs.Ytjnfjceopddhgaa.K1 Go.Proofs.Ytjnfjceopddhgaa.K2 Go.Proofs.Ytjnfjceopddhgaa.K3 Go.Proofs.Ytjnfjceopddhgaa.K4
set_option linter.unusedVariables false

theorem own : ownKnob Try.prog.godebug = none := by kernel_rfl

theorem walk (a0 : Int) (a1 : Int) (a2 : Int) (w0 : (Lit.int .i64 a0).wf = true) (w1 : (Lit.int .i64 a1).wf = true) (w2 : (Lit.int .i64 a2).wf = true) (w : World) :
    Calls Try.prog 5 #[.int .i64 a0, .int .i64 a1, .int .i64 a2] w fun e w' => e = .returned (.bool true) ∧ Below w.heap.size w w' := by
  obtain ⟨h00, h01⟩ := bd w0
  obtain ⟨h10, h11⟩ := bd w1
  obtain ⟨h20, h21⟩ := bd w2
  obtain ⟨A, HA⟩ : ∃ c, Hid (w63 a0 = c) := ⟨_, rfl⟩
  have iA : In A := by have h := HA.out; subst h; exact In.w63 _
  obtain ⟨B, HB⟩ : ∃ c, Hid (w63 a1 = c) := ⟨_, rfl⟩
  have iB : In B := by have h := HB.out; subst h; exact In.w63 _
  obtain ⟨C, HC⟩ : ∃ c, Hid (w63 a2 = c) := ⟨_, rfl⟩
  have iC : In C := by have h := HC.out; subst h; exact In.w63 _
  obtain ⟨P, HP⟩ : ∃ c, Hid (w63 (A + B) = c) := ⟨_, rfl⟩
  have iP : In P := by have h := HP.out; subst h; exact In.w63 _
  obtain ⟨Q, HQ⟩ : ∃ c, Hid (w63 (B + C) = c) := ⟨_, rfl⟩
  have iQ : In Q := by have h := HQ.out; subst h; exact In.w63 _
  obtain ⟨L, HL⟩ : ∃ c, Hid (w63 (P + C) = c) := ⟨_, rfl⟩
  have iL : In L := by have h := HL.out; subst h; exact In.w63 _
  obtain ⟨X, HX⟩ : ∃ c, Hid (w63 (P * C) = c) := ⟨_, rfl⟩
  have iX : In X := by have h := HX.out; subst h; exact In.w63 _
  obtain ⟨Y, HY⟩ : ∃ c, Hid (w63 (A * C) = c) := ⟨_, rfl⟩
  have iY : In Y := by have h := HY.out; subst h; exact In.w63 _
  obtain ⟨Z, HZ⟩ : ∃ c, Hid (w63 (B * C) = c) := ⟨_, rfl⟩
  have iZ : In Z := by have h := HZ.out; subst h; exact In.w63 _
  obtain ⟨M, HM⟩ : ∃ c, Hid (w63 (A * B) = c) := ⟨_, rfl⟩
  have iM : In M := by have h := HM.out; subst h; exact In.w63 _
  have E1 : Hid (w63 (B + A) = P) := by unfold Hid; rw [← HP.out, Int.add_comm]
  have E2 : Hid (w63 (A + Q) = L) := by unfold Hid; rw [← HL.out, ← HP.out, ← HQ.out, w63_add_r, w63_add_l, Int.add_assoc]
  have E3 : Hid (w63 (Y + Z) = X) := by unfold Hid; rw [← HX.out, ← HP.out, ← HY.out, ← HZ.out, w63_add_l, w63_add_r, w63_mul_l, Int.add_mul]
  have E4 : Hid (w63 (B * A) = M) := by unfold Hid; rw [← HM.out, Int.mul_comm]
  have E5 : Hid (w63 (P - B) = A) := by unfold Hid; rw [← HP.out, w63_sub_l, Int.add_sub_cancel]; exact w63_id A iA.lo iA.hi
  go_enter Try.func5, Try.ntmps5
  go_wp2_with fail
  refine (rwrap_as _ A _ h00 h01 HA.out).mono ?_
  rintro e w' ⟨rfl, rfl⟩
  go_wp2_with fail
  refine (rwrap_as _ B _ h10 h11 HB.out).mono ?_
  rintro e w' ⟨rfl, rfl⟩
  go_wp2_with fail
  refine (rwrap_as _ C _ h20 h21 HC.out).mono ?_
  rintro e w' ⟨rfl, rfl⟩
  go_wp2_with fail
  refine (do_add_as A B P _ iA iB HP.out).mono ?_
  rintro e w' ⟨rfl, rfl⟩
  go_wp2_with fail
  refine (do_add_as B A P _ iB iA E1.out).mono ?_
  rintro e w' ⟨rfl, rfl⟩
  go_wp2_with fail
  refine (do_add_as B C Q _ iB iC HQ.out).mono ?_
  rintro e w' ⟨rfl, rfl⟩
  go_wp2_with fail
  refine (do_add_as P C L _ iP iC HL.out).mono ?_
  rintro e w' ⟨rfl, rfl⟩
  go_wp2_with fail
  refine (do_add_as A Q L _ iA iQ E2.out).mono ?_
  rintro e w' ⟨rfl, rfl⟩
  go_wp2_with fail
  refine (do_mul_as P C X _ iP iC HX.out).mono ?_
  rintro e w' ⟨rfl, rfl⟩
  go_wp2_with fail
  refine (do_mul_as A C Y _ iA iC HY.out).mono ?_
  rintro e w' ⟨rfl, rfl⟩
  go_wp2_with fail
  refine (do_mul_as B C Z _ iB iC HZ.out).mono ?_
  rintro e w' ⟨rfl, rfl⟩
  go_wp2_with fail
  refine (do_add_as Y Z X _ iY iZ E3.out).mono ?_
  rintro e w' ⟨rfl, rfl⟩
  go_wp2_with fail
  refine (do_mul_as A B M _ iA iB HM.out).mono ?_
  rintro e w' ⟨rfl, rfl⟩
  go_wp2_with fail
  refine (do_mul_as B A M _ iB iA E4.out).mono ?_
  rintro e w' ⟨rfl, rfl⟩
  go_wp2_with fail
  refine (do_sub_as P B A _ iP iB E5.out).mono ?_
  rintro e w' ⟨rfl, rfl⟩
  go_wp2_with (go_at_call 15; refine (lives _).mono ?_; rintro e w' ⟨rfl, hbel⟩)
  go_ret
  exact ⟨rfl, hbel⟩

set_option maxRecDepth 100000 in
theorem lifted (os : Os) (started : os.Started) (H : Type) (enc : TypeId × Value → H) :
    ReturnsInHanded {} Try.checked os 5 .any (Rows.intsRingSpec.pre6 enc Try.prog Try.f5 Rows.intsRingRow.domain false) (Rows.intsRingSpec.post enc Try.prog Try.f5 false true false false) := by
  refine returnsInHanded_of_change (C := Try.checked) own started (by kernel_rfl) Try.func5
    (ChangeSpec.witness6 (enc := enc) (C := Try.checked) false ⟨#[], #[.int .i64 0, .int .i64 0, .int .i64 0], []⟩ 8 (by kernel_rfl) (by kernel_rfl) (by kernel_rfl) (by kernel_rfl)) ?_
  intro W base args ds gs before hval0 hW hcnd _
  have hval : ∀ (j : Nat) t v, Try.f5.params[j]? = some t → args[j]? = some v → Value.okWide Try.prog W .any base t v := hval0
  have hW' := hW
  obtain ⟨p, q, hA0, hV, rfl, hfz, hnd⟩ := hW
  have hA : DataW.TrodAll enc Try.prog W 0 (fun _ => true) true Try.f5.params.toList args.toList ds p := hA0
  rw [Try.params5] at hA hval
  obtain ⟨v0, vs0, d0, ds0, p0, q0, hargs, rfl, rfl, h0, r0⟩ := trodAll_cons hA
  obtain ⟨v1, vs1, d1, ds1, p1, q1, rfl, rfl, rfl, h1, r1⟩ := trodAll_cons r0
  obtain ⟨v2, vs2, d2, ds2, p2, q2, rfl, rfl, rfl, h2, r2⟩ := trodAll_cons r1
  obtain ⟨rfl, rfl, rfl⟩ := trodAll_nil r2
  obtain rfl : args = #[v0, v1, v2] := by cases args; simp_all
  obtain ⟨rfl, rfl⟩ := trodVars_none hV
  obtain ⟨a0, rfl, rfl, rfl, w0⟩ := open_int Try.underlying3 (hval 0 3 v0 rfl rfl) h0
  obtain ⟨a1, rfl, rfl, rfl, w1⟩ := open_int Try.underlying3 (hval 1 3 v1 rfl rfl) h1
  obtain ⟨a2, rfl, rfl, rfl, w2⟩ := open_int Try.underlying3 (hval 2 3 v2 rfl rfl) h2
  clear hA0 hval0
  refine (walk a0 a1 a2 w0 w1 w2 W).mono fun e W' ⟨he, bel⟩ => ?_
  subst he
  exact ⟨_, rfl, _, _, _, [], _, [], hW', trodAll_mk1 (shut_bool Try.underlying4 _), (trodAll_cons_mk (shut_int Try.underlying3 w0) (trodAll_cons_mk (shut_int Try.underlying3 w1) (trodAll_cons_mk (shut_int Try.underlying3 w2) trodAll_mk0))), rfl, bel.frame _, fun h => by cases h⟩

theorem over : Rows.intsRingRow.holds Try.pinned (OpenSpec.ofChange Rows.intsRingSpec) :=
  OpenClaim.holds_of_wide 5 Try.f5 rfl rfl rfl rfl rfl rfl rfl ⟨rfl, rfl, rfl, rfl, rfl⟩ rfl rfl rfl rfl rfl (by kernel_rfl) Try.func5 (by kernel_rfl)
    (of_decide_eq_true (by kernel_rfl)) (by unfold Func.isWrapper; first | (rw [if_pos (by decide +kernel)]; kernel_rfl) | (rw [if_neg (by decide +kernel)]; exact ⟨rfl, rfl⟩))
    (fun os started H enc _ => lifted os started H enc)

theorem proved : Rows.IntsRingSaid := over
end Go.Proofs.Ytjnfjceopddhgaa.intsRing
