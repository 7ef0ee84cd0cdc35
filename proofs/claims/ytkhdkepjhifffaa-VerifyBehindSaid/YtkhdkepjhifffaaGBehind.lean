/- VerifyBehind: whatever the input, the law answers true, and writes nothing that was there. No condition. -/
import Derived.Test.YtkhdkepjhifffaaJBehind
import Derived.Test.YtkhdkepjhifffaaPM
import Derived.Below
import Derived.ChangeOld
import Derived.Lay
import Derived.LaidMore
namespace Go.Proofs.Ytkhdkepjhifffaa.verifyBehind
open Go.ChangeShapes Go.WideShapes Go.ChangeAt Go.RowKit Go.Proofs.Ytkhdkepjhifffaa.RG Go.Proofs.Ytkhdkepjhifffaa.KA Go.Proofs.Ytkhdkepjhifffaa.KB Go.Proofs.Ytkhdkepjhifffaa.PM
set_option linter.unusedVariables false
set_option maxRecDepth 100000
set_option maxRecDepth 100000

set_option maxRecDepth 100000 in
theorem lifted (os : Os) (started : os.Started) (H : Type) (enc : TypeId × Value → H) :
    ReturnsInHanded {} Try.checked os 7 .any (Rows.verifyBehindSpec.pre6 enc Try.prog Try.f7 Rows.verifyBehindRow.domain false) (Rows.verifyBehindSpec.post enc Try.prog Try.f7 false true false false) := by
  refine returnsInHanded_of_change (C := Try.checked) own started (by kernel_rfl) Try.func7
    (ChangeSpec.witness6 (enc := enc) (C := Try.checked) false ⟨#[], #[.agg #[.slice none 0 0, .slice none 0 0, .slice none 0 0, .int .i64 0], .int .i64 0, .int .i64 0, .agg #[.int .i64 0, .int .i64 0, .int .i64 0]], []⟩ 8 (by kernel_rfl) (by kernel_rfl) (by kernel_rfl) (by kernel_rfl)) ?_
  intro W base args ds gs before hval0 hW hcnd _
  have hval : ∀ (j : Nat) t v, Try.f7.params[j]? = some t → args[j]? = some v → Value.okWide Try.prog W .any base t v := hval0
  have hW' := hW
  obtain ⟨p, q, hA0, hV, rfl, hfz, hnd⟩ := hW
  have hA : DataW.TrodAll enc Try.prog W 0 (fun _ => true) true Try.f7.params.toList args.toList ds p := hA0
  have hlt := DataW.TrodAll.lt hA
  rw [Try.params7] at hA hval
  obtain ⟨v0, vs0, d0, ds0, p0, q0, hargs, rfl, rfl, h0, r0⟩ := trodAll_cons hA
  obtain ⟨v1, vs1, d1, ds1, p1, q1, rfl, rfl, rfl, h1, r1⟩ := trodAll_cons r0
  obtain ⟨v2, vs2, d2, ds2, p2, q2, rfl, rfl, rfl, h2, r2⟩ := trodAll_cons r1
  obtain ⟨v3, vs3, d3, ds3, p3, q3, rfl, rfl, rfl, h3, r3⟩ := trodAll_cons r2
  obtain ⟨rfl, rfl, rfl⟩ := trodAll_nil r3
  obtain rfl : args = #[v0, v1, v2, v3] := by cases args; simp_all
  obtain ⟨rfl, rfl⟩ := trodVars_none hV
  obtain ⟨cs0, rfl, _⟩ := okWide_struct Try.underlying27 (hval 0 27 v0 rfl rfl)
  have hlt0 : ∀ x ∈ p0, x.block < W.heap.size := fun x hx => hlt x (by simp [hx])
  obtain ⟨fu0, hf0⟩ := id h0
  obtain ⟨co0, fv0, iv0, tv0, he0, ha0, hb0⟩ := code_of _ _ _ hf0
  obtain rfl : cs0 = #[fv0, iv0, tv0, .int .i64 co0.lets] := by have e : cs0.toList = [fv0, iv0, tv0, .int .i64 co0.lets] := he0; exact Array.ext' e
  obtain ⟨a1, rfl, rfl, rfl, w1⟩ := open_int Try.underlying3 (hval 1 3 v1 rfl rfl) h1
  obtain ⟨a2, rfl, rfl, rfl, w2⟩ := open_int Try.underlying3 (hval 2 3 v2 rfl rfl) h2
  obtain ⟨cs3, rfl, _⟩ := okWide_struct Try.underlying45 (hval 3 45 v3 rfl rfl)
  have hlt3 : ∀ x ∈ p3, x.block < W.heap.size := fun x hx => hlt x (by simp [hx])
  obtain ⟨fu3, hf3⟩ := id h3
  obtain ⟨in3, qn3, he3, _, _⟩ := ins_one _ _ _ hf3
  obtain rfl : cs3 = #[.int .i64 in3.op, .int .i64 in3.a, .int .i64 in3.b] := by have e : cs3.toList = [.int .i64 in3.op, .int .i64 in3.a, .int .i64 in3.b] := he3; exact Array.ext' e
  clear hA0 hval0
  have hwalk := walk W co0 _ _ _ ha0 hb0 a1 (wf_le w1).1 (wf_le w1).2 a2 (wf_le w2).1 (wf_le w2).2 in3
  refine hwalk.mono fun e W' ⟨he, bel⟩ => ?_
  subst he
  exact ⟨_, rfl, _, _, _, [], _, [], hW', trodAll_mk1 (shut_bool Try.underlying4 _), (trodAll_cons_mk (Below.trod laidOut (by kernel_rfl) (of_decide_eq_true (by kernel_rfl)) h0 bel hlt0) (trodAll_cons_mk (shut_int Try.underlying3 w1) (trodAll_cons_mk (shut_int Try.underlying3 w2) (trodAll_cons_mk (Below.trod laidOut (by kernel_rfl) (of_decide_eq_true (by kernel_rfl)) h3 bel hlt3) trodAll_mk0)))), rfl, bel.frame _, fun h => by cases h⟩

theorem over : Rows.verifyBehindRow.holds Try.pinned (OpenSpec.ofChange Rows.verifyBehindSpec) :=
  OpenClaim.holds_of_wide 7 Try.f7 rfl rfl rfl rfl rfl rfl rfl ⟨rfl, rfl, rfl, rfl, rfl⟩ rfl rfl rfl rfl rfl (by kernel_rfl) Try.func7 (by kernel_rfl)
    (of_decide_eq_true (by kernel_rfl)) (by unfold Func.isWrapper; first | (rw [if_pos (by decide +kernel)]; kernel_rfl) | (rw [if_neg (by decide +kernel)]; exact ⟨rfl, rfl⟩))
    (fun os started H enc _ => lifted os started H enc)

theorem proved : Rows.VerifyBehindSaid := over
end Go.Proofs.Ytkhdkepjhifffaa.verifyBehind
