/- IntsShows: whatever the input, the law answers true, and writes nothing that was there. No condition. -/
import Derived.Test.YtjnfjceopddhgaaK4
import Derived.Test.YtjnfjceopddhgaaK6
import Derived.Test.YtjnfjceopddhgaaK8
import Derived.ChangeOld
import Derived.Below
namespace Go.Proofs.Ytjnfjceopddhgaa.intsShows
open Go.ChangeShapes Go.WideShapes Go.ChangeAt Go.RowKit
open Go.ChangeMaps (open_string shut_string)
open Go.Proofs.Ytjnfjceopddhgaa.M Go.Proofs.Ytjnfjceopddhgaa.S Go.Proofs.Ytjnfjceopddhgaa.R Go.Proofs.Ytjnfjceopddhgaa.K1 Go.Proofs.Ytjnfjceopddhgaa.K2 Go.Proofs.Ytjnfjceopddhgaa.K3 Go.Proofs.Ytjnfjceopddhgaa.K4 Go.Proofs.Ytjnfjceopddhgaa.K6 Go.Proofs.Ytjnfjceopddhgaa.K8
set_option linter.unusedVariables false

theorem own : ownKnob Try.prog.godebug = none := by kernel_rfl

theorem ndF_le : ∀ f m, ndF f m ≤ f + 1
  | 0, m => by simp [ndF]
  | f + 1, m => by
    unfold ndF
    have := ndF_le f (m / 10)
    split <;> omega
theorem show_len (v : Int) : (showL v).length ≤ 40 := by
  have h := ndF_le 30 v.natAbs
  unfold showL nd
  split
  · rw [List.length_cons, digs_length]; omega
  · rw [digs_length]; omega
theorem read_back (v : Int) (h0 : -4611686018427387904 ≤ v) (h1 : v ≤ 4611686018427387903) (w : World) :
    Calls Try.prog 24 #[.string ⟨(showL v).toArray⟩] w fun e w' => e = .returned (.tuple #[.int .i64 v, .int .i64 0]) ∧ w = w' := by
  have g := read_any ⟨(showL v).toArray⟩ w (by unfold maxLen; have := show_len v; simp [ByteArray.size]; omega)
  rw [show (ByteArray.mk (showL v).toArray).data.toList = showL v from rfl, read_show v h0 h1] at g
  exact g
theorem show_as (n v : Int) (t : List UInt8) (w : World) (h0 : -9223372036854775808 ≤ n) (h1 : n ≤ 9223372036854775807) (hv : w63 n = v) (ht : showL v = t) :
    Calls Try.prog 23 #[.int .i64 n] w fun e w' => e = .returned (.string ⟨t.toArray⟩) ∧ Below w.heap.size w w' := by
  subst ht; subst hv; exact show_any n w h0 h1
theorem rshow_as (n v : Int) (t : List UInt8) (w : World) (h0 : -9223372036854775808 ≤ n) (h1 : n ≤ 9223372036854775807) (hv : w63 n = v) (ht : showL v = t) :
    Calls Try.prog 25 #[.int .i64 n] w fun e w' => e = .returned (.string ⟨t.toArray⟩) ∧ Below w.heap.size w w' := by
  subst ht; subst hv; exact rshow_any n w h0 h1
theorem read_as (v : Int) (t : List UInt8) (h0 : -4611686018427387904 ≤ v) (h1 : v ≤ 4611686018427387903) (w : World) (ht : showL v = t) :
    Calls Try.prog 24 #[.string ⟨t.toArray⟩] w fun e w' => e = .returned (.tuple #[.int .i64 v, .int .i64 0]) ∧ w = w' := by
  subst ht; exact read_back v h0 h1 w

theorem walk (a0 : Int) (w0 : (Lit.int .i64 a0).wf = true) (w : World) :
    Calls Try.prog 9 #[.int .i64 a0] w fun e w' => e = .returned (.bool true) ∧ Below w.heap.size w w' := by
  obtain ⟨h0, h1⟩ := bd w0
  obtain ⟨v, HV⟩ : ∃ c, Hid (w63 a0 = c) := ⟨_, rfl⟩
  have hv0 : -4611686018427387904 ≤ v := by rw [← HV.out]; exact w63_lo _
  have hv1 : v ≤ 4611686018427387903 := by rw [← HV.out]; exact w63_hi _
  obtain ⟨t, HT⟩ : ∃ c, Hid (showL v = c) := ⟨_, rfl⟩
  go_enter Try.func9, Try.ntmps9
  go_wp2_with fail
  refine (show_as _ v t _ h0 h1 HV.out HT.out).mono ?_
  rintro e w1 ⟨rfl, b1⟩
  go_wp2_with fail
  refine (read_as v t hv0 hv1 _ HT.out).mono ?_
  rintro e w' ⟨rfl, rfl⟩
  go_wp2_with fail
  refine (rshow_as _ v t _ h0 h1 HV.out HT.out).mono ?_
  rintro e w2 ⟨rfl, b2⟩
  go_wp2_with fail
  refine (rwrap_as _ v _ h0 h1 HV.out).mono ?_
  rintro e w' ⟨rfl, rfl⟩
  go_wp2_with (go_at_call 15; refine (lives _).mono ?_; rintro e w3 ⟨rfl, b3⟩)
  go_ret
  exact ⟨rfl, b1.trans ((b2.trans (b3.mono b2.size)).mono b1.size)⟩

set_option maxRecDepth 100000 in
theorem lifted (os : Os) (started : os.Started) (H : Type) (enc : TypeId × Value → H) :
    ReturnsInHanded {} Try.checked os 9 .any (Rows.intsShowsSpec.pre6 enc Try.prog Try.f9 Rows.intsShowsRow.domain false) (Rows.intsShowsSpec.post enc Try.prog Try.f9 false true false false) := by
  refine returnsInHanded_of_change (C := Try.checked) own started (by kernel_rfl) Try.func9
    (ChangeSpec.witness6 (enc := enc) (C := Try.checked) false ⟨#[], #[.int .i64 0], []⟩ 8 (by kernel_rfl) (by kernel_rfl) (by kernel_rfl) (by kernel_rfl)) ?_
  intro W base args ds gs before hval0 hW hcnd _
  have hval : ∀ (j : Nat) t v, Try.f9.params[j]? = some t → args[j]? = some v → Value.okWide Try.prog W .any base t v := hval0
  have hW' := hW
  obtain ⟨p, q, hA0, hV, rfl, hfz, hnd⟩ := hW
  have hA : DataW.TrodAll enc Try.prog W 0 (fun _ => true) true Try.f9.params.toList args.toList ds p := hA0
  rw [Try.params9] at hA hval
  obtain ⟨v0, vs0, d0, ds0, p0, q0, hargs, rfl, rfl, h0, r0⟩ := trodAll_cons hA
  obtain ⟨rfl, rfl, rfl⟩ := trodAll_nil r0
  obtain rfl : args = #[v0] := by cases args; simp_all
  obtain ⟨rfl, rfl⟩ := trodVars_none hV
  obtain ⟨a0, rfl, rfl, rfl, w0⟩ := open_int Try.underlying3 (hval 0 3 v0 rfl rfl) h0
  clear hA0 hval0
  refine (walk a0 w0 W).mono fun e W' ⟨he, bel⟩ => ?_
  subst he
  exact ⟨_, rfl, _, _, _, [], _, [], hW', trodAll_mk1 (shut_bool Try.underlying4 _), (trodAll_cons_mk (shut_int Try.underlying3 w0) trodAll_mk0), rfl, bel.frame _, fun h => by cases h⟩

theorem over : Rows.intsShowsRow.holds Try.pinned (OpenSpec.ofChange Rows.intsShowsSpec) :=
  OpenClaim.holds_of_wide 9 Try.f9 rfl rfl rfl rfl rfl rfl rfl ⟨rfl, rfl, rfl, rfl, rfl⟩ rfl rfl rfl rfl rfl (by kernel_rfl) Try.func9 (by kernel_rfl)
    (of_decide_eq_true (by kernel_rfl)) (by unfold Func.isWrapper; first | (rw [if_pos (by decide +kernel)]; kernel_rfl) | (rw [if_neg (by decide +kernel)]; exact ⟨rfl, rfl⟩))
    (fun os started H enc _ => lifted os started H enc)

theorem proved : Rows.IntsShowsSaid := over
end Go.Proofs.Ytjnfjceopddhgaa.intsShows
