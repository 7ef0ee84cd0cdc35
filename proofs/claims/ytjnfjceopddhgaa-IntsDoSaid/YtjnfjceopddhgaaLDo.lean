/- IntsDo: whatever the input, the law answers true, and writes nothing that was there. No condition. -/
import Derived.Test.YtjnfjceopddhgaaK4
import Derived.Test.YtjnfjceopddhgaaK5
import Derived.ChangeOld
import Derived.Below
namespace Go.Proofs.Ytjnfjceopddhgaa.intsDo
open Go.ChangeShapes Go.WideShapes Go.ChangeAt Go.RowKit
open Go.ChangeMaps (open_string shut_string)
open Go.Proofs.Ytjnfjceopddhgaa.M Go.Proofs.Ytjnfjceopddhgaa.K1 Go.Proofs.Ytjnfjceopddhgaa.K2 Go.Proofs.Ytjnfjceopddhgaa.K3 Go.Proofs.Ytjnfjceopddhgaa.K4 Go.Proofs.Ytjnfjceopddhgaa.K5
set_option linter.unusedVariables false

theorem own : ownKnob Try.prog.godebug = none := by kernel_rfl

theorem only {s : ByteArray} {c : UInt8} (h : s ≠ ⟨#[c]⟩) : (s.toList == [c]) = false :=
  beq_eq_false_iff_ne.2 (fun e => h (ByteArray.ext (Array.toList_inj.1 (by rw [← ByteArray.toList_eq]; exact e))))
theorem do_other (s : ByteArray) (a b : Int) (w : World) (ia : In a) (ib : In b) (h43 : (s.toList == [43]) = false) (h45 : (s.toList == [45]) = false) (h42 : (s.toList == [42]) = false) (h47 : (s.toList == [47]) = false) (h37 : (s.toList == [37]) = false) (h61 : (s.toList == [61]) = false) (h60 : (s.toList == [60]) = false) :
    Calls Try.prog 13 #[.string s, .int .i64 a, .int .i64 b] w fun e w' => e = .returned (.tuple #[.int .i64 0, .int .i64 1]) ∧ w = w' := by
  obtain ⟨a0, a1⟩ := ia
  obtain ⟨b0, b1⟩ := ib
  go_enter Try.func13, Try.ntmps13
  go_wp2_with (go_at_call 27; refine (int_yes _ _ (by omega) (by omega)).mono ?_; rintro e w' ⟨rfl, rfl⟩)
  go_ret2
  exact ⟨rfl, rfl⟩
theorem do_badA (s : ByteArray) (a b : Int) (w : World) (h0 : -9223372036854775808 ≤ a) (h1 : a ≤ 9223372036854775807) (hb : a < -4611686018427387904 ∨ 4611686018427387903 < a) :
    Calls Try.prog 13 #[.string s, .int .i64 a, .int .i64 b] w fun e w' => e = .returned (.tuple #[.int .i64 0, .int .i64 1]) ∧ w = w' := by
  have HB := Lib.hid hb
  clear hb
  go_enter Try.func13, Try.ntmps13
  go_wp2_with (go_at_call 27; refine (int_no _ _ h0 h1 HB.out).mono ?_; rintro e w' ⟨rfl, rfl⟩)
  go_ret2
  exact ⟨rfl, rfl⟩
theorem do_badB (s : ByteArray) (a b : Int) (w : World) (ia : In a) (h0 : -9223372036854775808 ≤ b) (h1 : b ≤ 9223372036854775807) (hb : b < -4611686018427387904 ∨ 4611686018427387903 < b) :
    Calls Try.prog 13 #[.string s, .int .i64 a, .int .i64 b] w fun e w' => e = .returned (.tuple #[.int .i64 0, .int .i64 1]) ∧ w = w' := by
  obtain ⟨a0, a1⟩ := ia
  have HB := Lib.hid hb
  clear hb
  go_enter Try.func13, Try.ntmps13
  go_wp2_with fail
  refine (int_yes _ _ a0 a1).mono ?_
  rintro e w' ⟨rfl, rfl⟩
  go_wp2_with fail
  refine (int_no _ _ h0 h1 HB.out).mono ?_
  rintro e w' ⟨rfl, rfl⟩
  go_wp2_with fail
  go_ret2
  exact ⟨rfl, rfl⟩
theorem rdo_other (s : ByteArray) (a b : Int) (w : World) (ia : In a) (ib : In b) (h43 : (s.toList == [43]) = false) (h45 : (s.toList == [45]) = false) (h42 : (s.toList == [42]) = false) (h47 : (s.toList == [47]) = false) (h37 : (s.toList == [37]) = false) (h61 : (s.toList == [61]) = false) (h60 : (s.toList == [60]) = false) :
    Calls Try.prog 14 #[.string s, .int .i64 a, .int .i64 b] w fun e w' => e = .returned (.tuple #[.int .i64 0, .int .i64 1]) ∧ w = w' := by
  obtain ⟨a0, a1⟩ := ia
  obtain ⟨b0, b1⟩ := ib
  go_enter Try.func14, Try.ntmps14
  go_wp2_with (go_at_call 18; refine (is_yes _ _ (by omega) (by omega)).mono ?_; rintro e w' ⟨rfl, rfl⟩)
  go_ret2
  exact ⟨rfl, rfl⟩
theorem rdo_badA (s : ByteArray) (a b : Int) (w : World) (h0 : -9223372036854775808 ≤ a) (h1 : a ≤ 9223372036854775807) (hb : a < -4611686018427387904 ∨ 4611686018427387903 < a) :
    Calls Try.prog 14 #[.string s, .int .i64 a, .int .i64 b] w fun e w' => e = .returned (.tuple #[.int .i64 0, .int .i64 1]) ∧ w = w' := by
  have HB := Lib.hid hb
  clear hb
  go_enter Try.func14, Try.ntmps14
  go_wp2_with (go_at_call 18; refine (is_no _ _ HB.out).mono ?_; rintro e w' ⟨rfl, rfl⟩)
  go_ret2
  exact ⟨rfl, rfl⟩
theorem rdo_badB (s : ByteArray) (a b : Int) (w : World) (ia : In a) (h0 : -9223372036854775808 ≤ b) (h1 : b ≤ 9223372036854775807) (hb : b < -4611686018427387904 ∨ 4611686018427387903 < b) :
    Calls Try.prog 14 #[.string s, .int .i64 a, .int .i64 b] w fun e w' => e = .returned (.tuple #[.int .i64 0, .int .i64 1]) ∧ w = w' := by
  obtain ⟨a0, a1⟩ := ia
  have HB := Lib.hid hb
  clear hb
  go_enter Try.func14, Try.ntmps14
  go_wp2_with fail
  refine (is_yes _ _ a0 a1).mono ?_
  rintro e w' ⟨rfl, rfl⟩
  go_wp2_with fail
  refine (is_no _ _ HB.out).mono ?_
  rintro e w' ⟨rfl, rfl⟩
  go_wp2_with fail
  go_ret2
  exact ⟨rfl, rfl⟩

set_option maxHeartbeats 4000000 in
theorem walk (a0 : ByteArray) (a1 : Int) (a2 : Int) (w0 : a0.size ≤ maxLen) (w1 : (Lit.int .i64 a1).wf = true) (w2 : (Lit.int .i64 a2).wf = true) (w : World) :
    Calls Try.prog 3 #[.string a0, .int .i64 a1, .int .i64 a2] w fun e w' => e = .returned (.bool true) ∧ Below w.heap.size w w' := by
  obtain ⟨h10, h11⟩ := bd w1
  obtain ⟨h20, h21⟩ := bd w2
  by_cases ha : a1 < -4611686018427387904 ∨ 4611686018427387903 < a1
  · have HB := Lib.hid ha
    clear ha
    go_enter Try.func3, Try.ntmps3
    go_wp2_with fail
    refine (do_badA a0 a1 a2 _ h10 h11 HB.out).mono ?_
    rintro e w' ⟨rfl, rfl⟩
    go_wp2_with fail
    refine (rdo_badA a0 a1 a2 _ h10 h11 HB.out).mono ?_
    rintro e w' ⟨rfl, rfl⟩
    go_wp2_with (go_at_call 15; refine (lives _).mono ?_; rintro e w' ⟨rfl, hbel⟩)
    go_ret
    exact ⟨rfl, hbel⟩
  · have ia : In a1 := ⟨by omega, by omega⟩
    clear ha
    by_cases hb : a2 < -4611686018427387904 ∨ 4611686018427387903 < a2
    · have HB := Lib.hid hb
      clear hb
      go_enter Try.func3, Try.ntmps3
      go_wp2_with fail
      refine (do_badB a0 a1 a2 _ ia h20 h21 HB.out).mono ?_
      rintro e w' ⟨rfl, rfl⟩
      go_wp2_with fail
      refine (rdo_badB a0 a1 a2 _ ia h20 h21 HB.out).mono ?_
      rintro e w' ⟨rfl, rfl⟩
      go_wp2_with (go_at_call 15; refine (lives _).mono ?_; rintro e w' ⟨rfl, hbel⟩)
      go_ret
      exact ⟨rfl, hbel⟩
    · have ib : In a2 := ⟨by omega, by omega⟩
      clear hb
      by_cases o43 : a0 = ⟨#[43]⟩
      · subst o43
        go_enter Try.func3, Try.ntmps3
        go_wp2_with fail
        refine (do_add a1 a2 _ ia ib).mono ?_
        rintro e w' ⟨rfl, rfl⟩
        go_wp2_with fail
        refine (rdo_add a1 a2 _ ia ib).mono ?_
        rintro e w' ⟨rfl, rfl⟩
        go_wp2_with (go_at_call 15; refine (lives _).mono ?_; rintro e w' ⟨rfl, hbel⟩)
        go_ret
        exact ⟨rfl, hbel⟩
      by_cases o45 : a0 = ⟨#[45]⟩
      · subst o45
        go_enter Try.func3, Try.ntmps3
        go_wp2_with fail
        refine (do_sub a1 a2 _ ia ib).mono ?_
        rintro e w' ⟨rfl, rfl⟩
        go_wp2_with fail
        refine (rdo_sub a1 a2 _ ia ib).mono ?_
        rintro e w' ⟨rfl, rfl⟩
        go_wp2_with (go_at_call 15; refine (lives _).mono ?_; rintro e w' ⟨rfl, hbel⟩)
        go_ret
        exact ⟨rfl, hbel⟩
      by_cases o42 : a0 = ⟨#[42]⟩
      · subst o42
        go_enter Try.func3, Try.ntmps3
        go_wp2_with fail
        refine (do_mul a1 a2 _ ia ib).mono ?_
        rintro e w' ⟨rfl, rfl⟩
        go_wp2_with fail
        refine (rdo_mul a1 a2 _ ia ib).mono ?_
        rintro e w' ⟨rfl, rfl⟩
        go_wp2_with (go_at_call 15; refine (lives _).mono ?_; rintro e w' ⟨rfl, hbel⟩)
        go_ret
        exact ⟨rfl, hbel⟩
      by_cases o47 : a0 = ⟨#[47]⟩
      · subst o47
        by_cases hz : a2 = 0
        · subst hz
          go_enter Try.func3, Try.ntmps3
          go_wp2_with fail
          refine (do_quo0 a1 _ ia).mono ?_
          rintro e w' ⟨rfl, rfl⟩
          go_wp2_with fail
          refine (rdo_quo0 a1 _ ia).mono ?_
          rintro e w' ⟨rfl, rfl⟩
          go_wp2_with (go_at_call 15; refine (lives _).mono ?_; rintro e w' ⟨rfl, hbel⟩)
          go_ret
          exact ⟨rfl, hbel⟩
        · have HZ := Lib.hid hz
          clear hz
          go_enter Try.func3, Try.ntmps3
          go_wp2_with fail
          refine (do_quo a1 a2 _ ia ib HZ.out).mono ?_
          rintro e w' ⟨rfl, rfl⟩
          go_wp2_with fail
          refine (rdo_quo a1 a2 _ ia ib HZ.out).mono ?_
          rintro e w' ⟨rfl, rfl⟩
          go_wp2_with (go_at_call 15; refine (lives _).mono ?_; rintro e w' ⟨rfl, hbel⟩)
          go_ret
          exact ⟨rfl, hbel⟩
      by_cases o37 : a0 = ⟨#[37]⟩
      · subst o37
        by_cases hz : a2 = 0
        · subst hz
          go_enter Try.func3, Try.ntmps3
          go_wp2_with fail
          refine (do_rem0 a1 _ ia).mono ?_
          rintro e w' ⟨rfl, rfl⟩
          go_wp2_with fail
          refine (rdo_rem0 a1 _ ia).mono ?_
          rintro e w' ⟨rfl, rfl⟩
          go_wp2_with (go_at_call 15; refine (lives _).mono ?_; rintro e w' ⟨rfl, hbel⟩)
          go_ret
          exact ⟨rfl, hbel⟩
        · have HZ := Lib.hid hz
          clear hz
          go_enter Try.func3, Try.ntmps3
          go_wp2_with fail
          refine (do_rem a1 a2 _ ia ib HZ.out).mono ?_
          rintro e w' ⟨rfl, rfl⟩
          go_wp2_with fail
          refine (rdo_rem a1 a2 _ ia ib HZ.out).mono ?_
          rintro e w' ⟨rfl, rfl⟩
          go_wp2_with (go_at_call 15; refine (lives _).mono ?_; rintro e w' ⟨rfl, hbel⟩)
          go_ret
          exact ⟨rfl, hbel⟩
      by_cases o61 : a0 = ⟨#[61]⟩
      · subst o61
        go_enter Try.func3, Try.ntmps3
        go_wp2_with fail
        refine (do_eq a1 a2 _ ia ib).mono ?_
        rintro e w' ⟨rfl, rfl⟩
        go_wp2_with fail
        refine (rdo_eq a1 a2 _ ia ib).mono ?_
        rintro e w' ⟨rfl, rfl⟩
        go_wp2_with (go_at_call 15; refine (lives _).mono ?_; rintro e w' ⟨rfl, hbel⟩)
        go_ret
        exact ⟨rfl, hbel⟩
      by_cases o60 : a0 = ⟨#[60]⟩
      · subst o60
        go_enter Try.func3, Try.ntmps3
        go_wp2_with fail
        refine (do_lt a1 a2 _ ia ib).mono ?_
        rintro e w' ⟨rfl, rfl⟩
        go_wp2_with fail
        refine (rdo_lt a1 a2 _ ia ib).mono ?_
        rintro e w' ⟨rfl, rfl⟩
        go_wp2_with (go_at_call 15; refine (lives _).mono ?_; rintro e w' ⟨rfl, hbel⟩)
        go_ret
        exact ⟨rfl, hbel⟩
      have O43 := Lib.hid (only o43)
      clear o43
      have O45 := Lib.hid (only o45)
      clear o45
      have O42 := Lib.hid (only o42)
      clear o42
      have O47 := Lib.hid (only o47)
      clear o47
      have O37 := Lib.hid (only o37)
      clear o37
      have O61 := Lib.hid (only o61)
      clear o61
      have O60 := Lib.hid (only o60)
      clear o60
      go_enter Try.func3, Try.ntmps3
      go_wp2_with fail
      refine (do_other a0 a1 a2 _ ia ib O43.out O45.out O42.out O47.out O37.out O61.out O60.out).mono ?_
      rintro e w' ⟨rfl, rfl⟩
      go_wp2_with fail
      refine (rdo_other a0 a1 a2 _ ia ib O43.out O45.out O42.out O47.out O37.out O61.out O60.out).mono ?_
      rintro e w' ⟨rfl, rfl⟩
      go_wp2_with (go_at_call 15; refine (lives _).mono ?_; rintro e w' ⟨rfl, hbel⟩)
      go_ret
      exact ⟨rfl, hbel⟩

set_option maxRecDepth 100000 in
theorem lifted (os : Os) (started : os.Started) (H : Type) (enc : TypeId × Value → H) :
    ReturnsInHanded {} Try.checked os 3 .any (Rows.intsDoSpec.pre6 enc Try.prog Try.f3 Rows.intsDoRow.domain false) (Rows.intsDoSpec.post enc Try.prog Try.f3 false true false false) := by
  refine returnsInHanded_of_change (C := Try.checked) own started (by kernel_rfl) Try.func3
    (ChangeSpec.witness6 (enc := enc) (C := Try.checked) false ⟨#[], #[.string ByteArray.empty, .int .i64 0, .int .i64 0], []⟩ 8 (by kernel_rfl) (by kernel_rfl) (by kernel_rfl) (by kernel_rfl)) ?_
  intro W base args ds gs before hval0 hW hcnd _
  have hval : ∀ (j : Nat) t v, Try.f3.params[j]? = some t → args[j]? = some v → Value.okWide Try.prog W .any base t v := hval0
  have hW' := hW
  obtain ⟨p, q, hA0, hV, rfl, hfz, hnd⟩ := hW
  have hA : DataW.TrodAll enc Try.prog W 0 (fun _ => true) true Try.f3.params.toList args.toList ds p := hA0
  rw [Try.params3] at hA hval
  obtain ⟨v0, vs0, d0, ds0, p0, q0, hargs, rfl, rfl, h0, r0⟩ := trodAll_cons hA
  obtain ⟨v1, vs1, d1, ds1, p1, q1, rfl, rfl, rfl, h1, r1⟩ := trodAll_cons r0
  obtain ⟨v2, vs2, d2, ds2, p2, q2, rfl, rfl, rfl, h2, r2⟩ := trodAll_cons r1
  obtain ⟨rfl, rfl, rfl⟩ := trodAll_nil r2
  obtain rfl : args = #[v0, v1, v2] := by cases args; simp_all
  obtain ⟨rfl, rfl⟩ := trodVars_none hV
  obtain ⟨a0, rfl, rfl, rfl, w0⟩ := open_string Try.underlying9 (hval 0 9 v0 rfl rfl) h0
  obtain ⟨a1, rfl, rfl, rfl, w1⟩ := open_int Try.underlying3 (hval 1 3 v1 rfl rfl) h1
  obtain ⟨a2, rfl, rfl, rfl, w2⟩ := open_int Try.underlying3 (hval 2 3 v2 rfl rfl) h2
  clear hA0 hval0
  refine (walk a0 a1 a2 w0 w1 w2 W).mono fun e W' ⟨he, bel⟩ => ?_
  subst he
  exact ⟨_, rfl, _, _, _, [], _, [], hW', trodAll_mk1 (shut_bool Try.underlying4 _), (trodAll_cons_mk (shut_string Try.underlying9 w0) (trodAll_cons_mk (shut_int Try.underlying3 w1) (trodAll_cons_mk (shut_int Try.underlying3 w2) trodAll_mk0))), rfl, bel.frame _, fun h => by cases h⟩

theorem over : Rows.intsDoRow.holds Try.pinned (OpenSpec.ofChange Rows.intsDoSpec) :=
  OpenClaim.holds_of_wide 3 Try.f3 rfl rfl rfl rfl rfl rfl rfl ⟨rfl, rfl, rfl, rfl, rfl⟩ rfl rfl rfl rfl rfl (by kernel_rfl) Try.func3 (by kernel_rfl)
    (of_decide_eq_true (by kernel_rfl)) (by unfold Func.isWrapper; first | (rw [if_pos (by decide +kernel)]; kernel_rfl) | (rw [if_neg (by decide +kernel)]; exact ⟨rfl, rfl⟩))
    (fun os started H enc _ => lifted os started H enc)

theorem proved : Rows.IntsDoSaid := over
end Go.Proofs.Ytjnfjceopddhgaa.intsDo
