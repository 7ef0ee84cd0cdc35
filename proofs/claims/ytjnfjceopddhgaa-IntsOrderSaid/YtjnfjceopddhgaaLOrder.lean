/- IntsOrder: whatever the input, the law answers true, and writes nothing that was there. No condition. -/
import Derived.Test.YtjnfjceopddhgaaK4
import Derived.ChangeOld
import Derived.Below
namespace Go.Proofs.Ytjnfjceopddhgaa.intsOrder
open Go.ChangeShapes Go.WideShapes Go.ChangeAt Go.RowKit
open Go.ChangeMaps (open_string shut_string)
open Go.Proofs.Ytjnfjceopddhgaa.M Go.Proofs.Ytjnfjceopddhgaa.K1 Go.Proofs.Ytjnfjceopddhgaa.K2 Go.Proofs.Ytjnfjceopddhgaa.K3 Go.Proofs.Ytjnfjceopddhgaa.K4
set_option linter.unusedVariables false

theorem own : ownKnob Try.prog.godebug = none := by kernel_rfl

theorem two (b : Bool) : tr b = 0 ∨ tr b = 1 := by cases b <;> decide
theorem tr1 {b : Bool} (h : tr b = 1) : b = true := by cases b <;> simp_all [tr]
theorem tr0 {b : Bool} (h : tr b = 0) : b = false := by cases b <;> simp_all [tr]
theorem core (A B C : Int) : (tr (decide (A < B)) = 1 ∧ tr (decide (B < A)) = 0 ∧ tr (A == B) = 0 ∧ (A == B) = false) ∨ (tr (decide (A < B)) = 0 ∧ tr (decide (B < A)) = 1 ∧ tr (A == B) = 0 ∧ (A == B) = false) ∨ (tr (decide (A < B)) = 0 ∧ tr (decide (B < A)) = 0 ∧ tr (A == B) = 1 ∧ (A == B) = true) := by
  rcases Int.lt_trichotomy A B with c | c | c
  · exact .inl (by rw [decide_eq_true c, decide_eq_false (by omega), beq_eq_false_iff_ne.2 (by omega)]; exact ⟨rfl, rfl, rfl, rfl⟩)
  · exact .inr (.inr (by rw [decide_eq_false (by omega), decide_eq_false (by omega), beq_iff_eq.2 c]; exact ⟨rfl, rfl, rfl, rfl⟩))
  · exact .inr (.inl (by rw [decide_eq_false (by omega), decide_eq_true c, beq_eq_false_iff_ne.2 (by omega)]; exact ⟨rfl, rfl, rfl, rfl⟩))
theorem chain (A B C : Int) (h : tr (decide (A < B)) = 1) (g : tr (decide (B < C)) = 1) : tr (decide (A < C)) = 1 := by
  have h1 := of_decide_eq_true (tr1 h)
  have g1 := of_decide_eq_true (tr1 g)
  rw [decide_eq_true (by omega)]; rfl

theorem walk (a0 : Int) (a1 : Int) (a2 : Int) (w0 : (Lit.int .i64 a0).wf = true) (w1 : (Lit.int .i64 a1).wf = true) (w2 : (Lit.int .i64 a2).wf = true) (w : World) :
    Calls Try.prog 11 #[.int .i64 a0, .int .i64 a1, .int .i64 a2] w fun e w' => e = .returned (.bool true) ∧ Below w.heap.size w w' := by
  obtain ⟨h00, h01⟩ := bd w0
  obtain ⟨h10, h11⟩ := bd w1
  obtain ⟨h20, h21⟩ := bd w2
  obtain ⟨A, HA⟩ : ∃ c, Hid (w63 a0 = c) := ⟨_, rfl⟩
  have iA : In A := by have h := HA.out; subst h; exact In.w63 _
  obtain ⟨B, HB⟩ : ∃ c, Hid (w63 a1 = c) := ⟨_, rfl⟩
  have iB : In B := by have h := HB.out; subst h; exact In.w63 _
  obtain ⟨C, HC⟩ : ∃ c, Hid (w63 a2 = c) := ⟨_, rfl⟩
  have iC : In C := by have h := HC.out; subst h; exact In.w63 _
  rcases core A B C with ⟨hx, hy, hz, hq⟩ | ⟨hx, hy, hz, hq⟩ | ⟨hx, hy, hz, hq⟩
  · have HX := Lib.hid hx
    have HY := Lib.hid hy
    have HZ := Lib.hid hz
    clear hx hy hz
    rcases two (decide (B < C)) with hu | hu
    · have HU := Lib.hid hu
      clear hu
      rcases two (decide (A < C)) with hv | hv
      · have HV := Lib.hid hv
        clear hv
        go_enter Try.func11, Try.ntmps11
        go_wp2_with fail
        refine (rwrap_as _ A _ h00 h01 HA.out).mono ?_
        rintro e w' ⟨rfl, rfl⟩
        go_wp2_with fail
        refine (rwrap_as _ B _ h10 h11 HB.out).mono ?_
        rintro e w' ⟨rfl, rfl⟩
        go_wp2_with fail
        refine (rwrap_as _ C _ h20 h21 HC.out).mono ?_
        rintro e w' ⟨rfl, rfl⟩
        go_wp2_with fail
        refine (do_lt_as A B 1 _ iA iB HX.out).mono ?_
        rintro e w' ⟨rfl, rfl⟩
        go_wp2_with fail
        refine (do_lt_as B A 0 _ iB iA HY.out).mono ?_
        rintro e w' ⟨rfl, rfl⟩
        go_wp2_with fail
        refine (do_eq_as A B 0 _ iA iB HZ.out).mono ?_
        rintro e w' ⟨rfl, rfl⟩
        go_wp2_with fail
        refine (do_lt_as B C 0 _ iB iC HU.out).mono ?_
        rintro e w' ⟨rfl, rfl⟩
        go_wp2_with fail
        refine (do_lt_as A C 0 _ iA iC HV.out).mono ?_
        rintro e w' ⟨rfl, rfl⟩
        go_wp2_with (go_at_call 15; refine (lives _).mono ?_; rintro e w' ⟨rfl, hbel⟩)
        go_ret
        exact ⟨rfl, hbel⟩
      · have HV := Lib.hid hv
        clear hv
        go_enter Try.func11, Try.ntmps11
        go_wp2_with fail
        refine (rwrap_as _ A _ h00 h01 HA.out).mono ?_
        rintro e w' ⟨rfl, rfl⟩
        go_wp2_with fail
        refine (rwrap_as _ B _ h10 h11 HB.out).mono ?_
        rintro e w' ⟨rfl, rfl⟩
        go_wp2_with fail
        refine (rwrap_as _ C _ h20 h21 HC.out).mono ?_
        rintro e w' ⟨rfl, rfl⟩
        go_wp2_with fail
        refine (do_lt_as A B 1 _ iA iB HX.out).mono ?_
        rintro e w' ⟨rfl, rfl⟩
        go_wp2_with fail
        refine (do_lt_as B A 0 _ iB iA HY.out).mono ?_
        rintro e w' ⟨rfl, rfl⟩
        go_wp2_with fail
        refine (do_eq_as A B 0 _ iA iB HZ.out).mono ?_
        rintro e w' ⟨rfl, rfl⟩
        go_wp2_with fail
        refine (do_lt_as B C 0 _ iB iC HU.out).mono ?_
        rintro e w' ⟨rfl, rfl⟩
        go_wp2_with fail
        refine (do_lt_as A C 1 _ iA iC HV.out).mono ?_
        rintro e w' ⟨rfl, rfl⟩
        go_wp2_with (go_at_call 15; refine (lives _).mono ?_; rintro e w' ⟨rfl, hbel⟩)
        go_ret
        exact ⟨rfl, hbel⟩
    · have HU := Lib.hid hu
      clear hu
      rcases two (decide (A < C)) with hv | hv
      · exact absurd (chain A B C HX.out HU.out) (by rw [hv]; decide)
      · have HV := Lib.hid hv
        clear hv
        go_enter Try.func11, Try.ntmps11
        go_wp2_with fail
        refine (rwrap_as _ A _ h00 h01 HA.out).mono ?_
        rintro e w' ⟨rfl, rfl⟩
        go_wp2_with fail
        refine (rwrap_as _ B _ h10 h11 HB.out).mono ?_
        rintro e w' ⟨rfl, rfl⟩
        go_wp2_with fail
        refine (rwrap_as _ C _ h20 h21 HC.out).mono ?_
        rintro e w' ⟨rfl, rfl⟩
        go_wp2_with fail
        refine (do_lt_as A B 1 _ iA iB HX.out).mono ?_
        rintro e w' ⟨rfl, rfl⟩
        go_wp2_with fail
        refine (do_lt_as B A 0 _ iB iA HY.out).mono ?_
        rintro e w' ⟨rfl, rfl⟩
        go_wp2_with fail
        refine (do_eq_as A B 0 _ iA iB HZ.out).mono ?_
        rintro e w' ⟨rfl, rfl⟩
        go_wp2_with fail
        refine (do_lt_as B C 1 _ iB iC HU.out).mono ?_
        rintro e w' ⟨rfl, rfl⟩
        go_wp2_with fail
        refine (do_lt_as A C 1 _ iA iC HV.out).mono ?_
        rintro e w' ⟨rfl, rfl⟩
        go_wp2_with (go_at_call 15; refine (lives _).mono ?_; rintro e w' ⟨rfl, hbel⟩)
        go_ret
        exact ⟨rfl, hbel⟩
  · have HX := Lib.hid hx
    have HY := Lib.hid hy
    have HZ := Lib.hid hz
    clear hx hy hz
    rcases two (decide (B < C)) with hu | hu
    · have HU := Lib.hid hu
      clear hu
      rcases two (decide (A < C)) with hv | hv
      · have HV := Lib.hid hv
        clear hv
        go_enter Try.func11, Try.ntmps11
        go_wp2_with fail
        refine (rwrap_as _ A _ h00 h01 HA.out).mono ?_
        rintro e w' ⟨rfl, rfl⟩
        go_wp2_with fail
        refine (rwrap_as _ B _ h10 h11 HB.out).mono ?_
        rintro e w' ⟨rfl, rfl⟩
        go_wp2_with fail
        refine (rwrap_as _ C _ h20 h21 HC.out).mono ?_
        rintro e w' ⟨rfl, rfl⟩
        go_wp2_with fail
        refine (do_lt_as A B 0 _ iA iB HX.out).mono ?_
        rintro e w' ⟨rfl, rfl⟩
        go_wp2_with fail
        refine (do_lt_as B A 1 _ iB iA HY.out).mono ?_
        rintro e w' ⟨rfl, rfl⟩
        go_wp2_with fail
        refine (do_eq_as A B 0 _ iA iB HZ.out).mono ?_
        rintro e w' ⟨rfl, rfl⟩
        go_wp2_with fail
        refine (do_lt_as B C 0 _ iB iC HU.out).mono ?_
        rintro e w' ⟨rfl, rfl⟩
        go_wp2_with fail
        refine (do_lt_as A C 0 _ iA iC HV.out).mono ?_
        rintro e w' ⟨rfl, rfl⟩
        go_wp2_with (go_at_call 15; refine (lives _).mono ?_; rintro e w' ⟨rfl, hbel⟩)
        go_ret
        exact ⟨rfl, hbel⟩
      · have HV := Lib.hid hv
        clear hv
        go_enter Try.func11, Try.ntmps11
        go_wp2_with fail
        refine (rwrap_as _ A _ h00 h01 HA.out).mono ?_
        rintro e w' ⟨rfl, rfl⟩
        go_wp2_with fail
        refine (rwrap_as _ B _ h10 h11 HB.out).mono ?_
        rintro e w' ⟨rfl, rfl⟩
        go_wp2_with fail
        refine (rwrap_as _ C _ h20 h21 HC.out).mono ?_
        rintro e w' ⟨rfl, rfl⟩
        go_wp2_with fail
        refine (do_lt_as A B 0 _ iA iB HX.out).mono ?_
        rintro e w' ⟨rfl, rfl⟩
        go_wp2_with fail
        refine (do_lt_as B A 1 _ iB iA HY.out).mono ?_
        rintro e w' ⟨rfl, rfl⟩
        go_wp2_with fail
        refine (do_eq_as A B 0 _ iA iB HZ.out).mono ?_
        rintro e w' ⟨rfl, rfl⟩
        go_wp2_with fail
        refine (do_lt_as B C 0 _ iB iC HU.out).mono ?_
        rintro e w' ⟨rfl, rfl⟩
        go_wp2_with fail
        refine (do_lt_as A C 1 _ iA iC HV.out).mono ?_
        rintro e w' ⟨rfl, rfl⟩
        go_wp2_with (go_at_call 15; refine (lives _).mono ?_; rintro e w' ⟨rfl, hbel⟩)
        go_ret
        exact ⟨rfl, hbel⟩
    · have HU := Lib.hid hu
      clear hu
      rcases two (decide (A < C)) with hv | hv
      · have HV := Lib.hid hv
        clear hv
        go_enter Try.func11, Try.ntmps11
        go_wp2_with fail
        refine (rwrap_as _ A _ h00 h01 HA.out).mono ?_
        rintro e w' ⟨rfl, rfl⟩
        go_wp2_with fail
        refine (rwrap_as _ B _ h10 h11 HB.out).mono ?_
        rintro e w' ⟨rfl, rfl⟩
        go_wp2_with fail
        refine (rwrap_as _ C _ h20 h21 HC.out).mono ?_
        rintro e w' ⟨rfl, rfl⟩
        go_wp2_with fail
        refine (do_lt_as A B 0 _ iA iB HX.out).mono ?_
        rintro e w' ⟨rfl, rfl⟩
        go_wp2_with fail
        refine (do_lt_as B A 1 _ iB iA HY.out).mono ?_
        rintro e w' ⟨rfl, rfl⟩
        go_wp2_with fail
        refine (do_eq_as A B 0 _ iA iB HZ.out).mono ?_
        rintro e w' ⟨rfl, rfl⟩
        go_wp2_with fail
        refine (do_lt_as B C 1 _ iB iC HU.out).mono ?_
        rintro e w' ⟨rfl, rfl⟩
        go_wp2_with fail
        refine (do_lt_as A C 0 _ iA iC HV.out).mono ?_
        rintro e w' ⟨rfl, rfl⟩
        go_wp2_with (go_at_call 15; refine (lives _).mono ?_; rintro e w' ⟨rfl, hbel⟩)
        go_ret
        exact ⟨rfl, hbel⟩
      · have HV := Lib.hid hv
        clear hv
        go_enter Try.func11, Try.ntmps11
        go_wp2_with fail
        refine (rwrap_as _ A _ h00 h01 HA.out).mono ?_
        rintro e w' ⟨rfl, rfl⟩
        go_wp2_with fail
        refine (rwrap_as _ B _ h10 h11 HB.out).mono ?_
        rintro e w' ⟨rfl, rfl⟩
        go_wp2_with fail
        refine (rwrap_as _ C _ h20 h21 HC.out).mono ?_
        rintro e w' ⟨rfl, rfl⟩
        go_wp2_with fail
        refine (do_lt_as A B 0 _ iA iB HX.out).mono ?_
        rintro e w' ⟨rfl, rfl⟩
        go_wp2_with fail
        refine (do_lt_as B A 1 _ iB iA HY.out).mono ?_
        rintro e w' ⟨rfl, rfl⟩
        go_wp2_with fail
        refine (do_eq_as A B 0 _ iA iB HZ.out).mono ?_
        rintro e w' ⟨rfl, rfl⟩
        go_wp2_with fail
        refine (do_lt_as B C 1 _ iB iC HU.out).mono ?_
        rintro e w' ⟨rfl, rfl⟩
        go_wp2_with fail
        refine (do_lt_as A C 1 _ iA iC HV.out).mono ?_
        rintro e w' ⟨rfl, rfl⟩
        go_wp2_with (go_at_call 15; refine (lives _).mono ?_; rintro e w' ⟨rfl, hbel⟩)
        go_ret
        exact ⟨rfl, hbel⟩
  · have HX := Lib.hid hx
    have HY := Lib.hid hy
    have HZ := Lib.hid hz
    clear hx hy hz
    rcases two (decide (B < C)) with hu | hu
    · have HU := Lib.hid hu
      clear hu
      rcases two (decide (A < C)) with hv | hv
      · have HV := Lib.hid hv
        clear hv
        go_enter Try.func11, Try.ntmps11
        go_wp2_with fail
        refine (rwrap_as _ A _ h00 h01 HA.out).mono ?_
        rintro e w' ⟨rfl, rfl⟩
        go_wp2_with fail
        refine (rwrap_as _ B _ h10 h11 HB.out).mono ?_
        rintro e w' ⟨rfl, rfl⟩
        go_wp2_with fail
        refine (rwrap_as _ C _ h20 h21 HC.out).mono ?_
        rintro e w' ⟨rfl, rfl⟩
        go_wp2_with fail
        refine (do_lt_as A B 0 _ iA iB HX.out).mono ?_
        rintro e w' ⟨rfl, rfl⟩
        go_wp2_with fail
        refine (do_lt_as B A 0 _ iB iA HY.out).mono ?_
        rintro e w' ⟨rfl, rfl⟩
        go_wp2_with fail
        refine (do_eq_as A B 1 _ iA iB HZ.out).mono ?_
        rintro e w' ⟨rfl, rfl⟩
        go_wp2_with fail
        refine (do_lt_as B C 0 _ iB iC HU.out).mono ?_
        rintro e w' ⟨rfl, rfl⟩
        go_wp2_with fail
        refine (do_lt_as A C 0 _ iA iC HV.out).mono ?_
        rintro e w' ⟨rfl, rfl⟩
        go_wp2_with (go_at_call 15; refine (lives _).mono ?_; rintro e w' ⟨rfl, hbel⟩)
        go_ret
        exact ⟨rfl, hbel⟩
      · have HV := Lib.hid hv
        clear hv
        go_enter Try.func11, Try.ntmps11
        go_wp2_with fail
        refine (rwrap_as _ A _ h00 h01 HA.out).mono ?_
        rintro e w' ⟨rfl, rfl⟩
        go_wp2_with fail
        refine (rwrap_as _ B _ h10 h11 HB.out).mono ?_
        rintro e w' ⟨rfl, rfl⟩
        go_wp2_with fail
        refine (rwrap_as _ C _ h20 h21 HC.out).mono ?_
        rintro e w' ⟨rfl, rfl⟩
        go_wp2_with fail
        refine (do_lt_as A B 0 _ iA iB HX.out).mono ?_
        rintro e w' ⟨rfl, rfl⟩
        go_wp2_with fail
        refine (do_lt_as B A 0 _ iB iA HY.out).mono ?_
        rintro e w' ⟨rfl, rfl⟩
        go_wp2_with fail
        refine (do_eq_as A B 1 _ iA iB HZ.out).mono ?_
        rintro e w' ⟨rfl, rfl⟩
        go_wp2_with fail
        refine (do_lt_as B C 0 _ iB iC HU.out).mono ?_
        rintro e w' ⟨rfl, rfl⟩
        go_wp2_with fail
        refine (do_lt_as A C 1 _ iA iC HV.out).mono ?_
        rintro e w' ⟨rfl, rfl⟩
        go_wp2_with (go_at_call 15; refine (lives _).mono ?_; rintro e w' ⟨rfl, hbel⟩)
        go_ret
        exact ⟨rfl, hbel⟩
    · have HU := Lib.hid hu
      clear hu
      rcases two (decide (A < C)) with hv | hv
      · have HV := Lib.hid hv
        clear hv
        go_enter Try.func11, Try.ntmps11
        go_wp2_with fail
        refine (rwrap_as _ A _ h00 h01 HA.out).mono ?_
        rintro e w' ⟨rfl, rfl⟩
        go_wp2_with fail
        refine (rwrap_as _ B _ h10 h11 HB.out).mono ?_
        rintro e w' ⟨rfl, rfl⟩
        go_wp2_with fail
        refine (rwrap_as _ C _ h20 h21 HC.out).mono ?_
        rintro e w' ⟨rfl, rfl⟩
        go_wp2_with fail
        refine (do_lt_as A B 0 _ iA iB HX.out).mono ?_
        rintro e w' ⟨rfl, rfl⟩
        go_wp2_with fail
        refine (do_lt_as B A 0 _ iB iA HY.out).mono ?_
        rintro e w' ⟨rfl, rfl⟩
        go_wp2_with fail
        refine (do_eq_as A B 1 _ iA iB HZ.out).mono ?_
        rintro e w' ⟨rfl, rfl⟩
        go_wp2_with fail
        refine (do_lt_as B C 1 _ iB iC HU.out).mono ?_
        rintro e w' ⟨rfl, rfl⟩
        go_wp2_with fail
        refine (do_lt_as A C 0 _ iA iC HV.out).mono ?_
        rintro e w' ⟨rfl, rfl⟩
        go_wp2_with (go_at_call 15; refine (lives _).mono ?_; rintro e w' ⟨rfl, hbel⟩)
        go_ret
        exact ⟨rfl, hbel⟩
      · have HV := Lib.hid hv
        clear hv
        go_enter Try.func11, Try.ntmps11
        go_wp2_with fail
        refine (rwrap_as _ A _ h00 h01 HA.out).mono ?_
        rintro e w' ⟨rfl, rfl⟩
        go_wp2_with fail
        refine (rwrap_as _ B _ h10 h11 HB.out).mono ?_
        rintro e w' ⟨rfl, rfl⟩
        go_wp2_with fail
        refine (rwrap_as _ C _ h20 h21 HC.out).mono ?_
        rintro e w' ⟨rfl, rfl⟩
        go_wp2_with fail
        refine (do_lt_as A B 0 _ iA iB HX.out).mono ?_
        rintro e w' ⟨rfl, rfl⟩
        go_wp2_with fail
        refine (do_lt_as B A 0 _ iB iA HY.out).mono ?_
        rintro e w' ⟨rfl, rfl⟩
        go_wp2_with fail
        refine (do_eq_as A B 1 _ iA iB HZ.out).mono ?_
        rintro e w' ⟨rfl, rfl⟩
        go_wp2_with fail
        refine (do_lt_as B C 1 _ iB iC HU.out).mono ?_
        rintro e w' ⟨rfl, rfl⟩
        go_wp2_with fail
        refine (do_lt_as A C 1 _ iA iC HV.out).mono ?_
        rintro e w' ⟨rfl, rfl⟩
        go_wp2_with (go_at_call 15; refine (lives _).mono ?_; rintro e w' ⟨rfl, hbel⟩)
        go_ret
        exact ⟨rfl, hbel⟩

set_option maxRecDepth 100000 in
theorem lifted (os : Os) (started : os.Started) (H : Type) (enc : TypeId × Value → H) :
    ReturnsInHanded {} Try.checked os 11 .any (Rows.intsOrderSpec.pre6 enc Try.prog Try.f11 Rows.intsOrderRow.domain false) (Rows.intsOrderSpec.post enc Try.prog Try.f11 false true false false) := by
  refine returnsInHanded_of_change (C := Try.checked) own started (by kernel_rfl) Try.func11
    (ChangeSpec.witness6 (enc := enc) (C := Try.checked) false ⟨#[], #[.int .i64 0, .int .i64 0, .int .i64 0], []⟩ 8 (by kernel_rfl) (by kernel_rfl) (by kernel_rfl) (by kernel_rfl)) ?_
  intro W base args ds gs before hval0 hW hcnd _
  have hval : ∀ (j : Nat) t v, Try.f11.params[j]? = some t → args[j]? = some v → Value.okWide Try.prog W .any base t v := hval0
  have hW' := hW
  obtain ⟨p, q, hA0, hV, rfl, hfz, hnd⟩ := hW
  have hA : DataW.TrodAll enc Try.prog W 0 (fun _ => true) true Try.f11.params.toList args.toList ds p := hA0
  rw [Try.params11] at hA hval
  obtain ⟨v0, vs0, d0, ds0, p0, q0, hargs, rfl, rfl, h0, r0⟩ := trodAll_cons hA
  obtain ⟨v1, vs1, d1, ds1, p1, q1, rfl, rfl, rfl, h1, r1⟩ := trodAll_cons r0
  obtain ⟨v2, vs2, d2, ds2, p2, q2, rfl, rfl, rfl, h2, r2⟩ := trodAll_cons r1
  obtain ⟨rfl, rfl, rfl⟩ := trodAll_nil r2
  obtain rfl : args = #[v0, v1, v2] := by cases args; simp_all
  obtain ⟨rfl, rfl⟩ := trodVars_none hV
  obtain ⟨a0, rfl, rfl, rfl, w0⟩ := open_int Try.underlying3 (hval 0 3 v0 rfl rfl) h0
  obtain ⟨a1, rfl, rfl, rfl, w1⟩ := open_int Try.underlying3 (hval 1 3 v1 rfl rfl) h1
  obtain ⟨a2, rfl, rfl, rfl, w2⟩ := open_int Try.underlying3 (hval 2 3 v2 rfl rfl) h2
  clear hA0 hval0
  refine (walk a0 a1 a2 w0 w1 w2 W).mono fun e W' ⟨he, bel⟩ => ?_
  subst he
  exact ⟨_, rfl, _, _, _, [], _, [], hW', trodAll_mk1 (shut_bool Try.underlying4 _), (trodAll_cons_mk (shut_int Try.underlying3 w0) (trodAll_cons_mk (shut_int Try.underlying3 w1) (trodAll_cons_mk (shut_int Try.underlying3 w2) trodAll_mk0))), rfl, bel.frame _, fun h => by cases h⟩

theorem over : Rows.intsOrderRow.holds Try.pinned (OpenSpec.ofChange Rows.intsOrderSpec) :=
  OpenClaim.holds_of_wide 11 Try.f11 rfl rfl rfl rfl rfl rfl rfl ⟨rfl, rfl, rfl, rfl, rfl⟩ rfl rfl rfl rfl rfl (by kernel_rfl) Try.func11 (by kernel_rfl)
    (of_decide_eq_true (by kernel_rfl)) (by unfold Func.isWrapper; first | (rw [if_pos (by decide +kernel)]; kernel_rfl) | (rw [if_neg (by decide +kernel)]; exact ⟨rfl, rfl⟩))
    (fun os started H enc _ => lifted os started H enc)

theorem proved : Rows.IntsOrderSaid := over
end Go.Proofs.Ytjnfjceopddhgaa.intsOrder
