/- The program's Case, Sum. -/
import Derived.Test.YtphebogjmbaboaaDoorHX
import Derived.Test.YtphebogjmbaboaaDoorZA
namespace Go.Proofs.YtphebogjmbaboaaDoor.HY
open Go.RowKit Go.Proofs.YtphebogjmbaboaaDoor.RG Go.Proofs.YtphebogjmbaboaaDoor.RB Go.Proofs.YtphebogjmbaboaaDoor.HA Go.Proofs.YtphebogjmbaboaaDoor.HB Go.Proofs.YtphebogjmbaboaaDoor.HD Go.Proofs.YtphebogjmbaboaaDoor.HE Go.Proofs.YtphebogjmbaboaaDoor.HF Go.Proofs.YtphebogjmbaboaaDoor.HP Go.Proofs.YtphebogjmbaboaaDoor.HR Go.Proofs.YtphebogjmbaboaaDoor.M Go.Proofs.YtphebogjmbaboaaDoor.K1 Go.Proofs.YtphebogjmbaboaaDoor.K2
set_option linter.unusedVariables false
set_option maxRecDepth 100000
set_option maxRecDepth 100000

theorem do_k (k : Nat) (hk : k ≤ 6) (a b : Int) (w : World) (ia : In a) (ib : In b) :
    Calls Tryd.prog 51 #[.string ⟨#[opOf k]⟩, .int .i64 a, .int .i64 b] w fun e w' => e = .returned (.tuple #[.int .i64 (doOp k a b).1, .int .i64 (doOp k a b).2]) ∧ w = w' := by
  rcases (show k = 0 ∨ k = 1 ∨ k = 2 ∨ k = 3 ∨ k = 4 ∨ k = 5 ∨ k = 6 by omega) with rfl | rfl | rfl | rfl | rfl | rfl | rfl
  · exact do_add a b w ia ib
  · exact do_sub a b w ia ib
  · exact do_mul a b w ia ib
  · by_cases hb : b = 0
    · subst hb
      exact do_quo0 a w ia
    · have e : doOp 3 a b = (w63 (a.tdiv b), 0) := if_neg hb
      rw [e]
      exact do_quo a b w ia ib hb
  · by_cases hb : b = 0
    · subst hb
      exact do_rem0 a w ia
    · have e : doOp 4 a b = (a.tmod b, 0) := if_neg hb
      rw [e]
      exact do_rem a b w ia ib hb
  · exact do_eq a b w ia ib
  · exact do_lt a b w ia ib
theorem pcase_c (w : World) (p x m o N : Nat) (h : Hp) (H : HP w p x m o N h) (z : Int) :
    Calls Tryd.prog 24 #[.pointer (some ⟨p, 0, none⟩), .int .i64 z] w fun e w' => e = .returned (.tuple #[.int .i64 (caseR h z).1, .int .i64 (caseR h z).2]) ∧ Below w.heap.size w w' := by
  have HTG := Lib.hid (tag_c w p x m o N h H z)
  have hc : caseR h z = if z % 2 ≠ 0 then (z / 2, 0) else if tagOf h z < 0 ∨ tagOf h z > 199 then (0, 4) else (tagOf h z, 0) := rfl
  obtain ⟨T, hT⟩ : ∃ T, tagOf h z = T := ⟨_, rfl⟩
  rw [hT] at HTG hc
  rw [hc]
  clear hc hT H
  by_cases hz : z % 2 ≠ 0
  · rw [if_pos hz]
    have HU := Lib.hid (untag_odd z w (by omega))
    clear HTG
    go_enter Tryd.func24, Tryd.ntmps24
    go_wp2_with fail
    refine HU.out.mono ?_
    rintro e w1 ⟨rfl, rfl⟩
    go_wp2_with fail
    go_ret2
    exact ⟨rfl, Below.refl _ _⟩
  · rw [if_neg hz]
    have HU := Lib.hid (untag_even z w (by omega))
    by_cases ht : T < 0 ∨ T > 199
    · rw [if_pos ht]
      rcases (show T < 0 ∨ (0 ≤ T ∧ T > 199) by omega) with h2 | ⟨h2, h3⟩
      all_goals
        clear ht
        go_enter Tryd.func24, Tryd.ntmps24
        go_wp2_with fail
        refine HU.out.mono ?_
        rintro e w1 ⟨rfl, rfl⟩
        go_wp2_with fail
        refine HTG.out.mono ?_
        rintro e w2 ⟨rfl, hb⟩
        have HB2 := Lib.hid hb
        clear hb
        go_wp2_with fail
        go_ret2
        exact ⟨rfl, HB2.out⟩
    · rw [if_neg ht]
      have h2 : T ≥ 0 := by omega
      have h3 : T ≤ 199 := by omega
      clear ht
      go_enter Tryd.func24, Tryd.ntmps24
      go_wp2_with fail
      refine HU.out.mono ?_
      rintro e w1 ⟨rfl, rfl⟩
      go_wp2_with fail
      refine HTG.out.mono ?_
      rintro e w2 ⟨rfl, hb⟩
      have HB2 := Lib.hid hb
      clear hb
      go_wp2_with fail
      go_ret2
      exact ⟨rfl, HB2.out⟩
end Go.Proofs.YtphebogjmbaboaaDoor.HY
