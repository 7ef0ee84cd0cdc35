/- The program's texts: Str. -/
import Derived.Test.YtphebogjmbaboaaDoorHV
import Derived.Test.YtphebogjmbaboaaDoorZB
namespace Go.Proofs.YtphebogjmbaboaaDoor.HW
open Go.RowKit Go.Proofs.YtphebogjmbaboaaDoor.RG Go.Proofs.YtphebogjmbaboaaDoor.RB Go.Proofs.YtphebogjmbaboaaDoor.HA Go.Proofs.YtphebogjmbaboaaDoor.HB Go.Proofs.YtphebogjmbaboaaDoor.HD Go.Proofs.YtphebogjmbaboaaDoor.HE Go.Proofs.YtphebogjmbaboaaDoor.HF Go.Proofs.YtphebogjmbaboaaDoor.HN Go.Proofs.YtphebogjmbaboaaDoor.HO Go.Proofs.YtphebogjmbaboaaDoor.O Go.Proofs.YtphebogjmbaboaaDoor.N Go.Proofs.YtphebogjmbaboaaDoor.UN
set_option linter.unusedVariables false
set_option maxRecDepth 100000
set_option maxRecDepth 100000

theorem pstr_c (w : World) (p x m o N : Nat) (h : Hp) (H : HP w p x m o N h) (z : Int) :
    Calls Tryd.prog 20 #[.pointer (some ⟨p, 0, none⟩), .int .i64 z] w fun e w' => e = .returned (.tuple #[.string ⟨(strR h z).1.toArray⟩, .int .i64 (strR h z).2]) ∧ Below w.heap.size w w' := by
  have HTG := Lib.hid (tag_c w p x m o N h H z)
  have HFL := Lib.hid (fun w1 (hb : Below w.heap.size w w1) => fields_c w1 p x m o N h (H.keep hb) z)
  obtain ⟨F, hF⟩ : ∃ F, Hid (fieldsOf h z = F) := ⟨_, Lib.hid rfl⟩
  obtain ⟨T, hT⟩ : ∃ T, Hid (tagOf h z = T) := ⟨_, Lib.hid rfl⟩
  rw [hT.out] at HTG
  rw [hF.out] at HFL
  obtain ⟨⟨U, E⟩, hU⟩ : ∃ x, Hid (up F = x) := ⟨_, Lib.hid rfl⟩
  have hst : strR h z = if T = 201 ∧ E = 0 then (U, 0) else ([], 4) := by unfold strR; rw [hF.out, hT.out, hU.out]
  rw [hst]
  have HUN := Lib.hid (fun (w1 : World) v (hr : RowI w1 v F) => Go.Proofs.YtphebogjmbaboaaDoor.UA.unpack_any v F w1 (row_has hr))
  rw [hU.out] at HUN
  unfold nv at HUN
  clear H hst hF hT hU
  by_cases ht : T = 201
  · subst ht
    by_cases he : E = 0
    · subst he
      rw [if_pos ⟨rfl, rfl⟩]
      go_enter Tryd.func20, Tryd.ntmps20
      go_wp2_with fail
      refine HTG.out.mono ?_
      rintro e w1 ⟨rfl, hb⟩
      have HB1 := Lib.hid hb
      clear hb
      go_wp2_with fail
      refine (HFL.out _ HB1.out).mono ?_
      rintro e w2 ⟨v, rfl, hv, _, hb⟩
      have HB2 := Lib.hid (Go.Proofs.YtphebogjmbaboaaDoor.RG.bnext HB1.out hb)
      have HV2 := Lib.hid hv
      clear hb hv
      go_wp2_with fail
      refine (HUN.out _ _ HV2.out).mono ?_
      rintro e w3 ⟨rfl, hb3⟩
      have HB3 := Lib.hid (Go.Proofs.YtphebogjmbaboaaDoor.RG.bnext HB2.out hb3)
      clear hb3
      go_wp2_with fail
      go_ret2
      exact ⟨rfl, HB3.out⟩
    · have h0 : ((E : Int) == 0) = false := by rw [beq_eq_false_iff_ne]; omega
      rw [if_neg (fun h => he h.2)]
      go_enter Tryd.func20, Tryd.ntmps20
      go_wp2_with fail
      refine HTG.out.mono ?_
      rintro e w1 ⟨rfl, hb⟩
      have HB1 := Lib.hid hb
      clear hb
      go_wp2_with fail
      refine (HFL.out _ HB1.out).mono ?_
      rintro e w2 ⟨v, rfl, hv, _, hb⟩
      have HB2 := Lib.hid (Go.Proofs.YtphebogjmbaboaaDoor.RG.bnext HB1.out hb)
      have HV2 := Lib.hid hv
      clear hb hv
      go_wp2_with fail
      refine (HUN.out _ _ HV2.out).mono ?_
      rintro e w3 ⟨rfl, hb3⟩
      have HB3 := Lib.hid (Go.Proofs.YtphebogjmbaboaaDoor.RG.bnext HB2.out hb3)
      clear hb3
      go_wp2_with fail
      go_ret2
      exact ⟨rfl, HB3.out⟩
  · rw [if_neg (fun h => ht h.1)]
    have e1 : (T != 201) = true := by rw [bne_iff_ne]; exact ht
    go_enter Tryd.func20, Tryd.ntmps20
    go_wp2_with fail
    refine HTG.out.mono ?_
    rintro e w1 ⟨rfl, hb⟩
    have HB1 := Lib.hid hb
    clear hb
    go_wp2_with fail
    go_ret2
    exact ⟨rfl, HB1.out⟩
end Go.Proofs.YtphebogjmbaboaaDoor.HW
