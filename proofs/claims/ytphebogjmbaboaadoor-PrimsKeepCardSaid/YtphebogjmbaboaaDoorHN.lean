/- The document's words and blocks: texts. -/
import Derived.Test.YtphebogjmbaboaaDoorHM
import Derived.Test.YtphebogjmbaboaaDoorZB
namespace Go.Proofs.YtphebogjmbaboaaDoor.HN
open Go.RowKit Go.Proofs.YtphebogjmbaboaaDoor.RG Go.Proofs.YtphebogjmbaboaaDoor.RB Go.Proofs.YtphebogjmbaboaaDoor.HA Go.Proofs.YtphebogjmbaboaaDoor.HB Go.Proofs.YtphebogjmbaboaaDoor.HG Go.Proofs.YtphebogjmbaboaaDoor.HH Go.Proofs.YtphebogjmbaboaaDoor.HK Go.Proofs.YtphebogjmbaboaaDoor.HM Go.Proofs.YtphebogjmbaboaaDoor.A Go.Proofs.YtphebogjmbaboaaDoor.O Go.Proofs.YtphebogjmbaboaaDoor.N Go.Proofs.YtphebogjmbaboaaDoor.UN Go.Proofs.YtphebogjmbaboaaDoor.RN Go.Proofs.YtphebogjmbaboaaDoor.RP
set_option linter.unusedVariables false
set_option maxRecDepth 100000
set_option maxRecDepth 100000

theorem row_has {w : World} {S : Nat → Prop} {v : Value} {l : List Int} (h : RowR TI w S v l) : HasI w v l := by
  by_cases h0 : l = []
  · subst h0
    obtain ⟨ao, cap, rfl, hc⟩ := h.val
    exact ⟨ao, cap, rfl, hc, .inl rfl⟩
  · obtain ⟨b, off, cap, rfl, hc, hlt, hcells⟩ := h.open_ h0
    refine ⟨_, cap, rfl, hc, .inr ⟨b, off, rfl, hlt, fun j hj => ?_⟩⟩
    obtain ⟨q, hL, _⟩ := hcells j l[j] (List.getElem?_eq_getElem hj)
    have := hL 0 _ rfl
    simpa [TI, Ty.flat] using this
theorem rowOf_ints : ∀ l : List Int, rowOf TI l (l.map fun _ => []) = l.map (Value.int .i64)
  | [] => rfl
  | x :: l => by show [Value.int .i64 x] ++ rowOf TI l (l.map fun _ => []) = _; rw [rowOf_ints l]; rfl
theorem hs_ints (w : World) : ∀ l : List Int, Hs TI w (fun _ => False) l (l.map fun _ => [])
  | [] => trivial
  | _ :: l => ⟨rfl, hs_ints w l⟩
theorem has_row {w : World} {v : Value} {l : List Int} (h : HasI w v l) : RowI w v l := by
  obtain ⟨ao, cap, rfl, hc, h⟩ := h
  refine ⟨l.map fun _ => [], ⟨ao, cap, rfl, hc, ?_⟩, hs_ints w l⟩
  rcases h with rfl | ⟨b, off, rfl, hlt, hcells⟩
  · exact .inl rfl
  · refine .inr ⟨b, off, rfl, ⟨trivial, hlt⟩, fun j u hj => ?_⟩
    rw [rowOf_ints, List.getElem?_map, Option.map_eq_some_iff] at hj
    obtain ⟨z, hz, rfl⟩ := hj
    have hj := (List.getElem?_eq_some_iff.1 hz)
    rw [hcells j hj.1, hj.2]
/-- What a word says as a text. -/
def strR (h : Hp) (z : Int) : List UInt8 × Int := if tagOf h z = 201 ∧ (up (fieldsOf h z)).2 = 0 then ((up (fieldsOf h z)).1, 0) else ([], 4)
theorem fields_bd {w : World} {r B N : Nat} {h : Hp} (H : HDoc w r B N h) (n : Int) : ∀ z, z ∈ fieldsOf h n → z ≤ 9223372036854775807 := by
  intro z hz
  unfold fieldsOf at hz
  cases hb : blk h n with
  | none => rw [hb] at hz; cases hz
  | some k =>
    rw [hb] at hz
    cases hk : h[k]? with
    | none => simp [hk] at hz
    | some b =>
      simp [hk] at hz
      exact H.bd b (List.mem_of_getElem? hk) z hz
theorem rstr_c (w : World) (r B N : Nat) (h : Hp) (H : HDoc w r B N h) (z : Int) :
    Calls Tryd.prog 21 #[.pointer (some ⟨r, 0, none⟩), .int .i64 z] w fun e w' => e = .returned (.tuple #[.string ⟨(strR h z).1.toArray⟩, .int .i64 (strR h z).2]) ∧ Below w.heap.size w w' := by
  have HTG := Lib.hid (rtag_c w r B N h H z)
  have HBD := Lib.hid (fields_bd H z)
  obtain ⟨F, hF⟩ : ∃ F, Hid (fieldsOf h z = F) := ⟨_, Lib.hid rfl⟩
  obtain ⟨T, hT⟩ : ∃ T, Hid (tagOf h z = T) := ⟨_, Lib.hid rfl⟩
  rw [hF.out, hT.out] at HTG
  rw [hF.out] at HBD
  obtain ⟨⟨U, E⟩, hU⟩ : ∃ x, Hid (up F = x) := ⟨_, Lib.hid rfl⟩
  have hst : strR h z = if T = 201 ∧ E = 0 then (U, 0) else ([], 4) := by unfold strR; rw [hF.out, hT.out, hU.out]
  rw [hst]
  have HUN := Lib.hid (fun (w1 : World) v (hr : RowR TI w1 (fun _ => True) v F) => rn_any v F w1 (row_has hr) HBD.out)
  rw [hU.out] at HUN
  unfold nv at HUN
  clear H hst hF hT hU HBD
  by_cases ht : T = 201
  · subst ht
    by_cases he : E = 0
    · subst he
      rw [if_pos ⟨rfl, rfl⟩]
      go_enter Tryd.func21, Tryd.ntmps21
      go_wp2_with fail
      refine HTG.out.mono ?_
      rintro e w1 ⟨v, rfl, hr, hb⟩
      have HB1 := Lib.hid hb
      have HR1 := Lib.hid hr
      clear hr hb
      go_wp2_with fail
      refine (HUN.out _ _ HR1.out).mono ?_
      rintro e w2 ⟨rfl, hb2⟩
      have HB2 := Lib.hid (Go.Proofs.YtphebogjmbaboaaDoor.RG.bnext HB1.out hb2)
      clear hb2
      go_wp2_with fail
      go_ret2
      exact ⟨rfl, HB2.out⟩
    · have h0 : ((E : Int) == 0) = false := by rw [beq_eq_false_iff_ne]; omega
      rw [if_neg (fun h => he h.2)]
      go_enter Tryd.func21, Tryd.ntmps21
      go_wp2_with fail
      refine HTG.out.mono ?_
      rintro e w1 ⟨v, rfl, hr, hb⟩
      have HB1 := Lib.hid hb
      have HR1 := Lib.hid hr
      clear hr hb
      go_wp2_with fail
      refine (HUN.out _ _ HR1.out).mono ?_
      rintro e w2 ⟨rfl, hb2⟩
      have HB2 := Lib.hid (Go.Proofs.YtphebogjmbaboaaDoor.RG.bnext HB1.out hb2)
      clear hb2
      go_wp2_with fail
      go_ret2
      exact ⟨rfl, HB2.out⟩
  · rw [if_neg (fun h => ht h.1)]
    go_enter Tryd.func21, Tryd.ntmps21
    go_wp2_with fail
    refine HTG.out.mono ?_
    rintro e w1 ⟨v, rfl, hr, hb⟩
    have HB1 := Lib.hid hb
    have HR1 := Lib.hid hr
    clear hr hb
    go_wp2_with fail
    refine (HUN.out _ _ HR1.out).mono ?_
    rintro e w2 ⟨rfl, hb2⟩
    have HB2 := Lib.hid (Go.Proofs.YtphebogjmbaboaaDoor.RG.bnext HB1.out hb2)
    clear hb2
    go_wp2_with fail
    go_ret2
    exact ⟨rfl, HB2.out⟩
end Go.Proofs.YtphebogjmbaboaaDoor.HN
