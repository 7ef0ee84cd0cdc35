/- The program's Join. -/
import Derived.Test.YtphebogjmbaboaaDoorHW
import Derived.Test.YtphebogjmbaboaaDoorZB
namespace Go.Proofs.YtphebogjmbaboaaDoor.HX
open Go.RowKit Go.Proofs.YtphebogjmbaboaaDoor.RG Go.Proofs.YtphebogjmbaboaaDoor.RB Go.Proofs.YtphebogjmbaboaaDoor.HA Go.Proofs.YtphebogjmbaboaaDoor.HB Go.Proofs.YtphebogjmbaboaaDoor.HD Go.Proofs.YtphebogjmbaboaaDoor.HE Go.Proofs.YtphebogjmbaboaaDoor.HF Go.Proofs.YtphebogjmbaboaaDoor.HN Go.Proofs.YtphebogjmbaboaaDoor.HO Go.Proofs.YtphebogjmbaboaaDoor.HV Go.Proofs.YtphebogjmbaboaaDoor.HW Go.Proofs.YtphebogjmbaboaaDoor.O
set_option linter.unusedVariables false
set_option maxRecDepth 100000
set_option maxRecDepth 100000

theorem cat_data (A A' : List UInt8) : ((⟨A.toArray⟩ : ByteArray) ++ (⟨A'.toArray⟩ : ByteArray)).data.toList = A ++ A' := by rw [ByteArray.data_append]; simp only [List.append_toArray]
theorem pjoin_c (w : World) (p x m o N : Nat) (h : Hp) (H : HP w p x m o N h) (a b : Int) :
    Calls Tryd.prog 31 #[.pointer (some ⟨p, 0, none⟩), .int .i64 a, .int .i64 b] w fun e w' => e = .returned (.tuple #[.int .i64 (joinR N h a b).2.1, .int .i64 (joinR N h a b).2.2]) ∧ HP w' p x m o N (joinR N h a b).1 ∧ On3 p x m w w' := by
  have HSA := Lib.hid (pstr_c w p x m o N h H a)
  have HSB := Lib.hid (fun (w1 : World) (hb : Below w.heap.size w w1) => pstr_c w1 p x m o N h (H.keep hb) b)
  have HKP := Lib.hid (fun (w1 : World) (hb : Below w.heap.size w w1) => H.keep hb)
  have hj : joinR N h a b = if (strR h a).2 = 0 ∧ (strR h b).2 = 0 then textR N h ((strR h a).1 ++ (strR h b).1) else (h, 0, 4) := rfl
  have ea := strR_err h a
  have eb := strR_err h b
  obtain ⟨⟨A, E⟩, hA⟩ : ∃ x, strR h a = x := ⟨_, rfl⟩
  obtain ⟨⟨A', E'⟩, hA'⟩ : ∃ x, strR h b = x := ⟨_, rfl⟩
  rw [hA] at hj HSA ea
  rw [hA'] at hj HSB eb
  rw [hj]
  simp only at hj ea eb HSA HSB ⊢
  by_cases h0 : E = 0 ∧ E' = 0
  · obtain ⟨rfl, rfl⟩ := h0
    rw [if_pos ⟨rfl, rfl⟩]
    have hsz : ((⟨A.toArray⟩ : ByteArray) ++ (⟨A'.toArray⟩ : ByteArray)).size = (A ++ A').length := by rw [← cat_data, Array.length_toList]; rfl
    have HTX := Lib.hid (fun (w1 : World) (hb : Below w.heap.size w w1) => ptext_c w1 p x m o N h (H.keep hb) ((⟨A.toArray⟩ : ByteArray) ++ (⟨A'.toArray⟩ : ByteArray)))
    rw [cat_data] at HTX
    have la := strR_max h a
    have lb := strR_max h b
    rw [hA] at la
    rw [hA'] at lb
    simp only at la lb
    have s1 : (⟨A.toArray⟩ : ByteArray).size = A.length := by show A.toArray.size = _; simp
    have s2 : (⟨A'.toArray⟩ : ByteArray).size = A'.length := by show A'.toArray.size = _; simp
    by_cases h6 : A.length + A'.length ≤ 60
    · have HJ := Lib.hid (fun w1 => Go.Proofs.YtphebogjmbaboaaDoor.C.join_short ⟨A.toArray⟩ ⟨A'.toArray⟩ w1 (by rw [s1, s2]; exact h6))
      obtain ⟨⟨M1, M2, M3⟩, hM⟩ : ∃ x, textR N h (A ++ A') = x := ⟨_, rfl⟩
      rw [hM] at HTX ⊢
      clear hj ea eb la lb hA hA' H hM hsz s1 s2 h6
      go_enter Tryd.func31, Tryd.ntmps31
      go_wp2_with fail
      refine HSA.out.mono ?_
      rintro e w1 ⟨rfl, hb⟩
      have HB1 := Lib.hid hb
      clear hb
      go_wp2_with fail
      refine (HSB.out _ HB1.out).mono ?_
      rintro e w2 ⟨rfl, hb⟩
      have HB2 := Lib.hid (bnext HB1.out hb)
      clear hb
      go_wp2_with fail
      refine (HJ.out _).mono ?_
      rintro e w3 ⟨rfl, hb⟩
      have HB3 := Lib.hid (bnext HB2.out hb)
      clear hb
      go_wp2_with fail
      refine (HTX.out _ HB3.out).mono ?_
      rintro e w4 ⟨rfl, hd, ho⟩
      have HD4 := Lib.hid hd
      have HO4 := Lib.hid (On3.trans (On3.of HB3.out) ho)
      clear hd ho
      go_wp2_with fail
      go_ret2
      exact ⟨rfl, HD4.out, HO4.out⟩
    · have hx : textR N h (A ++ A') = (h, 0, 12) := by unfold textR; rw [if_neg (by rw [List.length_append]; exact h6)]
      rw [hx]
      have HJ := Lib.hid (fun w1 => Go.Proofs.YtphebogjmbaboaaDoor.C.join_long ⟨A.toArray⟩ ⟨A'.toArray⟩ w1 (by rw [s1, s2]; omega) (by rw [s1]; omega) (by rw [s2]; omega))
      clear hj ea eb la lb hA hA' H hsz s1 s2 h6 hx HTX
      go_enter Tryd.func31, Tryd.ntmps31
      go_wp2_with fail
      refine HSA.out.mono ?_
      rintro e w1 ⟨rfl, hb⟩
      have HB1 := Lib.hid hb
      clear hb
      go_wp2_with fail
      refine (HSB.out _ HB1.out).mono ?_
      rintro e w2 ⟨rfl, hb⟩
      have HB2 := Lib.hid (bnext HB1.out hb)
      clear hb
      go_wp2_with fail
      refine (HJ.out _).mono ?_
      rintro e w3 ⟨rfl, rfl⟩
      go_wp2_with fail
      go_ret2
      exact ⟨rfl, HKP.out _ HB2.out, On3.of HB2.out⟩
  · rw [if_neg h0]
    have hc : E = 4 ∨ (E = 0 ∧ E' = 4) := by omega
    clear h0 hj ea eb hA hA' H
    rcases hc with rfl | ⟨rfl, rfl⟩
    · go_enter Tryd.func31, Tryd.ntmps31
      go_wp2_with fail
      refine HSA.out.mono ?_
      rintro e w1 ⟨rfl, hb⟩
      have HB1 := Lib.hid hb
      clear hb
      go_wp2_with fail
      go_ret2
      exact ⟨rfl, HKP.out _ HB1.out, On3.of HB1.out⟩
    · go_enter Tryd.func31, Tryd.ntmps31
      go_wp2_with fail
      refine HSA.out.mono ?_
      rintro e w1 ⟨rfl, hb⟩
      have HB1 := Lib.hid hb
      clear hb
      go_wp2_with fail
      refine (HSB.out _ HB1.out).mono ?_
      rintro e w2 ⟨rfl, hb⟩
      have HB2 := Lib.hid (bnext HB1.out hb)
      clear hb
      go_wp2_with fail
      go_ret2
      exact ⟨rfl, HKP.out _ HB2.out, On3.of HB2.out⟩
end Go.Proofs.YtphebogjmbaboaaDoor.HX
