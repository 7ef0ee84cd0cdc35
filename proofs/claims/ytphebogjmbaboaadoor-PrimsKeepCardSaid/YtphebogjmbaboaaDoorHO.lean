/- The document's texts: Text, Join. -/
import Derived.Test.YtphebogjmbaboaaDoorHN
namespace Go.Proofs.YtphebogjmbaboaaDoor.HO
open Go.RowKit Go.Proofs.YtphebogjmbaboaaDoor.RG Go.Proofs.YtphebogjmbaboaaDoor.RB Go.Proofs.YtphebogjmbaboaaDoor.HA Go.Proofs.YtphebogjmbaboaaDoor.HB Go.Proofs.YtphebogjmbaboaaDoor.HG Go.Proofs.YtphebogjmbaboaaDoor.HH Go.Proofs.YtphebogjmbaboaaDoor.HK Go.Proofs.YtphebogjmbaboaaDoor.HM Go.Proofs.YtphebogjmbaboaaDoor.HN Go.Proofs.YtphebogjmbaboaaDoor.O Go.Proofs.YtphebogjmbaboaaDoor.N
set_option linter.unusedVariables false
set_option maxRecDepth 100000
set_option maxRecDepth 100000

/-- What a text makes. -/
def textR (N : Nat) (h : Hp) (l : List UInt8) : Hp × Int × Int := if l.length ≤ 60 then make 2 N h 201 (packL l) else (h, 0, 12)
theorem packL_bd (l : List UInt8) (hl : l.length ≤ 60) : ∀ z, z ∈ packL l → z ≤ 9223372036854775807 := by
  intro z hz
  unfold packL pk at hz
  rcases List.mem_cons.1 hz with rfl | hz
  · omega
  · obtain ⟨j, hj, rfl⟩ := List.mem_map.1 hz
    have h1 := le_lt (grp l j)
    have h2 : (grp l j).length ≤ 7 := by unfold grp; rw [List.length_take]; omega
    have h3 : 256 ^ (grp l j).length ≤ 256 ^ 7 := Nat.pow_le_pow_right (by decide) h2
    have h4 : (256 : Nat) ^ 7 = 72057594037927936 := by decide
    omega
theorem OnD.trans {r B : Nat} {a b c : World} (h : OnD r B a b) (k : OnD r B b c) : OnD r B a c := ⟨k.os.trans h.os, k.tape.trans h.tape, k.output.trans h.output, Nat.le_trans h.size k.size, fun i hi hr => (k.block i hi hr).trans (h.block i hi hr)⟩
theorem rtext_c (w : World) (r B N : Nat) (h : Hp) (H : HDoc w r B N h) (s : ByteArray) :
    Calls Tryd.prog 36 #[.pointer (some ⟨r, 0, none⟩), .string s] w fun e w' => e = .returned (.tuple #[.int .i64 (textR N h s.data.toList).2.1, .int .i64 (textR N h s.data.toList).2.2]) ∧ HDoc w' r B N (textR N h s.data.toList).1 ∧ OnD r B w w' := by
  have hls : s.data.toList.length = s.size := by rw [Array.length_toList]; rfl
  by_cases hs : s.size ≤ 60
  · have HPK := Lib.hid (Go.Proofs.YtphebogjmbaboaaDoor.RP.rpack_any s w hs)
    have hx : textR N h s.data.toList = make 2 N h 201 (packL s.data.toList) := by unfold textR; rw [if_pos (by omega)]
    rw [hx]
    have HMK := Lib.hid (fun (w1 : World) v (hb : Below w.heap.size w w1) (hv : Go.Proofs.YtphebogjmbaboaaDoor.A.HasI w1 v (packL s.data.toList)) => rmake_c w1 r B N h (H.keep hb) 201 v _ (has_row hv) (packL_bd _ (by omega)))
    obtain ⟨⟨M1, M2, M3⟩, hM⟩ : ∃ x, make 2 N h 201 (packL s.data.toList) = x := ⟨_, rfl⟩
    obtain ⟨L, hL⟩ : ∃ x, packL s.data.toList = x := ⟨_, rfl⟩
    rw [hL] at HPK
    rw [hM, hL] at HMK
    rw [hM]
    have HGE := Lib.hid H.ge
    clear hx H hM hL hls
    go_enter Tryd.func36, Tryd.ntmps36
    go_wp2_with fail
    refine HPK.out.mono ?_
    rintro e w1 ⟨⟨v, rfl, hv⟩, hb⟩
    have HB1 := Lib.hid hb
    have HV1 := Lib.hid hv
    clear hb hv
    go_wp2_with fail
    refine (HMK.out _ _ HB1.out HV1.out).mono ?_
    rintro e w2 ⟨rfl, hd, ho⟩
    have HD2 := Lib.hid hd
    have HO2 := Lib.hid (OnD.trans (OnD.of HB1.out HGE.out) ho)
    clear hd ho
    go_wp2_with fail
    go_ret2
    exact ⟨rfl, HD2.out, HO2.out⟩
  · have HPK := Lib.hid (Go.Proofs.YtphebogjmbaboaaDoor.RP.rpack_long s w (by omega))
    have hx : textR N h s.data.toList = (h, 0, 12) := by unfold textR; rw [if_neg (by omega)]
    rw [hx]
    have HH := Lib.hid H
    clear hx H hls
    go_enter Tryd.func36, Tryd.ntmps36
    go_wp2_with fail
    refine HPK.out.mono ?_
    rintro e w1 ⟨rfl, rfl⟩
    go_wp2_with fail
    go_ret2
    exact ⟨rfl, HH.out, OnD.refl _ _ _⟩
theorem ul_max : ∀ (r : List Int) (n : Nat) (acc : List UInt8), acc.length ≤ n → (ul n r acc).1.length ≤ n
  | [], n, acc, h => h
  | z :: r, n, acc, h => by
    unfold ul
    split
    · exact ul_max r n _ (by rw [List.length_append, byts_len]; omega)
    · simp
theorem up_max (l : List Int) : (up l).1.length ≤ 60 := by
  unfold up
  split
  · simp
  · split
    · rename_i z r hc
      exact Nat.le_trans (ul_max r _ [] (by simp)) (by omega)
    · simp
theorem strR_max (h : Hp) (z : Int) : (strR h z).1.length ≤ 60 := by
  unfold strR
  split
  · exact up_max _
  · simp
/-- What Join makes. -/
def joinR (N : Nat) (h : Hp) (a b : Int) : Hp × Int × Int := if (strR h a).2 = 0 ∧ (strR h b).2 = 0 then textR N h ((strR h a).1 ++ (strR h b).1) else (h, 0, 4)
theorem strR_err (h : Hp) (a : Int) : (strR h a).2 = 0 ∨ (strR h a).2 = 4 := by unfold strR; split <;> simp
theorem rjoin_c (w : World) (r B N : Nat) (h : Hp) (H : HDoc w r B N h) (a b : Int) :
    Calls Tryd.prog 37 #[.pointer (some ⟨r, 0, none⟩), .int .i64 a, .int .i64 b] w fun e w' => e = .returned (.tuple #[.int .i64 (joinR N h a b).2.1, .int .i64 (joinR N h a b).2.2]) ∧ HDoc w' r B N (joinR N h a b).1 ∧ OnD r B w w' := by
  have HGE := Lib.hid H.ge
  have HSA := Lib.hid (rstr_c w r B N h H a)
  have HSB := Lib.hid (fun (w1 : World) (hb : Below w.heap.size w w1) => rstr_c w1 r B N h (H.keep hb) b)
  have HKP := Lib.hid (fun (w1 : World) (hb : Below w.heap.size w w1) => H.keep hb)
  have hj : joinR N h a b = if (strR h a).2 = 0 ∧ (strR h b).2 = 0 then textR N h ((strR h a).1 ++ (strR h b).1) else (h, 0, 4) := rfl
  have ea := strR_err h a
  have eb := strR_err h b
  have la := strR_max h a
  have lb := strR_max h b
  obtain ⟨⟨A, E⟩, hA⟩ : ∃ x, strR h a = x := ⟨_, rfl⟩
  obtain ⟨⟨A', E'⟩, hA'⟩ : ∃ x, strR h b = x := ⟨_, rfl⟩
  rw [hA] at hj HSA ea la
  rw [hA'] at hj HSB eb lb
  rw [hj]
  simp only at hj ea eb la lb HSA HSB ⊢
  have hlen : ¬ A.length + A'.length > 9223372036854775807 := by omega
  by_cases h0 : E = 0 ∧ E' = 0
  · obtain ⟨rfl, rfl⟩ := h0
    rw [if_pos ⟨rfl, rfl⟩]
    have HTX := Lib.hid (fun (w1 : World) (hb : Below w.heap.size w w1) (s : ByteArray) (hs : s.data.toList = A ++ A') => hs ▸ rtext_c w1 r B N h (H.keep hb) s)
    obtain ⟨⟨M1, M2, M3⟩, hM⟩ : ∃ x, textR N h (A ++ A') = x := ⟨_, rfl⟩
    rw [hM]
    simp only [hM] at HTX
    clear hj ea eb la lb hA hA' H hM
    go_enter Tryd.func37, Tryd.ntmps37
    go_wp2_with fail
    refine HSA.out.mono ?_
    rintro e w1 ⟨rfl, hb⟩
    have HB1 := Lib.hid hb
    clear hb
    go_wp2_with fail
    refine (HSB.out _ HB1.out).mono ?_
    rintro e w2 ⟨rfl, hb⟩
    have HB2 := Lib.hid (bnext HB1.out hb)
    clear hb
    go_wp2_with fail
    refine (HTX.out _ HB2.out ((⟨A.toArray⟩ : ByteArray) ++ (⟨A'.toArray⟩ : ByteArray)) (by rw [ByteArray.data_append]; simp only [List.append_toArray])).mono ?_
    rintro e w3 ⟨rfl, hd, ho⟩
    have HD3 := Lib.hid hd
    have HO3 := Lib.hid (OnD.trans (OnD.of HB2.out HGE.out) ho)
    clear hd ho
    go_wp2_with fail
    go_ret2
    exact ⟨rfl, HD3.out, HO3.out⟩
  · rw [if_neg h0]
    have hc : E = 4 ∨ (E = 0 ∧ E' = 4) := by omega
    clear h0 hj ea eb la lb hlen hA hA' H
    rcases hc with rfl | ⟨rfl, rfl⟩
    all_goals
      go_enter Tryd.func37, Tryd.ntmps37
      go_wp2_with fail
      refine HSA.out.mono ?_
      rintro e w1 ⟨rfl, hb⟩
      have HB1 := Lib.hid hb
      clear hb
      go_wp2_with fail
      refine (HSB.out _ HB1.out).mono ?_
      rintro e w2 ⟨rfl, hb⟩
      have HB2 := Lib.hid (bnext HB1.out hb)
      clear hb
      go_wp2_with fail
      go_ret2
      exact ⟨rfl, HKP.out _ HB2.out, OnD.of HB2.out HGE.out⟩
end Go.Proofs.YtphebogjmbaboaaDoor.HO
