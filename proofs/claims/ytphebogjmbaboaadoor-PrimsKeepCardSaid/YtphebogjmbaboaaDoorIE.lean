/- The law of joined texts, but for 'lives'. -/
import Derived.Test.YtphebogjmbaboaaDoorID
namespace Go.Proofs.YtphebogjmbaboaaDoor.IE
open Go.RowKit Go.Proofs.YtphebogjmbaboaaDoor.RG Go.Proofs.YtphebogjmbaboaaDoor.RB Go.Proofs.YtphebogjmbaboaaDoor.HA Go.Proofs.YtphebogjmbaboaaDoor.HB Go.Proofs.YtphebogjmbaboaaDoor.HE Go.Proofs.YtphebogjmbaboaaDoor.HN Go.Proofs.YtphebogjmbaboaaDoor.HO Go.Proofs.YtphebogjmbaboaaDoor.HV Go.Proofs.YtphebogjmbaboaaDoor.HW Go.Proofs.YtphebogjmbaboaaDoor.HX Go.Proofs.YtphebogjmbaboaaDoor.HZ Go.Proofs.YtphebogjmbaboaaDoor.IB Go.Proofs.YtphebogjmbaboaaDoor.ID Go.Proofs.YtphebogjmbaboaaDoor.O
set_option linter.unusedVariables false
set_option maxRecDepth 100000
set_option maxRecDepth 100000

theorem bytes_of (s : ByteArray) : ∃ S : List UInt8, s = ⟨S.toArray⟩ ∧ S.length = s.size := ⟨s.data.toList, by simp, by rw [Array.length_toList]; rfl⟩
set_option maxHeartbeats 3200000 in
theorem ljoin_c (HL : Lives) (s t : ByteArray) (w : World) (hsg : Sig w) :
    Calls Tryd.prog 7 #[.string s, .string t] w fun e w' => e = .returned (.bool true) ∧ Below w.heap.size w w' := by
  have HSG := Lib.hid hsg
  clear hsg
  have HNW := Lib.hid (new_c 400 w (by decide) (by decide))
  have HL := Lib.hid HL
  unfold Lives at HL
  obtain ⟨S, hS⟩ : ∃ S : List UInt8, (if s.size > 70 then s.extract 0 70 else s) = ⟨S.toArray⟩ ∧ S.length = min s.size 70 := by
    obtain ⟨S, h1, h2⟩ := bytes_of (if s.size > 70 then s.extract 0 70 else s)
    refine ⟨S, h1, ?_⟩
    rw [h2]
    split
    · rw [ByteArray.size_extract]; omega
    · omega
  obtain ⟨T, hT⟩ : ∃ S : List UInt8, (if t.size > 70 then t.extract 0 70 else t) = ⟨S.toArray⟩ ∧ S.length = min t.size 70 := by
    obtain ⟨S, h1, h2⟩ := bytes_of (if t.size > 70 then t.extract 0 70 else t)
    refine ⟨S, h1, ?_⟩
    rw [h2]
    split
    · rw [ByteArray.size_extract]; omega
    · omega
  obtain ⟨hs, ls⟩ := hS
  obtain ⟨ht, lt⟩ := hT
  have HTS := Lib.hid (fun w1 p x m o (H : HP w1 p x m o 400 []) => ptext_c w1 p x m o 400 [] H ⟨S.toArray⟩)
  have HTT := Lib.hid (fun H1 w1 p x m o (H : HP w1 p x m o 400 H1) => ptext_c w1 p x m o 400 H1 H ⟨T.toArray⟩)
  obtain ⟨⟨H1, a, e⟩, h1⟩ : ∃ x, textR 400 [] S = x := ⟨_, rfl⟩
  rw [h1] at HTS
  have HTT := Lib.hid (HTT.out H1)
  obtain ⟨⟨H2, b, f⟩, h2⟩ : ∃ x, textR 400 H1 T = x := ⟨_, rfl⟩
  rw [h2] at HTT
  have HJN := Lib.hid (fun w1 p x m o (H : HP w1 p x m o 400 H2) => pjoin_c w1 p x m o 400 H2 H a b)
  obtain ⟨⟨H3, c, g⟩, h3⟩ : ∃ x, joinR 400 H2 a b = x := ⟨_, rfl⟩
  rw [h3] at HJN
  simp only at HTS HTT HJN
  by_cases q : S.length ≤ 60 ∧ T.length ≤ 60
  · obtain ⟨q1, q2⟩ := q
    have hst : strR H3 a = (S, 0) ∧ strR H3 b = (T, 0) ∧ e = 0 ∧ f = 0 ∧ ((60 < S.length + T.length ∧ c = 0 ∧ g = 12) ∨ (S.length + T.length ≤ 60 ∧ g = 0 ∧ strR H3 c = (S ++ T, 0))) := by
      rw [textR_ok 400 [] S q1 (by decide)] at h1
      cases h1
      rw [textR_ok 400 _ T q2 (by have := packL_len S q1; simp [used, size]; omega)] at h2
      cases h2
      have ka : strR ([(201, packL S)] ++ [(201, packL T)]) (ptr [] 0) = (S, 0) := (two_a S T q1).2
      have kb : strR ([(201, packL S)] ++ [(201, packL T)]) (ptr [(201, packL S)] 1) = (T, 0) := (two_b S T q2).2
      have hj : joinR 400 ([(201, packL S)] ++ [(201, packL T)]) (ptr [] 0) (ptr [(201, packL S)] 1) = textR 400 ([(201, packL S)] ++ [(201, packL T)]) (S ++ T) := by
        unfold joinR
        rw [ka, kb, if_pos ⟨rfl, rfl⟩]
      have h3 := hj.symm.trans h3
      by_cases q3 : S.length + T.length ≤ 60
      · rw [textR_ok 400 _ (S ++ T) (by rw [List.length_append]; exact q3) (by have := used_two S T q1 q2; show used (two S T) + 12 ≤ 400; omega)] at h3
        cases h3
        exact ⟨strR_at _ 0 S q1 rfl, strR_at _ 1 T q2 rfl, rfl, rfl, .inr ⟨q3, rfl, strR_at _ 2 (S ++ T) (by rw [List.length_append]; exact q3) rfl⟩⟩
      · rw [textR_no 400 _ (S ++ T) (by rw [List.length_append]; omega)] at h3
        cases h3
        exact ⟨ka, kb, rfl, rfl, .inl ⟨by omega, rfl, rfl⟩⟩
    obtain ⟨ka, kb, rfl, rfl, hc⟩ := hst
    have HSA := Lib.hid (fun w1 p x m o (H : HP w1 p x m o 400 H3) => pstr_c w1 p x m o 400 H3 H a)
    have HSB := Lib.hid (fun w1 p x m o (H : HP w1 p x m o 400 H3) => pstr_c w1 p x m o 400 H3 H b)
    have HSC := Lib.hid (fun w1 p x m o (H : HP w1 p x m o 400 H3) => pstr_c w1 p x m o 400 H3 H c)
    rw [ka] at HSA
    rw [kb] at HSB
    have hs7 : ¬ s.size > 70 := by intro h; rw [ls] at q1; omega
    have ht7 : ¬ t.size > 70 := by intro h; rw [lt] at q2; omega
    rw [if_neg hs7] at hs
    rw [if_neg ht7] at ht
    clear h1 h2 h3 ka kb hs7 ht7 ls lt
    subst hs
    subst ht
    have z1 : ¬ (S.length : Int) > 70 := by omega
    have z2 : ¬ (T.length : Int) > 70 := by omega
    rcases hc with ⟨hc, rfl, rfl⟩ | ⟨hc, rfl, kc⟩
    · have z3 : (S.length : Int) + (T.length : Int) > 60 := by omega
      clear HSC
      go_enter Tryd.func7, Tryd.ntmps7
      go_wp2_with fail
      refine HNW.out.mono ?_
      rintro e w1 ⟨p, x, m, o, rfl, hp, ⟨g1, g2, g3, g4⟩, hb⟩
      have HP1 := Lib.hid hp
      have HB1 := Lib.hid hb
      have HG := Lib.hid (And.intro g1 (And.intro g2 (And.intro g3 g4)))
      clear hp hb g1 g2 g3 g4
      go_wp2_with fail
      refine (HTS.out _ _ _ _ _ HP1.out).mono ?_
      rintro e w2 ⟨rfl, hp, ho⟩
      have HP2 := Lib.hid hp
      have HB2 := Lib.hid (HB1.out.trans (ho.below HB1.out.size HG.out.1 HG.out.2.1 HG.out.2.2.1))
      clear hp ho
      go_wp2_with fail
      refine (HTT.out _ _ _ _ _ HP2.out).mono ?_
      rintro e w3 ⟨rfl, hp, ho⟩
      have HP3 := Lib.hid hp
      have HB3 := Lib.hid (HB2.out.trans (ho.below HB2.out.size HG.out.1 HG.out.2.1 HG.out.2.2.1))
      clear hp ho
      go_wp2_with fail
      refine (HJN.out _ _ _ _ _ HP3.out).mono ?_
      rintro e w4 ⟨rfl, hp, ho⟩
      have HP4 := Lib.hid hp
      have HB4 := Lib.hid (HB3.out.trans (ho.below HB3.out.size HG.out.1 HG.out.2.1 HG.out.2.2.1))
      clear hp ho
      go_wp2_with fail
      refine (HSA.out _ _ _ _ _ HP4.out).mono ?_
      rintro e w5 ⟨rfl, hb⟩
      have HB5 := Lib.hid (bnext HB4.out hb)
      have HP5 := Lib.hid (HP4.out.keep hb)
      clear hb
      go_wp2_with fail
      refine (HSB.out _ _ _ _ _ HP5.out).mono ?_
      rintro e w6 ⟨rfl, hb⟩
      have HB6 := Lib.hid (bnext HB5.out hb)
      have HP6 := Lib.hid (HP5.out.keep hb)
      clear hb
      go_wp2_with fail
      refine (HL.out _ (HSG.out.below HB6.out)).mono ?_
      rintro e w7 ⟨rfl, hb⟩
      have HB7 := Lib.hid (bnext HB6.out hb)
      clear hb
      go_wp2_with fail
      go_ret
      first | exact ⟨rfl, HB7.out⟩ | (refine ⟨?_, HB7.out⟩; simp; omega)
    · have z3 : ¬ (S.length : Int) + (T.length : Int) > 60 := by omega
      have z4 : ¬ S.length + T.length > 9223372036854775807 := by omega
      have z5 : (⟨S.toArray⟩ : ByteArray) ++ (⟨T.toArray⟩ : ByteArray) = ⟨(S ++ T).toArray⟩ := by apply ByteArray.ext; rw [ByteArray.data_append]; simp
      rw [kc] at HSC
      clear kc
      go_enter Tryd.func7, Tryd.ntmps7
      go_wp2_with fail
      refine HNW.out.mono ?_
      rintro e w1 ⟨p, x, m, o, rfl, hp, ⟨g1, g2, g3, g4⟩, hb⟩
      have HP1 := Lib.hid hp
      have HB1 := Lib.hid hb
      have HG := Lib.hid (And.intro g1 (And.intro g2 (And.intro g3 g4)))
      clear hp hb g1 g2 g3 g4
      go_wp2_with fail
      refine (HTS.out _ _ _ _ _ HP1.out).mono ?_
      rintro e w2 ⟨rfl, hp, ho⟩
      have HP2 := Lib.hid hp
      have HB2 := Lib.hid (HB1.out.trans (ho.below HB1.out.size HG.out.1 HG.out.2.1 HG.out.2.2.1))
      clear hp ho
      go_wp2_with fail
      refine (HTT.out _ _ _ _ _ HP2.out).mono ?_
      rintro e w3 ⟨rfl, hp, ho⟩
      have HP3 := Lib.hid hp
      have HB3 := Lib.hid (HB2.out.trans (ho.below HB2.out.size HG.out.1 HG.out.2.1 HG.out.2.2.1))
      clear hp ho
      go_wp2_with fail
      refine (HJN.out _ _ _ _ _ HP3.out).mono ?_
      rintro e w4 ⟨rfl, hp, ho⟩
      have HP4 := Lib.hid hp
      have HB4 := Lib.hid (HB3.out.trans (ho.below HB3.out.size HG.out.1 HG.out.2.1 HG.out.2.2.1))
      clear hp ho
      go_wp2_with fail
      refine (HSA.out _ _ _ _ _ HP4.out).mono ?_
      rintro e w5 ⟨rfl, hb⟩
      have HB5 := Lib.hid (bnext HB4.out hb)
      have HP5 := Lib.hid (HP4.out.keep hb)
      clear hb
      go_wp2_with fail
      refine (HSB.out _ _ _ _ _ HP5.out).mono ?_
      rintro e w6 ⟨rfl, hb⟩
      have HB6 := Lib.hid (bnext HB5.out hb)
      have HP6 := Lib.hid (HP5.out.keep hb)
      clear hb
      go_wp2_with fail
      refine (HSC.out _ _ _ _ _ HP6.out).mono ?_
      rintro e w7 ⟨rfl, hb⟩
      have HB7 := Lib.hid (bnext HB6.out hb)
      clear hb
      go_wp2_with fail
      refine (HL.out _ (HSG.out.below HB7.out)).mono ?_
      rintro e w8 ⟨rfl, hb⟩
      have HB8 := Lib.hid (bnext HB7.out hb)
      clear hb
      go_wp2_with fail
      go_ret
      first | exact ⟨rfl, HB8.out⟩ | (refine ⟨?_, HB8.out⟩; simp; omega)
  · have hres : (e = 0 ∧ f = 12 ∧ S.length ≤ 60 ∧ 60 < T.length ∨ e = 12 ∧ f = 0 ∧ 60 < S.length ∧ T.length ≤ 60 ∨ e = 12 ∧ f = 12 ∧ 60 < S.length ∧ 60 < T.length) ∧ c = 0 ∧ g = 4 := by
      by_cases q1 : S.length ≤ 60
      · have q2 : 60 < T.length := by omega
        rw [textR_ok 400 [] S q1 (by decide)] at h1
        cases h1
        rw [textR_no 400 _ T q2] at h2
        cases h2
        rw [joinR_no _ _ _ _ (.inr rfl)] at h3
        cases h3
        exact ⟨.inl ⟨rfl, rfl, q1, q2⟩, rfl, rfl⟩
      · have q1 : 60 < S.length := by omega
        rw [textR_no 400 [] S q1] at h1
        cases h1
        by_cases q2 : T.length ≤ 60
        · rw [textR_ok 400 [] T q2 (by decide)] at h2
          cases h2
          rw [joinR_no _ _ _ _ (.inl rfl)] at h3
          cases h3
          exact ⟨.inr (.inl ⟨rfl, rfl, q1, q2⟩), rfl, rfl⟩
        · rw [textR_no 400 [] T (by omega)] at h2
          cases h2
          rw [joinR_no _ _ _ _ (.inl rfl)] at h3
          cases h3
          exact ⟨.inr (.inr ⟨rfl, rfl, q1, by omega⟩), rfl, rfl⟩
    clear h1 h2 h3 q
    obtain ⟨hef, rfl, rfl⟩ := hres
    by_cases hs7 : s.size > 70
    · rw [if_pos hs7] at hs
      have ls2 : S.length = 70 := by omega
      clear ls
      by_cases ht7 : t.size > 70
      · rw [if_pos ht7] at ht
        have lt2 : T.length = 70 := by omega
        clear lt
        rcases hef with ⟨rfl, rfl, q1, q2⟩ | ⟨rfl, rfl, q1, q2⟩ | ⟨rfl, rfl, q1, q2⟩
        all_goals (try (exfalso; omega))
        all_goals
          go_enter Tryd.func7, Tryd.ntmps7
          go_wp2_with fail
          refine HNW.out.mono ?_
          rintro e w1 ⟨p, x, m, o, rfl, hp, ⟨g1, g2, g3, g4⟩, hb⟩
          have HP1 := Lib.hid hp
          have HB1 := Lib.hid hb
          have HG := Lib.hid (And.intro g1 (And.intro g2 (And.intro g3 g4)))
          clear hp hb g1 g2 g3 g4
          go_wp2_with fail
          refine (HTS.out _ _ _ _ _ HP1.out).mono ?_
          rintro e w2 ⟨rfl, hp, ho⟩
          have HP2 := Lib.hid hp
          have HB2 := Lib.hid (HB1.out.trans (ho.below HB1.out.size HG.out.1 HG.out.2.1 HG.out.2.2.1))
          clear hp ho
          go_wp2_with fail
          refine (HTT.out _ _ _ _ _ HP2.out).mono ?_
          rintro e w3 ⟨rfl, hp, ho⟩
          have HP3 := Lib.hid hp
          have HB3 := Lib.hid (HB2.out.trans (ho.below HB2.out.size HG.out.1 HG.out.2.1 HG.out.2.2.1))
          clear hp ho
          go_wp2_with fail
          refine (HJN.out _ _ _ _ _ HP3.out).mono ?_
          rintro e w4 ⟨rfl, hp, ho⟩
          have HB4 := Lib.hid (HB3.out.trans (ho.below HB3.out.size HG.out.1 HG.out.2.1 HG.out.2.2.1))
          clear hp ho
          go_wp2_with fail
          refine (HL.out _ (HSG.out.below HB4.out)).mono ?_
          rintro e w5 ⟨rfl, hb⟩
          have HB5 := Lib.hid (bnext HB4.out hb)
          clear hb
          go_wp2_with fail
          go_ret
          first | exact ⟨rfl, HB5.out⟩ | (refine ⟨?_, HB5.out⟩; simp; omega)
      · rw [if_neg ht7] at ht
        have lt2 : T.length ≤ 70 := by omega
        clear lt ht7
        subst ht
        rcases hef with ⟨rfl, rfl, q1, q2⟩ | ⟨rfl, rfl, q1, q2⟩ | ⟨rfl, rfl, q1, q2⟩
        all_goals (try (exfalso; omega))
        all_goals
          go_enter Tryd.func7, Tryd.ntmps7
          go_wp2_with fail
          refine HNW.out.mono ?_
          rintro e w1 ⟨p, x, m, o, rfl, hp, ⟨g1, g2, g3, g4⟩, hb⟩
          have HP1 := Lib.hid hp
          have HB1 := Lib.hid hb
          have HG := Lib.hid (And.intro g1 (And.intro g2 (And.intro g3 g4)))
          clear hp hb g1 g2 g3 g4
          go_wp2_with fail
          refine (HTS.out _ _ _ _ _ HP1.out).mono ?_
          rintro e w2 ⟨rfl, hp, ho⟩
          have HP2 := Lib.hid hp
          have HB2 := Lib.hid (HB1.out.trans (ho.below HB1.out.size HG.out.1 HG.out.2.1 HG.out.2.2.1))
          clear hp ho
          go_wp2_with fail
          refine (HTT.out _ _ _ _ _ HP2.out).mono ?_
          rintro e w3 ⟨rfl, hp, ho⟩
          have HP3 := Lib.hid hp
          have HB3 := Lib.hid (HB2.out.trans (ho.below HB2.out.size HG.out.1 HG.out.2.1 HG.out.2.2.1))
          clear hp ho
          go_wp2_with fail
          refine (HJN.out _ _ _ _ _ HP3.out).mono ?_
          rintro e w4 ⟨rfl, hp, ho⟩
          have HB4 := Lib.hid (HB3.out.trans (ho.below HB3.out.size HG.out.1 HG.out.2.1 HG.out.2.2.1))
          clear hp ho
          go_wp2_with fail
          refine (HL.out _ (HSG.out.below HB4.out)).mono ?_
          rintro e w5 ⟨rfl, hb⟩
          have HB5 := Lib.hid (bnext HB4.out hb)
          clear hb
          go_wp2_with fail
          go_ret
          first | exact ⟨rfl, HB5.out⟩ | (refine ⟨?_, HB5.out⟩; simp; omega)
    · rw [if_neg hs7] at hs
      have ls2 : S.length ≤ 70 := by omega
      clear ls hs7
      subst hs
      by_cases ht7 : t.size > 70
      · rw [if_pos ht7] at ht
        have lt2 : T.length = 70 := by omega
        clear lt
        rcases hef with ⟨rfl, rfl, q1, q2⟩ | ⟨rfl, rfl, q1, q2⟩ | ⟨rfl, rfl, q1, q2⟩
        all_goals (try (exfalso; omega))
        all_goals
          go_enter Tryd.func7, Tryd.ntmps7
          go_wp2_with fail
          refine HNW.out.mono ?_
          rintro e w1 ⟨p, x, m, o, rfl, hp, ⟨g1, g2, g3, g4⟩, hb⟩
          have HP1 := Lib.hid hp
          have HB1 := Lib.hid hb
          have HG := Lib.hid (And.intro g1 (And.intro g2 (And.intro g3 g4)))
          clear hp hb g1 g2 g3 g4
          go_wp2_with fail
          refine (HTS.out _ _ _ _ _ HP1.out).mono ?_
          rintro e w2 ⟨rfl, hp, ho⟩
          have HP2 := Lib.hid hp
          have HB2 := Lib.hid (HB1.out.trans (ho.below HB1.out.size HG.out.1 HG.out.2.1 HG.out.2.2.1))
          clear hp ho
          go_wp2_with fail
          refine (HTT.out _ _ _ _ _ HP2.out).mono ?_
          rintro e w3 ⟨rfl, hp, ho⟩
          have HP3 := Lib.hid hp
          have HB3 := Lib.hid (HB2.out.trans (ho.below HB2.out.size HG.out.1 HG.out.2.1 HG.out.2.2.1))
          clear hp ho
          go_wp2_with fail
          refine (HJN.out _ _ _ _ _ HP3.out).mono ?_
          rintro e w4 ⟨rfl, hp, ho⟩
          have HB4 := Lib.hid (HB3.out.trans (ho.below HB3.out.size HG.out.1 HG.out.2.1 HG.out.2.2.1))
          clear hp ho
          go_wp2_with fail
          refine (HL.out _ (HSG.out.below HB4.out)).mono ?_
          rintro e w5 ⟨rfl, hb⟩
          have HB5 := Lib.hid (bnext HB4.out hb)
          clear hb
          go_wp2_with fail
          go_ret
          first | exact ⟨rfl, HB5.out⟩ | (refine ⟨?_, HB5.out⟩; simp; omega)
      · rw [if_neg ht7] at ht
        have lt2 : T.length ≤ 70 := by omega
        clear lt ht7
        subst ht
        rcases hef with ⟨rfl, rfl, q1, q2⟩ | ⟨rfl, rfl, q1, q2⟩ | ⟨rfl, rfl, q1, q2⟩
        all_goals (try (exfalso; omega))
        all_goals
          go_enter Tryd.func7, Tryd.ntmps7
          go_wp2_with fail
          refine HNW.out.mono ?_
          rintro e w1 ⟨p, x, m, o, rfl, hp, ⟨g1, g2, g3, g4⟩, hb⟩
          have HP1 := Lib.hid hp
          have HB1 := Lib.hid hb
          have HG := Lib.hid (And.intro g1 (And.intro g2 (And.intro g3 g4)))
          clear hp hb g1 g2 g3 g4
          go_wp2_with fail
          refine (HTS.out _ _ _ _ _ HP1.out).mono ?_
          rintro e w2 ⟨rfl, hp, ho⟩
          have HP2 := Lib.hid hp
          have HB2 := Lib.hid (HB1.out.trans (ho.below HB1.out.size HG.out.1 HG.out.2.1 HG.out.2.2.1))
          clear hp ho
          go_wp2_with fail
          refine (HTT.out _ _ _ _ _ HP2.out).mono ?_
          rintro e w3 ⟨rfl, hp, ho⟩
          have HP3 := Lib.hid hp
          have HB3 := Lib.hid (HB2.out.trans (ho.below HB2.out.size HG.out.1 HG.out.2.1 HG.out.2.2.1))
          clear hp ho
          go_wp2_with fail
          refine (HJN.out _ _ _ _ _ HP3.out).mono ?_
          rintro e w4 ⟨rfl, hp, ho⟩
          have HB4 := Lib.hid (HB3.out.trans (ho.below HB3.out.size HG.out.1 HG.out.2.1 HG.out.2.2.1))
          clear hp ho
          go_wp2_with fail
          refine (HL.out _ (HSG.out.below HB4.out)).mono ?_
          rintro e w5 ⟨rfl, hb⟩
          have HB5 := Lib.hid (bnext HB4.out hb)
          clear hb
          go_wp2_with fail
          go_ret
          first | exact ⟨rfl, HB5.out⟩ | (refine ⟨?_, HB5.out⟩; simp; omega)
end Go.Proofs.YtphebogjmbaboaaDoor.IE
