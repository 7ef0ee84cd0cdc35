/- What is made is told again behind a collection: the law, but for 'lives'. -/
import Derived.Test.YtphebogjmbaboaaDoorIQ
import Derived.Test.YtphebogjmbaboaaDoorIR
import Derived.Test.YtphebogjmbaboaaDoorIE
namespace Go.Proofs.YtphebogjmbaboaaDoor.IS
open Go.RowKit Go.Proofs.YtphebogjmbaboaaDoor.RG Go.Proofs.YtphebogjmbaboaaDoor.RB Go.Proofs.YtphebogjmbaboaaDoor.HA Go.Proofs.YtphebogjmbaboaaDoor.HB Go.Proofs.YtphebogjmbaboaaDoor.HE Go.Proofs.YtphebogjmbaboaaDoor.HN Go.Proofs.YtphebogjmbaboaaDoor.HO Go.Proofs.YtphebogjmbaboaaDoor.HP Go.Proofs.YtphebogjmbaboaaDoor.HQ Go.Proofs.YtphebogjmbaboaaDoor.HV Go.Proofs.YtphebogjmbaboaaDoor.HW Go.Proofs.YtphebogjmbaboaaDoor.HZ Go.Proofs.YtphebogjmbaboaaDoor.IA Go.Proofs.YtphebogjmbaboaaDoor.IB Go.Proofs.YtphebogjmbaboaaDoor.IC Go.Proofs.YtphebogjmbaboaaDoor.IG Go.Proofs.YtphebogjmbaboaaDoor.IJ Go.Proofs.YtphebogjmbaboaaDoor.IM Go.Proofs.YtphebogjmbaboaaDoor.IN Go.Proofs.YtphebogjmbaboaaDoor.IQ Go.Proofs.YtphebogjmbaboaaDoor.IR Go.Proofs.YtphebogjmbaboaaDoor.O
set_option linter.unusedVariables false
set_option maxRecDepth 100000
set_option maxRecDepth 100000

theorem OnS.below {S : Nat → Prop} {B : Nat} {w w' : World} (h : OnS S w w') (hB : B ≤ w.heap.size) (hS : ∀ b, S b → B ≤ b) : Below B w w' :=
  ⟨h.os, h.tape, h.output, h.size, fun k hk => h.block k (by omega) (fun hs => by have := hS k hs; omega)⟩
theorem cut_of (s : ByteArray) : ∃ S : List UInt8, S.length ≤ 60 ∧ ((s.size > 60 ∧ s.extract 0 60 = ⟨S.toArray⟩) ∨ (¬ s.size > 60 ∧ s = ⟨S.toArray⟩)) := by
  by_cases h : s.size > 60
  · obtain ⟨S, hS, lS⟩ := Go.Proofs.YtphebogjmbaboaaDoor.IE.bytes_of (s.extract 0 60)
    exact ⟨S, by rw [lS, ByteArray.size_extract]; omega, .inl ⟨h, hS⟩⟩
  · obtain ⟨S, hS, lS⟩ := Go.Proofs.YtphebogjmbaboaaDoor.IE.bytes_of s
    exact ⟨S, by omega, .inr ⟨h, hS⟩⟩
set_option maxHeartbeats 12800000 in
theorem lkeep_c (HL : Lives) (s t : ByteArray) (f : Int) (hf0 : -9223372036854775808 ≤ f) (hf1 : f ≤ 9223372036854775807) (w : World) (hsg : Sig w) :
    Calls Tryd.prog 6 #[.string s, .string t, .int .i64 f] w fun e w' => e = .returned (.bool true) ∧ Below w.heap.size w w' := by
  have HSG := Lib.hid hsg
  have HL := Lib.hid HL
  unfold Lives at HL
  obtain ⟨S, ls, hS⟩ := cut_of s
  obtain ⟨T, lt, hT⟩ := cut_of t
  obtain ⟨F, hF0, hF1, hF⟩ : ∃ F : Int, 0 ≤ F ∧ F ≤ 999 ∧ ((f < 0 ∧ (-(f + 1)).tmod 1000 = F) ∨ (¬ f < 0 ∧ f.tmod 1000 = F)) := by
    by_cases h : f < 0
    · refine ⟨(-(f + 1)).tmod 1000, ?_, ?_, .inl ⟨h, rfl⟩⟩ <;> rw [Int.tmod_eq_emod_of_nonneg (by omega)] <;> omega
    · refine ⟨f.tmod 1000, ?_, ?_, .inr ⟨h, rfl⟩⟩ <;> rw [Int.tmod_eq_emod_of_nonneg (by omega)] <;> omega
  have HNW := Lib.hid (new_c 200 w (by decide) (by decide))
  have HTS := Lib.hid (fun w1 p x m o (H : HP w1 p x m o 200 []) => ptext_c w1 p x m o 200 [] H ⟨S.toArray⟩)
  have HTL := Lib.hid (fun w1 p x m o (H : HP w1 p x m o 200 [(201, packL S)]) => ptext_c w1 p x m o 200 _ H ⟨#[108, 111, 115, 116]⟩)
  have HTT := Lib.hid (fun w1 p x m o (H : HP w1 p x m o 200 [(201, packL S), (201, packL lost)]) => ptext_c w1 p x m o 200 _ H ⟨T.toArray⟩)
  have e1 : (⟨S.toArray⟩ : ByteArray).data.toList = S := rfl
  have e2 : (⟨T.toArray⟩ : ByteArray).data.toList = T := rfl
  have e3 : (ByteArray.mk #[108, 111, 115, 116]).data.toList = lost := rfl
  rw [e1, t_a S ls] at HTS
  rw [e3, t_l S ls] at HTL
  rw [e2, t_b S T ls lt] at HTT
  simp only at HTS HTL HTT
  have HCL := Lib.hid (fun w1 p x m o (H : HP w1 p x m o 200 (h3 S T)) v hv hx => pclose_c w1 p x m o 200 (h3 S T) H F v [pb S T, 2, 9] hv hx (show 3 ≤ 1000000 by decide))
  rw [t_c S T ls lt F hF0 (by omega)] at HCL
  simp only at HCL
  have hmay : ([pc S T] : List Int).all (mayW (h4 S T F)) = true := by
    rw [List.all_cons, List.all_nil, show mayW (h4 S T F) (pc S T) = true from by rw [p_c S T F]; exact may_at (show 3 < (h4 S T F).length from by rw [l4]; decide)]
    rfl
  have HCO := Lib.hid (fun w1 p x m o (H : HP w1 p x m o 200 (h4 S T F)) v hv hox => collect_c w1 p x m o 200 (h4 S T F) H (wf4 S T F) v [pc S T] hv (show 1 ≤ 1000000 by decide) hmay hox)
  have HOP := Lib.hid (fun w1 p x m o (H : HP w1 p x m o 200 (h5 S T F)) => popen_c w1 p x m o 200 (h5 S T F) H 2)
  rw [o_c S T F hF0 (by omega)] at HOP
  simp only at HOP
  have HXB := Lib.hid (fun w1 p x m o (H : HP w1 p x m o 200 (h5 S T F)) => pstr_c w1 p x m o 200 (h5 S T F) H (ptr (h5 S T F) 1))
  have HXA := Lib.hid (fun w1 p x m o (H : HP w1 p x m o 200 (h5 S T F)) => pstr_c w1 p x m o 200 (h5 S T F) H (ptr (h5 S T F) 2))
  rw [x_b S T F lt] at HXB
  rw [x_a S T F ls] at HXA
  simp only at HXB HXA
  have HFC := Lib.hid (f_c S T F)
  have HSR := Lib.hid (fun k src h1 h2 => src_is (S := S) (T := T) (f := F) (k := k) (src := src) h1 h2)
  have HGO := Lib.hid (show gone (h4 S T F) [3, 2, 0] = h5 S T F from rfl)
  have HRL := Lib.hid row_lit
  obtain ⟨PB, hPB⟩ : ∃ x, pb S T = x := ⟨_, rfl⟩
  obtain ⟨PC, hPC⟩ : ∃ x, pc S T = x := ⟨_, rfl⟩
  obtain ⟨Q1, hQ1⟩ : ∃ x, ptr (h5 S T F) 1 = x := ⟨_, rfl⟩
  obtain ⟨Q2, hQ2⟩ : ∃ x, ptr (h5 S T F) 2 = x := ⟨_, rfl⟩
  rw [hPB] at HTT HCL
  rw [hPC] at HCL HCO HFC HSR
  rw [hQ1, hQ2] at HOP
  rw [hQ1] at HXB
  rw [hQ2] at HXA
  obtain ⟨z1, hz1⟩ : ∃ z, s.size = z := ⟨_, rfl⟩
  obtain ⟨z2, hz2⟩ : ∃ z, t.size = z := ⟨_, rfl⟩
  rw [hz1] at hS
  rw [hz2] at hT
  clear e1 e2 e3 hPB hPC hQ1 hQ2 hmay hsg ls lt
  rcases hS with ⟨hs1, hs⟩ | ⟨hs1, rfl⟩
  all_goals
    rcases hT with ⟨ht1, ht⟩ | ⟨ht1, rfl⟩
    all_goals
      rcases hF with ⟨hf2, hfm⟩ | ⟨hf2, hfm⟩
      all_goals
        first | (have k1 : (z1 : Int) > 60 := by omega) | (have k1 : ¬ (z1 : Int) > 60 := by omega)
        first | (have k2 : (z2 : Int) > 60 := by omega) | (have k2 : ¬ (z2 : Int) > 60 := by omega)
        go_enter Tryd.func6, Tryd.ntmps6
        go_wp2_with fail
        refine HNW.out.mono ?_
        rintro e w1 ⟨p, x, m, o, rfl, hp, ⟨g1, g2, g3, g4⟩, hb⟩
        have HP1 := Lib.hid hp
        have HB1 := Lib.hid hb
        have HG := Lib.hid (And.intro g1 (And.intro g2 (And.intro g3 g4)))
        clear hp hb g1 g2 g3 g4
        go_wp2_with fail
        refine (HTS.out _ _ _ _ _ HP1.out).mono ?_
        rintro e w2 ⟨rfl, hp, ho⟩
        have HP2 := Lib.hid hp
        have HB2 := Lib.hid (HB1.out.trans (ho.below HB1.out.size HG.out.1 HG.out.2.1 HG.out.2.2.1))
        clear hp ho
        go_wp2_with fail
        refine (HTL.out _ _ _ _ _ HP2.out).mono ?_
        rintro e w3 ⟨rfl, hp, ho⟩
        have HP3 := Lib.hid hp
        have HB3 := Lib.hid (HB2.out.trans (ho.below HB2.out.size HG.out.1 HG.out.2.1 HG.out.2.2.1))
        clear hp ho
        go_wp2_with fail
        refine (HTT.out _ _ _ _ _ HP3.out).mono ?_
        rintro e w4 ⟨rfl, hp, ho⟩
        have HP4 := Lib.hid hp
        have HB4 := Lib.hid (HB3.out.trans (ho.below HB3.out.size HG.out.1 HG.out.2.1 HG.out.2.2.1))
        clear hp ho
        go_wp2_with fail
        have HV4 := Lib.hid (show RowI (w4.alloc (.cells #[.int .i64 PB, .int .i64 2, .int .i64 9] 3)) (.slice (some ⟨w4.heap.size, 0, none⟩) 3 3) [PB, 2, 9] from HRL.out _ [PB, 2, 9] (Nat.succ_pos _) _ (Bk.new w4 _ _))
        have HB5 := Lib.hid (bnext HB4.out (balloc w4 (.cells #[.int .i64 PB, .int .i64 2, .int .i64 9] 3)))
        have HP5 := Lib.hid (HP4.out.keep (balloc w4 (.cells #[.int .i64 PB, .int .i64 2, .int .i64 9] 3)))
        have HX4 := Lib.hid HP4.out.lt
        refine (HCL.out _ _ _ _ _ HP5.out _ HV4.out (fun b hb => by cases hb; exact Nat.ne_of_gt HX4.out.2.1)).mono ?_
        rintro e w5 ⟨rfl, hp, ho⟩
        have HP6 := Lib.hid hp
        have HB6 := Lib.hid (HB5.out.trans (ho.below HB5.out.size HG.out.1 HG.out.2.1 HG.out.2.2.1))
        clear hp ho HP1 HP2 HP3 HP4 HP5 HV4 HX4 HB1 HB2 HB3 HB4
        go_wp2_with fail
        have HV6 := Lib.hid (show RowI (w5.alloc (.cells #[.int .i64 PC] 3)) (.slice (some ⟨w5.heap.size, 0, none⟩) 1 1) [PC] from HRL.out _ [PC] (Nat.succ_pos _) _ (Bk.new w5 _ _))
        have HB7 := Lib.hid (bnext HB6.out (balloc w5 (.cells #[.int .i64 PC] 3)))
        have HP7 := Lib.hid (HP6.out.keep (balloc w5 (.cells #[.int .i64 PC] 3)))
        have HX6 := Lib.hid HP6.out.lt
        refine (HCO.out _ _ _ _ _ HP7.out _ HV6.out (fun b hb => by cases hb; exact Nat.ne_of_gt HX6.out.2.2.2)).mono ?_
        rintro e w6 ⟨k, mm, tv, src, rfl, ⟨hs1, hs2, _⟩, htv, hp, hm2, hon⟩
        have hsr := HSR.out k src hs1 hs2
        subst hsr
        rw [HGO.out] at hp
        rw [List.map_cons, List.map_nil, HFC.out] at htv
        have HP8 := Lib.hid hp
        have HB8 := Lib.hid (HB7.out.trans (OnS.below hon HB7.out.size (fun b hb => by have := HG.out; omega)))
        obtain ⟨b, off, cap, rfl, _, hlt, hcells⟩ := htv.open_ (by simp)
        obtain ⟨q, hLI, _⟩ := hcells 0 2 rfl
        have x0 : w6.cell? ⟨b, off, none⟩ = some (.int .i64 2) := by simpa [TI, Ty.flat] using hLI 0 _ rfl
        clear hs1 hs2 htv hp hm2 hon hcells hLI HP6 HP7 HV6 HX6 HB5
        go_wp2_with fail
        refine (HOP.out _ _ _ _ _ HP8.out).mono ?_
        rintro e w7 ⟨v, rfl, hv, hb⟩
        have HB9 := Lib.hid (bnext HB8.out hb)
        have HP9 := Lib.hid (HP8.out.keep hb)
        obtain ⟨kb, ko, kc, rfl, _, klt, kcells⟩ := hv.open_ (by simp)
        have hcell : ∀ w', Below w7.heap.size w7 w' → ∀ (i : Nat) z, ([Q1, Q2, 9] : List Int)[i]? = some z → w'.cell? ⟨kb, ko + i, none⟩ = some (.int .i64 z) := by
          intro w' hb' i z hz
          obtain ⟨q, hLI, _⟩ := kcells i z hz
          have := hLI 0 _ rfl
          exact (hb'.cell (p := ⟨kb, ko + i, none⟩) klt).trans (by simpa [TI, Ty.flat] using this)
        have HCE := Lib.hid hcell
        have y0 : w7.cell? ⟨kb, ko, none⟩ = some (.int .i64 Q1) := hcell w7 (Below.refl _ _) 0 Q1 rfl
        clear hv hb kcells hcell x0 hlt HP8 HB7 HB8
        go_wp2_with fail
        refine (HXB.out _ _ _ _ _ HP9.out).mono ?_
        rintro e w8 ⟨rfl, hb⟩
        have HBX := Lib.hid hb
        have HB10 := Lib.hid (bnext HB9.out hb)
        have HP10 := Lib.hid (HP9.out.keep hb)
        have y1 : w8.cell? ⟨kb, ko + 1, none⟩ = some (.int .i64 Q2) := HCE.out w8 hb 1 Q2 rfl
        clear hb y0
        go_wp2_with fail
        refine (HXA.out _ _ _ _ _ HP10.out).mono ?_
        rintro e w9 ⟨rfl, hb⟩
        have HB11 := Lib.hid (bnext HB10.out hb)
        have y2 : w9.cell? ⟨kb, ko + 2, none⟩ = some (.int .i64 9) := HCE.out w9 (bnext HBX.out hb) 2 9 rfl
        clear hb y1
        go_wp2_with fail
        refine (HL.out _ (HSG.out.below HB11.out)).mono ?_
        rintro e w10 ⟨rfl, hb⟩
        have HB12 := Lib.hid (bnext HB11.out hb)
        clear hb
        go_wp2_with fail
        go_ret
        exact ⟨rfl, HB12.out⟩
end Go.Proofs.YtphebogjmbaboaaDoor.IS
