/- CoverValue: the walk. -/
import Derived.Test.YtommaomhiaaphaaDU
namespace Go.Proofs.Ytommaomhiaaphaa.coverValue
open Go.RowKit Go.Proofs.Ytommaomhiaaphaa.CA Go.Proofs.Ytommaomhiaaphaa.CB Go.Proofs.Ytommaomhiaaphaa.CC Go.Proofs.Ytommaomhiaaphaa.CD Go.Proofs.Ytommaomhiaaphaa.CE Go.Proofs.Ytommaomhiaaphaa.CF Go.Proofs.Ytommaomhiaaphaa.CG Go.Proofs.Ytommaomhiaaphaa.CH Go.Proofs.Ytommaomhiaaphaa.CK Go.Proofs.Ytommaomhiaaphaa.CI Go.Proofs.Ytommaomhiaaphaa.CO Go.Proofs.Ytommaomhiaaphaa.CU Go.Proofs.Ytommaomhiaaphaa.CV Go.Proofs.Ytommaomhiaaphaa.CW Go.Proofs.Ytommaomhiaaphaa.DB Go.Proofs.Ytommaomhiaaphaa.DA Go.Proofs.Ytommaomhiaaphaa.DC Go.Proofs.Ytommaomhiaaphaa.DE Go.Proofs.Ytommaomhiaaphaa.DF Go.Proofs.Ytommaomhiaaphaa.DG Go.Proofs.Ytommaomhiaaphaa.DH Go.Proofs.Ytommaomhiaaphaa.DI Go.Proofs.Ytommaomhiaaphaa.DL Go.Proofs.Ytommaomhiaaphaa.DR Go.Proofs.Ytommaomhiaaphaa.DS Go.Proofs.Ytommaomhiaaphaa.DT Go.Proofs.Ytommaomhiaaphaa.DU
set_option linter.unusedVariables false
set_option maxRecDepth 100000
theorem rowC_grown {w w' : World} {row : Option Nat} {b off n cap : Nat} {C : List Cn} (h : RowC w (.slice (some ⟨b, off, none⟩) n cap) C) (hg : w.grownBy w' row) (hn : row ≠ some b) (h0 : C ≠ []) : RowC w' (.slice (some ⟨b, off, none⟩) n cap) C := by
  obtain ⟨ao, cap', e, hc, hr⟩ := h
  cases e
  refine ⟨_, cap, rfl, hc, ?_⟩
  rcases hr with hr | ⟨b', off', e, ⟨hS, hlt⟩, hcell⟩
  · exact absurd (List.eq_nil_of_length_eq_zero hr) h0
  · cases e
    have hbl := hg.block b hlt (fun e => hn e.symm)
    exact .inr ⟨b, off, rfl, ⟨trivial, Nat.lt_of_lt_of_le hlt hg.size⟩, fun j u hj => (World.cell?_of_block (w := w) (a := ⟨b, off + j, none⟩) hbl).trans (hcell j u hj)⟩
theorem szL_le : ∀ (L : List Nd), (∀ p, p ∈ L → sz p ≤ 9) → szL L ≤ 9 * L.length
  | [], _ => Nat.le_refl _
  | p :: L, h => by
    have h1 := h p List.mem_cons_self
    have h2 := szL_le L fun q hq => h q (List.mem_cons_of_mem _ hq)
    simp only [szL, List.length_cons]; omega
set_option maxHeartbeats 8000000 in
theorem walk (w : World) (f : Nat) (v : Value) (hv : ArgS w f v) (pk : Int) (lo : -9223372036854775808 ≤ pk) (hi : pk ≤ 9223372036854775807) :
    Calls Try.prog 3 #[v, .int .i64 pk] w fun e w' => e = .returned (.bool true) ∧ Below w.heap.size w w' := by
  have LV := fun w => lives_c w
  have CC8 := fun w => cons_c w
  go_enter Try.func3, Try.ntmps3
  go_wp2_with fail
  refine (few_c f v _ hv).mono ?_
  rintro e w1 ⟨v1, L, rfl, hO, hL5, hsz, hb1⟩
  have HO := Lib.hid hO
  have HSZ := Lib.hid hsz
  have HS := Lib.hid (show ∀ p, p ∈ L → sz p ≤ 5000 from fun p hp => Nat.le_trans (hsz p hp) (by decide))
  have HS45 := Lib.hid (show szL L ≤ 45 from by have := szL_le L hsz; omega)
  have HB1 := Lib.hid hb1
  have HOW := Lib.hid (fun b hb => hO.own (b := b) hb)
  clear hO hsz hb1
  go_wp2_with fail
  refine (CC8 _).mono ?_
  rintro e w2 ⟨rfl, hrc, hb2⟩
  have HRC := Lib.hid hrc
  have HX2 := Lib.hid hb2
  have HR2 := Lib.hid (show RowN w2 Any v1 L from ((HO.out.keep hb2).row).mv (Mv.weak _ fun _ _ _ => trivial))
  clear hrc hb2
  obtain ⟨W1, hW1⟩ : ∃ W1, Hid (w1.heap.size = W1) := ⟨_, Lib.hid rfl⟩
  rw [hW1.out] at HRC ⊢
  obtain ⟨olo, lc, e, _⟩ := HR2.out.val
  subst e
  obtain ⟨NL, hNL⟩ : ∃ NL, Hid (L.length = NL) := ⟨_, Lib.hid rfl⟩
  rw [hNL.out] at HR2 HO HOW hL5 ⊢
  obtain ⟨n, e, hch⟩ : ∃ n e, chk C8 L = (n, e) := ⟨_, _, rfl⟩
  have HCH := Lib.hid hch
  have CK1 := Lib.hid (fun (w' : World) (hb : Below w2.heap.size w2 w') => check_is C8 L (.slice olo NL lc) _ w' n e (cons_in (RowC.keep HRC.out hb)) (HR2.out.keep hb) (by rw [hNL.out]; omega) HS.out HCH.out)
  have CK2 := Lib.hid (fun (w' : World) (hb : Below w2.heap.size w2 w') => right_c L (.slice olo NL lc) _ w' (HR2.out.keep hb) (by rw [hNL.out]; omega) HSZ.out (RowC.keep HRC.out hb))
  cases hm : mayB C8 L
  · have h1 := may_no hm
    rw [hch] at h1
    obtain ⟨rfl, rfl⟩ := Prod.mk.inj h1
    have HM := Lib.hid hm
    clear hch h1 hm
    go_wp2_with fail
    refine (CK1.out _ (Below.refl _ _)).mono ?_
    rintro x w3 ⟨rfl, hb3⟩
    have HX3 := Lib.hid hb3
    clear hb3
    go_wp2_with fail
    refine (CK2.out _ HX3.out).mono ?_
    rintro x w4 ⟨rfl, hb4⟩
    rw [HM.out]
    have HX4 := Lib.hid (bnext HB1.out (bnext HX2.out (bnext HX3.out hb4)))
    clear hb4
    go_wp2_with fail
    refine (LV _).mono ?_
    rintro x w5 ⟨rfl, hb5⟩
    have HX5 := Lib.hid (bnext HX4.out hb5)
    clear hb5
    go_wp2_with fail
    go_ret
    exact ⟨rfl, HX5.out⟩
  · have HM := Lib.hid hm
    have hrt := (right_iff (C := C8) (L := L) (by rw [hNL.out]; omega) HSZ.out).1 hm
    have HFT := Lib.hid hrt
    have HTO := Lib.hid (ty_ok sound8 45 L HS45.out hrt.1 hrt.2)
    have HLA := Lib.hid (any_last L (by rw [hNL.out]; omega) hm n e hch)
    have HCOV := Lib.hid (fun (h0 : e = 0) (x : Vl) (hx : Typed C8 (tyF C8 45 L) x) => covered (C := C8) sound8 (t := tyF C8 45 L) (ty_ok sound8 45 L HS45.out hrt.1 hrt.2).1 (ty_ok sound8 45 L HS45.out hrt.1 hrt.2).2 hm (n := n) (by rw [hch, h0]) x hx)
    clear hm hch hrt
    go_wp2_with fail
    refine (CK1.out _ (Below.refl _ _)).mono ?_
    rintro x w3 ⟨rfl, hb3⟩
    have HX3 := Lib.hid hb3
    clear hb3
    go_wp2_with fail
    refine (CK2.out _ HX3.out).mono ?_
    rintro x w4 ⟨rfl, hb4⟩
    rw [HM.out]
    have HX4 := Lib.hid (bnext HX3.out hb4)
    clear hb4
    go_wp2_with fail
    refine (values_c _ 45 (by decide) L (.slice olo NL lc) _ HS45.out (by rw [hNL.out]; omega) HFT.out.1 HFT.out.2 (RowC.keep HRC.out HX4.out) (HR2.out.keep HX4.out)).mono ?_
    rintro x w5 ⟨v6, vs, rfl, hr6, hv1, hv2, hv3, hb5⟩
    have HX5 := Lib.hid (bnext HX4.out hb5)
    have HV3 := Lib.hid hv3
    have HR6 := Lib.hid hr6
    obtain ⟨b6, off6, cap6, hve, _, hb6, hop6⟩ := hr6.open_ (by intro e; rw [e] at hv1; simp at hv1)
    subst hve
    have HOP6 := Lib.hid hop6
    obtain ⟨NV, hNV⟩ : ∃ NV, Hid (vs.length = NV) := ⟨_, Lib.hid rfl⟩
    have hNV2 : NV ≤ 400000000000 := by rw [← hNV.out]; exact Nat.le_trans hv2 (G_ge HS45.out).2
    rw [hNV.out] at hv1 HR6 ⊢
    have hz1 : ((NV : Int) == 0) = false := by simp; omega
    have hz2 : ¬ (NV : Int) = 0 := by omega
    have HB5 := Lib.hid (bnext HB1.out (bnext HX2.out HX5.out))
    have HOk := Lib.hid (fun (w' : World) (hb : Below w5.heap.size w5 w') => (HO.out.keep HX2.out).keep (bnext HX5.out hb))
    have HL4 := Lib.hid (show L.length ≤ 10000 from by rw [hNL.out]; omega)
    clear hr6 hv2 hv3 hop6 hb5
    obtain ⟨K, hK, hV⟩ : ∃ K : Nat, K < NV ∧ Hid ((pk < 0 → (-(pk + 1)).tmod (NV : Int) = (K : Int)) ∧ (0 ≤ pk → pk.tmod (NV : Int) = (K : Int))) := by
      by_cases hp : pk < 0
      · refine ⟨(-(pk + 1)).toNat % NV, Nat.mod_lt _ (by omega), Lib.hid ⟨fun _ => ?_, fun h => by omega⟩⟩
        rw [Int.tmod_eq_emod_of_nonneg (by omega), Int.natCast_emod, Int.toNat_of_nonneg (by omega)]
      · refine ⟨pk.toNat % NV, Nat.mod_lt _ (by omega), Lib.hid ⟨fun h => by omega, fun _ => ?_⟩⟩
        rw [Int.tmod_eq_emod_of_nonneg (by omega), Int.natCast_emod, Int.toNat_of_nonneg (by omega)]
    obtain ⟨x, hx⟩ := getElem?_of_lt (l := vs) (k := K) (by rw [hNV.out]; exact hK)
    obtain ⟨qv, hLx, hVx⟩ := HOP6.out K x hx
    have HTX := Lib.hid (HV3.out x (List.mem_of_getElem? hx))
    obtain ⟨u0, u1, u2⟩ := hLx
    have HVX := Lib.hid hVx
    have k0 : (0 : Int) ≤ (K : Int) := by omega
    have k1 : (K : Int) < (NV : Int) := by omega
    clear hx hVx
    rcases HLA.out with ⟨rfl, m, hc2⟩ | ⟨rfl, hc2⟩ | ⟨rfl, hc2⟩
    · by_cases hpk : pk < 0
      · have hV1 := hV.out.1 hpk
        have hV2 : -(pk + 1).tmod (NV : Int) = (K : Int) := by rw [← Int.neg_tmod]; exact hV1
        have HXA := Lib.hid (Below.refl w5.heap.size w5)
        go_wp2_with fail
        refine (any_c _).mono ?_
        rintro y w9 ⟨rfl, hb9⟩
        have HX9 := Lib.hid (bnext HXA.out hb9)
        have HO9 := Lib.hid ((HOk.out _ HX9.out).keep (balloc w9 (.cells #[.int .i64 24, .string ⟨#[]⟩, .int .i64 0, .int .i64 0, .slice none 0 0, .slice none 0 0] 38)))
        have HBZ := Lib.hid (show w.heap.size ≤ (w9.alloc (.cells #[.int .i64 24, .string ⟨#[]⟩, .int .i64 0, .int .i64 0, .slice none 0 0, .slice none 0 0] 38)).heap.size from Nat.le_trans (bnext HB5.out HX9.out).size (balloc w9 _).size)
        have HXZ := Lib.hid (bnext HX9.out (balloc w9 (.cells #[.int .i64 24, .string ⟨#[]⟩, .int .i64 0, .int .i64 0, .slice none 0 0, .slice none 0 0] 38)))
        have HRC9 := Lib.hid (RowC.keep HRC.out (bnext HX5.out HXZ.out))
        clear hb9
        go_wp2_with (at_builtin; go_loud (refine wpList_nodeK (w9.alloc (.cells #[.int .i64 24, .string ⟨#[]⟩, .int .i64 0, .int .i64 0, .slice none 0 0, .slice none 0 0] 38)) rfl (.tmp 56) (.tmp 58) rfl w.heap.size (fun b => w.heap.size ≤ b) (.slice olo NL lc) L anyNd (.slice none 0 0) w9.heap.size rfl rfl HO9.out (ncells_new w9 anyNd (.slice none 0 0) 38) ⟨[], ⟨none, 0, rfl, Nat.le_refl _, .inl rfl⟩, trivial⟩ HL4.out HBZ.out ?_); intro g6 cap6 w10 hO10 hg10; rw [hNL.out] at hO10 ⊢; have HO10 := Lib.hid hO10; have HG10 := Lib.hid hg10; clear hO10 hg10)
        have HX10 := Lib.hid (show Below w.heap.size w w10 from (bnext HB5.out HXZ.out).trans (bgrown HG10.out (fun b hb => (HOW.out b hb).1) HBZ.out))
        have HR10 := Lib.hid (show RowN w10 Any _ (L ++ [anyNd]) from (HO10.out.row).mv (Mv.weak _ fun _ _ _ => trivial))
        have HRC10 := Lib.hid (rowC_grown HRC9.out HG10.out (fun e => by have := (HOW.out W1 e).2; have := hW1.out; omega) (by decide))
        have HS10 := Lib.hid (show ∀ p, p ∈ L ++ [anyNd] → sz p ≤ 5000 from fun p hp => by
          rcases List.mem_append.1 hp with hp | hp
          · exact HS.out p hp
          · rw [List.mem_singleton.1 hp]; decide)
        refine (check_is C8 (L ++ [anyNd]) _ _ w10 m 27 (cons_in HRC10.out) HR10.out (by rw [List.length_append, hNL.out]; simp; omega) HS10.out hc2).mono ?_
        rintro y w11 ⟨rfl, hb11⟩
        have HX11 := Lib.hid (bnext HX10.out hb11)
        clear hb11
        go_wp2_with fail
        refine (LV _).mono ?_
        rintro y w12 ⟨rfl, hb12⟩
        have HX12 := Lib.hid (bnext HX11.out hb12)
        clear hb12
        go_wp2_with fail
        go_ret
        first | exact ⟨rfl, HX12.out⟩ | exact ⟨ret_bool (by simp), HX12.out⟩
      · have hV1 := hV.out.2 (by omega)
        have hV2 : pk % (NV : Int) = (K : Int) := by rw [← hV1, Int.tmod_eq_emod_of_nonneg (by omega)]
        have HXA := Lib.hid (Below.refl w5.heap.size w5)
        go_wp2_with fail
        refine (any_c _).mono ?_
        rintro y w9 ⟨rfl, hb9⟩
        have HX9 := Lib.hid (bnext HXA.out hb9)
        have HO9 := Lib.hid ((HOk.out _ HX9.out).keep (balloc w9 (.cells #[.int .i64 24, .string ⟨#[]⟩, .int .i64 0, .int .i64 0, .slice none 0 0, .slice none 0 0] 38)))
        have HBZ := Lib.hid (show w.heap.size ≤ (w9.alloc (.cells #[.int .i64 24, .string ⟨#[]⟩, .int .i64 0, .int .i64 0, .slice none 0 0, .slice none 0 0] 38)).heap.size from Nat.le_trans (bnext HB5.out HX9.out).size (balloc w9 _).size)
        have HXZ := Lib.hid (bnext HX9.out (balloc w9 (.cells #[.int .i64 24, .string ⟨#[]⟩, .int .i64 0, .int .i64 0, .slice none 0 0, .slice none 0 0] 38)))
        have HRC9 := Lib.hid (RowC.keep HRC.out (bnext HX5.out HXZ.out))
        clear hb9
        go_wp2_with (at_builtin; go_loud (refine wpList_nodeK (w9.alloc (.cells #[.int .i64 24, .string ⟨#[]⟩, .int .i64 0, .int .i64 0, .slice none 0 0, .slice none 0 0] 38)) rfl (.tmp 56) (.tmp 58) rfl w.heap.size (fun b => w.heap.size ≤ b) (.slice olo NL lc) L anyNd (.slice none 0 0) w9.heap.size rfl rfl HO9.out (ncells_new w9 anyNd (.slice none 0 0) 38) ⟨[], ⟨none, 0, rfl, Nat.le_refl _, .inl rfl⟩, trivial⟩ HL4.out HBZ.out ?_); intro g6 cap6 w10 hO10 hg10; rw [hNL.out] at hO10 ⊢; have HO10 := Lib.hid hO10; have HG10 := Lib.hid hg10; clear hO10 hg10)
        have HX10 := Lib.hid (show Below w.heap.size w w10 from (bnext HB5.out HXZ.out).trans (bgrown HG10.out (fun b hb => (HOW.out b hb).1) HBZ.out))
        have HR10 := Lib.hid (show RowN w10 Any _ (L ++ [anyNd]) from (HO10.out.row).mv (Mv.weak _ fun _ _ _ => trivial))
        have HRC10 := Lib.hid (rowC_grown HRC9.out HG10.out (fun e => by have := (HOW.out W1 e).2; have := hW1.out; omega) (by decide))
        have HS10 := Lib.hid (show ∀ p, p ∈ L ++ [anyNd] → sz p ≤ 5000 from fun p hp => by
          rcases List.mem_append.1 hp with hp | hp
          · exact HS.out p hp
          · rw [List.mem_singleton.1 hp]; decide)
        refine (check_is C8 (L ++ [anyNd]) _ _ w10 m 27 (cons_in HRC10.out) HR10.out (by rw [List.length_append, hNL.out]; simp; omega) HS10.out hc2).mono ?_
        rintro y w11 ⟨rfl, hb11⟩
        have HX11 := Lib.hid (bnext HX10.out hb11)
        clear hb11
        go_wp2_with fail
        refine (LV _).mono ?_
        rintro y w12 ⟨rfl, hb12⟩
        have HX12 := Lib.hid (bnext HX11.out hb12)
        clear hb12
        go_wp2_with fail
        go_ret
        first | exact ⟨rfl, HX12.out⟩ | exact ⟨ret_bool (by simp), HX12.out⟩
    · by_cases hpk : pk < 0
      · have hV1 := hV.out.1 hpk
        have hV2 : -(pk + 1).tmod (NV : Int) = (K : Int) := by rw [← Int.neg_tmod]; exact hV1
        have HXA := Lib.hid (Below.refl w5.heap.size w5)
        go_wp2_with fail
        refine (any_c _).mono ?_
        rintro y w9 ⟨rfl, hb9⟩
        have HX9 := Lib.hid (bnext HXA.out hb9)
        have HO9 := Lib.hid ((HOk.out _ HX9.out).keep (balloc w9 (.cells #[.int .i64 24, .string ⟨#[]⟩, .int .i64 0, .int .i64 0, .slice none 0 0, .slice none 0 0] 38)))
        have HBZ := Lib.hid (show w.heap.size ≤ (w9.alloc (.cells #[.int .i64 24, .string ⟨#[]⟩, .int .i64 0, .int .i64 0, .slice none 0 0, .slice none 0 0] 38)).heap.size from Nat.le_trans (bnext HB5.out HX9.out).size (balloc w9 _).size)
        have HXZ := Lib.hid (bnext HX9.out (balloc w9 (.cells #[.int .i64 24, .string ⟨#[]⟩, .int .i64 0, .int .i64 0, .slice none 0 0, .slice none 0 0] 38)))
        have HRC9 := Lib.hid (RowC.keep HRC.out (bnext HX5.out HXZ.out))
        clear hb9
        go_wp2_with (at_builtin; go_loud (refine wpList_nodeK (w9.alloc (.cells #[.int .i64 24, .string ⟨#[]⟩, .int .i64 0, .int .i64 0, .slice none 0 0, .slice none 0 0] 38)) rfl (.tmp 56) (.tmp 58) rfl w.heap.size (fun b => w.heap.size ≤ b) (.slice olo NL lc) L anyNd (.slice none 0 0) w9.heap.size rfl rfl HO9.out (ncells_new w9 anyNd (.slice none 0 0) 38) ⟨[], ⟨none, 0, rfl, Nat.le_refl _, .inl rfl⟩, trivial⟩ HL4.out HBZ.out ?_); intro g6 cap6 w10 hO10 hg10; rw [hNL.out] at hO10 ⊢; have HO10 := Lib.hid hO10; have HG10 := Lib.hid hg10; clear hO10 hg10)
        have HX10 := Lib.hid (show Below w.heap.size w w10 from (bnext HB5.out HXZ.out).trans (bgrown HG10.out (fun b hb => (HOW.out b hb).1) HBZ.out))
        have HR10 := Lib.hid (show RowN w10 Any _ (L ++ [anyNd]) from (HO10.out.row).mv (Mv.weak _ fun _ _ _ => trivial))
        have HRC10 := Lib.hid (rowC_grown HRC9.out HG10.out (fun e => by have := (HOW.out W1 e).2; have := hW1.out; omega) (by decide))
        have HS10 := Lib.hid (show ∀ p, p ∈ L ++ [anyNd] → sz p ≤ 5000 from fun p hp => by
          rcases List.mem_append.1 hp with hp | hp
          · exact HS.out p hp
          · rw [List.mem_singleton.1 hp]; decide)
        refine (check_is C8 (L ++ [anyNd]) _ _ w10 0 0 (cons_in HRC10.out) HR10.out (by rw [List.length_append, hNL.out]; simp; omega) HS10.out hc2).mono ?_
        rintro y w11 ⟨rfl, hb11⟩
        have HX11 := Lib.hid (bnext HX10.out hb11)
        clear hb11
        go_wp2_with fail
        refine (LV _).mono ?_
        rintro y w12 ⟨rfl, hb12⟩
        have HX12 := Lib.hid (bnext HX11.out hb12)
        clear hb12
        go_wp2_with fail
        go_ret
        first | exact ⟨rfl, HX12.out⟩ | exact ⟨ret_bool (by simp), HX12.out⟩
      · have hV1 := hV.out.2 (by omega)
        have hV2 : pk % (NV : Int) = (K : Int) := by rw [← hV1, Int.tmod_eq_emod_of_nonneg (by omega)]
        have HXA := Lib.hid (Below.refl w5.heap.size w5)
        go_wp2_with fail
        refine (any_c _).mono ?_
        rintro y w9 ⟨rfl, hb9⟩
        have HX9 := Lib.hid (bnext HXA.out hb9)
        have HO9 := Lib.hid ((HOk.out _ HX9.out).keep (balloc w9 (.cells #[.int .i64 24, .string ⟨#[]⟩, .int .i64 0, .int .i64 0, .slice none 0 0, .slice none 0 0] 38)))
        have HBZ := Lib.hid (show w.heap.size ≤ (w9.alloc (.cells #[.int .i64 24, .string ⟨#[]⟩, .int .i64 0, .int .i64 0, .slice none 0 0, .slice none 0 0] 38)).heap.size from Nat.le_trans (bnext HB5.out HX9.out).size (balloc w9 _).size)
        have HXZ := Lib.hid (bnext HX9.out (balloc w9 (.cells #[.int .i64 24, .string ⟨#[]⟩, .int .i64 0, .int .i64 0, .slice none 0 0, .slice none 0 0] 38)))
        have HRC9 := Lib.hid (RowC.keep HRC.out (bnext HX5.out HXZ.out))
        clear hb9
        go_wp2_with (at_builtin; go_loud (refine wpList_nodeK (w9.alloc (.cells #[.int .i64 24, .string ⟨#[]⟩, .int .i64 0, .int .i64 0, .slice none 0 0, .slice none 0 0] 38)) rfl (.tmp 56) (.tmp 58) rfl w.heap.size (fun b => w.heap.size ≤ b) (.slice olo NL lc) L anyNd (.slice none 0 0) w9.heap.size rfl rfl HO9.out (ncells_new w9 anyNd (.slice none 0 0) 38) ⟨[], ⟨none, 0, rfl, Nat.le_refl _, .inl rfl⟩, trivial⟩ HL4.out HBZ.out ?_); intro g6 cap6 w10 hO10 hg10; rw [hNL.out] at hO10 ⊢; have HO10 := Lib.hid hO10; have HG10 := Lib.hid hg10; clear hO10 hg10)
        have HX10 := Lib.hid (show Below w.heap.size w w10 from (bnext HB5.out HXZ.out).trans (bgrown HG10.out (fun b hb => (HOW.out b hb).1) HBZ.out))
        have HR10 := Lib.hid (show RowN w10 Any _ (L ++ [anyNd]) from (HO10.out.row).mv (Mv.weak _ fun _ _ _ => trivial))
        have HRC10 := Lib.hid (rowC_grown HRC9.out HG10.out (fun e => by have := (HOW.out W1 e).2; have := hW1.out; omega) (by decide))
        have HS10 := Lib.hid (show ∀ p, p ∈ L ++ [anyNd] → sz p ≤ 5000 from fun p hp => by
          rcases List.mem_append.1 hp with hp | hp
          · exact HS.out p hp
          · rw [List.mem_singleton.1 hp]; decide)
        refine (check_is C8 (L ++ [anyNd]) _ _ w10 0 0 (cons_in HRC10.out) HR10.out (by rw [List.length_append, hNL.out]; simp; omega) HS10.out hc2).mono ?_
        rintro y w11 ⟨rfl, hb11⟩
        have HX11 := Lib.hid (bnext HX10.out hb11)
        clear hb11
        go_wp2_with fail
        refine (LV _).mono ?_
        rintro y w12 ⟨rfl, hb12⟩
        have HX12 := Lib.hid (bnext HX11.out hb12)
        clear hb12
        go_wp2_with fail
        go_ret
        first | exact ⟨rfl, HX12.out⟩ | exact ⟨ret_bool (by simp), HX12.out⟩
    · by_cases hpk : pk < 0
      · have hV1 := hV.out.1 hpk
        have hV2 : -(pk + 1).tmod (NV : Int) = (K : Int) := by rw [← Int.neg_tmod]; exact hV1
        have HFI := Lib.hid (first_c (tyF C8 45 L) L (.slice olo NL lc) x qv w5 (HR2.out.keep HX5.out) (by rw [hNL.out]; omega) HS.out HTO.out.2 HTX.out ((HVX.out).mv (Mv.weak _ fun _ _ _ => trivial)))
        have HCV := Lib.hid (HCOV.out rfl x HTX.out)
        go_wp2_with fail
        refine HFI.out.mono ?_
        rintro y w6 ⟨r, rfl, hr0, hb6b⟩
        have hr1 := hr0 HCV.out
        have hr2 : ¬ r < 0 := by omega
        have HXA := Lib.hid hb6b
        clear hr0 hb6b
        have hc3 := hc2
        rw [hNL.out] at hc3
        go_wp2_with fail
        refine (any_c _).mono ?_
        rintro y w9 ⟨rfl, hb9⟩
        have HX9 := Lib.hid (bnext HXA.out hb9)
        have HO9 := Lib.hid ((HOk.out _ HX9.out).keep (balloc w9 (.cells #[.int .i64 24, .string ⟨#[]⟩, .int .i64 0, .int .i64 0, .slice none 0 0, .slice none 0 0] 38)))
        have HBZ := Lib.hid (show w.heap.size ≤ (w9.alloc (.cells #[.int .i64 24, .string ⟨#[]⟩, .int .i64 0, .int .i64 0, .slice none 0 0, .slice none 0 0] 38)).heap.size from Nat.le_trans (bnext HB5.out HX9.out).size (balloc w9 _).size)
        have HXZ := Lib.hid (bnext HX9.out (balloc w9 (.cells #[.int .i64 24, .string ⟨#[]⟩, .int .i64 0, .int .i64 0, .slice none 0 0, .slice none 0 0] 38)))
        have HRC9 := Lib.hid (RowC.keep HRC.out (bnext HX5.out HXZ.out))
        clear hb9
        go_wp2_with (at_builtin; go_loud (refine wpList_nodeK (w9.alloc (.cells #[.int .i64 24, .string ⟨#[]⟩, .int .i64 0, .int .i64 0, .slice none 0 0, .slice none 0 0] 38)) rfl (.tmp 56) (.tmp 58) rfl w.heap.size (fun b => w.heap.size ≤ b) (.slice olo NL lc) L anyNd (.slice none 0 0) w9.heap.size rfl rfl HO9.out (ncells_new w9 anyNd (.slice none 0 0) 38) ⟨[], ⟨none, 0, rfl, Nat.le_refl _, .inl rfl⟩, trivial⟩ HL4.out HBZ.out ?_); intro g6 cap6 w10 hO10 hg10; rw [hNL.out] at hO10 ⊢; have HO10 := Lib.hid hO10; have HG10 := Lib.hid hg10; clear hO10 hg10)
        have HX10 := Lib.hid (show Below w.heap.size w w10 from (bnext HB5.out HXZ.out).trans (bgrown HG10.out (fun b hb => (HOW.out b hb).1) HBZ.out))
        have HR10 := Lib.hid (show RowN w10 Any _ (L ++ [anyNd]) from (HO10.out.row).mv (Mv.weak _ fun _ _ _ => trivial))
        have HRC10 := Lib.hid (rowC_grown HRC9.out HG10.out (fun e => by have := (HOW.out W1 e).2; have := hW1.out; omega) (by decide))
        have HS10 := Lib.hid (show ∀ p, p ∈ L ++ [anyNd] → sz p ≤ 5000 from fun p hp => by
          rcases List.mem_append.1 hp with hp | hp
          · exact HS.out p hp
          · rw [List.mem_singleton.1 hp]; decide)
        refine (check_is C8 (L ++ [anyNd]) _ _ w10 (NL : Int) 27 (cons_in HRC10.out) HR10.out (by rw [List.length_append, hNL.out]; simp; omega) HS10.out hc3).mono ?_
        rintro y w11 ⟨rfl, hb11⟩
        have HX11 := Lib.hid (bnext HX10.out hb11)
        clear hb11
        go_wp2_with fail
        refine (LV _).mono ?_
        rintro y w12 ⟨rfl, hb12⟩
        have HX12 := Lib.hid (bnext HX11.out hb12)
        clear hb12
        go_wp2_with fail
        go_ret
        first | exact ⟨rfl, HX12.out⟩ | exact ⟨ret_bool (by simp), HX12.out⟩
      · have hV1 := hV.out.2 (by omega)
        have hV2 : pk % (NV : Int) = (K : Int) := by rw [← hV1, Int.tmod_eq_emod_of_nonneg (by omega)]
        have HFI := Lib.hid (first_c (tyF C8 45 L) L (.slice olo NL lc) x qv w5 (HR2.out.keep HX5.out) (by rw [hNL.out]; omega) HS.out HTO.out.2 HTX.out ((HVX.out).mv (Mv.weak _ fun _ _ _ => trivial)))
        have HCV := Lib.hid (HCOV.out rfl x HTX.out)
        go_wp2_with fail
        refine HFI.out.mono ?_
        rintro y w6 ⟨r, rfl, hr0, hb6b⟩
        have hr1 := hr0 HCV.out
        have hr2 : ¬ r < 0 := by omega
        have HXA := Lib.hid hb6b
        clear hr0 hb6b
        have hc3 := hc2
        rw [hNL.out] at hc3
        go_wp2_with fail
        refine (any_c _).mono ?_
        rintro y w9 ⟨rfl, hb9⟩
        have HX9 := Lib.hid (bnext HXA.out hb9)
        have HO9 := Lib.hid ((HOk.out _ HX9.out).keep (balloc w9 (.cells #[.int .i64 24, .string ⟨#[]⟩, .int .i64 0, .int .i64 0, .slice none 0 0, .slice none 0 0] 38)))
        have HBZ := Lib.hid (show w.heap.size ≤ (w9.alloc (.cells #[.int .i64 24, .string ⟨#[]⟩, .int .i64 0, .int .i64 0, .slice none 0 0, .slice none 0 0] 38)).heap.size from Nat.le_trans (bnext HB5.out HX9.out).size (balloc w9 _).size)
        have HXZ := Lib.hid (bnext HX9.out (balloc w9 (.cells #[.int .i64 24, .string ⟨#[]⟩, .int .i64 0, .int .i64 0, .slice none 0 0, .slice none 0 0] 38)))
        have HRC9 := Lib.hid (RowC.keep HRC.out (bnext HX5.out HXZ.out))
        clear hb9
        go_wp2_with (at_builtin; go_loud (refine wpList_nodeK (w9.alloc (.cells #[.int .i64 24, .string ⟨#[]⟩, .int .i64 0, .int .i64 0, .slice none 0 0, .slice none 0 0] 38)) rfl (.tmp 56) (.tmp 58) rfl w.heap.size (fun b => w.heap.size ≤ b) (.slice olo NL lc) L anyNd (.slice none 0 0) w9.heap.size rfl rfl HO9.out (ncells_new w9 anyNd (.slice none 0 0) 38) ⟨[], ⟨none, 0, rfl, Nat.le_refl _, .inl rfl⟩, trivial⟩ HL4.out HBZ.out ?_); intro g6 cap6 w10 hO10 hg10; rw [hNL.out] at hO10 ⊢; have HO10 := Lib.hid hO10; have HG10 := Lib.hid hg10; clear hO10 hg10)
        have HX10 := Lib.hid (show Below w.heap.size w w10 from (bnext HB5.out HXZ.out).trans (bgrown HG10.out (fun b hb => (HOW.out b hb).1) HBZ.out))
        have HR10 := Lib.hid (show RowN w10 Any _ (L ++ [anyNd]) from (HO10.out.row).mv (Mv.weak _ fun _ _ _ => trivial))
        have HRC10 := Lib.hid (rowC_grown HRC9.out HG10.out (fun e => by have := (HOW.out W1 e).2; have := hW1.out; omega) (by decide))
        have HS10 := Lib.hid (show ∀ p, p ∈ L ++ [anyNd] → sz p ≤ 5000 from fun p hp => by
          rcases List.mem_append.1 hp with hp | hp
          · exact HS.out p hp
          · rw [List.mem_singleton.1 hp]; decide)
        refine (check_is C8 (L ++ [anyNd]) _ _ w10 (NL : Int) 27 (cons_in HRC10.out) HR10.out (by rw [List.length_append, hNL.out]; simp; omega) HS10.out hc3).mono ?_
        rintro y w11 ⟨rfl, hb11⟩
        have HX11 := Lib.hid (bnext HX10.out hb11)
        clear hb11
        go_wp2_with fail
        refine (LV _).mono ?_
        rintro y w12 ⟨rfl, hb12⟩
        have HX12 := Lib.hid (bnext HX11.out hb12)
        clear hb12
        go_wp2_with fail
        go_ret
        first | exact ⟨rfl, HX12.out⟩ | exact ⟨ret_bool (by simp), HX12.out⟩
end Go.Proofs.Ytommaomhiaaphaa.coverValue
