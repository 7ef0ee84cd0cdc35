/- The document's list of values: the walk. -/
import Derived.Test.YtommaomhiaaphaaDS
namespace Go.Proofs.Ytommaomhiaaphaa.DT
open Go.RowKit Go.Proofs.Ytommaomhiaaphaa.CA Go.Proofs.Ytommaomhiaaphaa.CB Go.Proofs.Ytommaomhiaaphaa.CC Go.Proofs.Ytommaomhiaaphaa.CD Go.Proofs.Ytommaomhiaaphaa.CE Go.Proofs.Ytommaomhiaaphaa.CF Go.Proofs.Ytommaomhiaaphaa.CG Go.Proofs.Ytommaomhiaaphaa.CH Go.Proofs.Ytommaomhiaaphaa.CK Go.Proofs.Ytommaomhiaaphaa.CI Go.Proofs.Ytommaomhiaaphaa.CO Go.Proofs.Ytommaomhiaaphaa.CU Go.Proofs.Ytommaomhiaaphaa.DE Go.Proofs.Ytommaomhiaaphaa.DF Go.Proofs.Ytommaomhiaaphaa.DI Go.Proofs.Ytommaomhiaaphaa.DL Go.Proofs.Ytommaomhiaaphaa.DM Go.Proofs.Ytommaomhiaaphaa.DN Go.Proofs.Ytommaomhiaaphaa.DP Go.Proofs.Ytommaomhiaaphaa.DR Go.Proofs.Ytommaomhiaaphaa.DS
open Go.Proofs.Ytommaomhiaaphaa.CS (str_ne)
open Go.Proofs.Ytommaomhiaaphaa.DA (RowC.keep)
set_option linter.unusedVariables false
set_option maxRecDepth 100000

def VRes (N : Nat) (l : List Nd) (w : World) (e : Ending) (w' : World) : Prop :=
  ∃ v' vs, e = .returned v' ∧ RowV w' (fun b => w.heap.size ≤ b) v' vs ∧ 1 ≤ vs.length ∧ vs.length ≤ G (szL l) ∧ (∀ x, x ∈ vs → Typed C8 (tyF C8 N l) x) ∧ Below w.heap.size w w'
theorem bdr (w : World) : Below w.heap.size w w.drew := ⟨rfl, rfl, rfl, Nat.le_refl _, fun _ _ => rfl⟩
theorem num_nil {w : World} {S : Nat → Prop} (n : Int) : HasV w S (.num n) (.slice none 0 0) := ⟨[], ⟨none, 0, rfl, Nat.le_refl _, .inl rfl⟩, rfl⟩
theorem con_nil {w : World} {S : Nat → Prop} (d : By) : HasV w S (.con d []) (.slice none 0 0) := ⟨[], ⟨none, 0, rfl, Nat.le_refl _, .inl rfl⟩, trivial⟩
set_option maxHeartbeats 4000000 in
theorem values_nil (cvv v : Value) (N : Nat) (w : World) (hv : RowN w Any v []) :
    Calls Try.prog 10 #[cvv, v] w (VRes N [] w) := by
  obtain ⟨ao, cap, rfl, _⟩ := hv.val
  clear hv
  go_enter Try.func10, Try.ntmps10
  go_wp2_with fail
  refine wp_loop_rounds 1 ?_
  rw [rounds_succ]
  go_wp2_with (at_builtin; go_loud (refine wpList_vals (w.alloc (.cells #[.string ⟨#[]⟩, .int .i64 0, .slice none 0 0] 35)) rfl (.tmp 70) (.tmp 73) rfl w.heap.size (fun b => w.heap.size ≤ b) (.slice none 0 0) (.slice (some ⟨w.heap.size, 0, none⟩) 1 1) [] [.num 0] rfl rfl (OwnV.nil _ _ _) (rowV_new (p := .num 0) (num_nil 0) 35) (by simp) (by simp) ?_); intro ao6 n6 cap6 w6 hO6 hn6 hg6; clear hn6; have HO6 := Lib.hid hO6; have HG6 := Lib.hid hg6; clear hO6 hg6)
  go_ret
  refine ⟨_, [.num 0], rfl, HO6.out.row, by decide, (G_ge (Nat.zero_le _)).1, fun x hx => ?_, (balloc _ _).trans (bgrown HG6.out (fun b hb => by simp [Value.ownBlock] at hb) (by simp))⟩
  rw [List.mem_singleton.1 hx]
  exact typed_num N [] (fun p hp => by cases hp) 0
set_option maxHeartbeats 8000000 in
theorem values_c (cvv : Value) : ∀ (N : Nat), N ≤ 45 → ∀ (l : List Nd) (v : Value) (w : World), szL l ≤ N → l.length ≤ 1000 → (∀ p, p ∈ l → Fm C8 p) → Tg C8 l → RowC w cvv C8 → RowN w Any v l →
    Calls Try.prog 10 #[cvv, v] w (VRes N l w) := by
  intro N
  induction N with
  | zero =>
    intro hN l v w hs hll hf ht hc hv
    have hl : l = [] := by cases l with
      | nil => rfl
      | cons p l => have := sz_eq p; simp only [szL] at hs; omega
    subst hl
    exact values_nil cvv v 0 w hv
  | succ N ih =>
    intro hN l v w hs hll hf ht hc hv
    by_cases hl0 : l = []
    · subst hl0; exact values_nil cvv v (N + 1) w hv
    have IH := Lib.hid (ih (by omega))
    clear ih
    have HRN := Lib.hid hv
    have HRC := Lib.hid hc
    have HF := Lib.hid hf
    have HT := Lib.hid ht
    have HS := Lib.hid hs
    have HSG := Lib.hid (G_ge (Nat.le_trans hs hN))
    have HSL := Lib.hid (len_szL l)
    obtain ⟨b, off, cap, rfl, hcap, hblt, hop⟩ := hv.open_ hl0
    obtain ⟨cb, coff, ccap, rfl, hccap, hclt, hcop⟩ := hc.open_ (by decide)
    have HOP := Lib.hid hop
    have HCOP := Lib.hid hcop
    obtain ⟨L, hL⟩ : ∃ L, Hid (l.length = L) := ⟨_, Lib.hid rfl⟩
    have hC8 : C8.length = 8 := rfl
    rw [hL.out] at hll hcap HRN HSL ⊢
    rw [hC8] at HRC hccap IH ⊢
    clear hv hc hf ht hs hop hcop hC8
    go_enter Try.func10, Try.ntmps10
    go_wp2_with fail
    obtain ⟨B0, hB0⟩ : ∃ B, Hid (w.heap.size = B) := ⟨_, Lib.hid rfl⟩
    have HB := Lib.hid (Below.refl w.heap.size w)
    go_loopg [5, 6, 7, 8] L (fun g ov gv uv iv wr => ∃ (j : Nat) (o : By) (gr : Int) (LV : List Vl), j + g = L ∧ ov = .string ⟨o.toArray⟩ ∧ gv = .int .i64 gr ∧ iv = .int .i64 (j : Int) ∧ Hid (Inv1 C8 l j o LV) ∧ Hid (OwnV wr B0 (fun b => B0 ≤ b) uv LV) ∧ Hid (Below w.heap.size w wr))
    case atStart => exact ⟨0, [], 0, [], Nat.zero_add _, rfl, rfl, rfl, Lib.hid (inv1_zero _ _), Lib.hid (OwnV.nil _ _ _), HB⟩
    case round =>
      obtain ⟨j, o, gr, LV, hj, rfl, rfl, rfl, HI, HO, HX⟩ := hrel
      clear HB
      by_cases hlt : j < L
      · obtain ⟨g, rfl⟩ : ∃ g, gk = g + 1 := ⟨gk - 1, by omega⟩
        obtain ⟨p, hp⟩ := getElem?_of_lt (l := l) (k := j) (by rw [hL.out]; exact hlt)
        obtain ⟨q, hLs, hq⟩ := HOP.out j p hp
        have HFM := Lib.hid (HF.out p (List.mem_of_getElem? hp))
        have HP := Lib.hid hp
        obtain ⟨k2, n2, s2, l2⟩ := p
        obtain ⟨x0, x1, x2, x3, x4, x5⟩ := hLs.keep HX.out hblt
        simp only [Nd.k, Nd.n, Nd.s] at x0 x1 x2
        have i0 : (0 : Int) ≤ (j : Int) := by omega
        have i1 : (j : Int) < (L : Int) := by omega
        clear hLs hq hp x3 x4 x5
        rcases HFM.out.cases with ⟨ha, _⟩ | ⟨hk, _⟩ | ⟨hk, _, c, hcs, hcm, hcn, hcl⟩
        · have hk : k2 = 24 ∨ k2 = 4 := by simpa [anyB, Nd.k] using ha
          have HI2 := Lib.hid (inv1_any HI.out HP.out (show k2 ≠ 5 by omega))
          clear ha
          rcases hk with rfl | rfl
          all_goals
            go_wp2_with fail
            go_roundg g
            case rel => exact ⟨j + 1, o, gr, LV, by omega, rfl, rfl, by go_num, HI2, HO, HX⟩
            case measure => omega
        · have hk : k2 = 1 := hk
          subst hk
          have HI2 := Lib.hid (inv1_num HT.out HI.out HP.out rfl n2)
          have HLV := Lib.hid (show LV.length + [Vl.num n2].length ≤ 2000000000000 from by have := HI.out.2.1; simp; omega)
          have HOA := Lib.hid (HO.out.keep (balloc wr (.cells #[.string ⟨#[]⟩, .int .i64 n2, .slice none 0 0] 35)))
          have HBS := Lib.hid (show B0 ≤ (wr.alloc (.cells #[.string ⟨#[]⟩, .int .i64 n2, .slice none 0 0] 35)).heap.size from by have := HX.out.size; have := hB0.out; simp; omega)
          have HXA := Lib.hid (bnext HX.out (balloc wr (.cells #[.string ⟨#[]⟩, .int .i64 n2, .slice none 0 0] 35)))
          have y0 := HX.out.cell (p := ⟨b, off + j * 6, none⟩) hblt
          have y2 := HX.out.cell (p := ⟨b, off + j * 6 + 2, none⟩) hblt
          rw [x0] at y0
          rw [x2] at y2
          have HY0 := Lib.hid y0
          have HY2 := Lib.hid y2
          clear y0 y2
          by_cases hge : gr ≤ n2
          · go_wp2_with (at_builtin; go_loud (refine wpList_vals (wr.alloc (.cells #[.string ⟨#[]⟩, .int .i64 n2, .slice none 0 0] 35)) rfl (.tmp 29) (.tmp 36) rfl B0 (fun b => B0 ≤ b) _ (.slice (some ⟨wr.heap.size, 0, none⟩) 1 1) LV [.num n2] rfl rfl HOA.out (rowV_new (p := .num n2) (num_nil n2) 35) HLV.out HBS.out ?_); intro ao6 m6 cap6 w6 hO6 hn6 hg6; have HO6 := Lib.hid hO6; have HX6 := Lib.hid (HXA.out.trans (bgrown hg6 (fun x hx => by rw [hB0.out]; exact (HO.out.own hx).1) (by rw [hB0.out]; exact HBS.out))); clear hO6 hg6 hn6; have x0b := (HX6.out.cell (p := ⟨b, off + j * 6, none⟩) hblt).trans HY0.out.symm; have x2b := (HX6.out.cell (p := ⟨b, off + j * 6 + 2, none⟩) hblt).trans HY2.out.symm)
            go_roundg g
            case rel => exact ⟨j + 1, o, _, LV ++ [.num n2], by omega, rfl, rfl, by go_num, HI2, HO6, HX6⟩
            case measure => omega
          · go_wp2_with (at_builtin; go_loud (refine wpList_vals (wr.alloc (.cells #[.string ⟨#[]⟩, .int .i64 n2, .slice none 0 0] 35)) rfl (.tmp 29) (.tmp 36) rfl B0 (fun b => B0 ≤ b) _ (.slice (some ⟨wr.heap.size, 0, none⟩) 1 1) LV [.num n2] rfl rfl HOA.out (rowV_new (p := .num n2) (num_nil n2) 35) HLV.out HBS.out ?_); intro ao6 m6 cap6 w6 hO6 hn6 hg6; have HO6 := Lib.hid hO6; have HX6 := Lib.hid (HXA.out.trans (bgrown hg6 (fun x hx => by rw [hB0.out]; exact (HO.out.own hx).1) (by rw [hB0.out]; exact HBS.out))); clear hO6 hg6 hn6; have x0b := (HX6.out.cell (p := ⟨b, off + j * 6, none⟩) hblt).trans HY0.out.symm; have x2b := (HX6.out.cell (p := ⟨b, off + j * 6 + 2, none⟩) hblt).trans HY2.out.symm)
            go_roundg g
            case rel => exact ⟨j + 1, o, gr, LV ++ [.num n2], by omega, rfl, rfl, by go_num, HI2, HO6, HX6⟩
            case measure => omega
        · have hk : k2 = 5 := hk
          subst hk
          have hofk : ofK C8 (.mk 5 n2 s2 l2) = c.of := by
            have hc : conOf C8 s2 = some c := hcs
            show (if (5 : Int) = 5 then ((conOf C8 s2).getD zeroCn).of else []) = _
            rw [if_pos rfl, hc]; rfl
          have HI2 := Lib.hid (show Inv1 C8 l (j + 1) c.of LV from by have := inv1_con HI.out HP.out rfl (by rw [hofk]; exact of8 c hcm); rw [hofk] at this; exact this)
          have HCS := Lib.hid (show conOf C8 s2 = some c from hcs)
          have HFIND := Lib.hid (find_c C8 sound8 s2 (.slice (some ⟨cb, coff, none⟩) 8 ccap) wr (RowC.keep HRC.out HX.out) (by decide) (by decide))
          clear hofk hcs hcm hcn hcl
          go_wp2_with fail
          refine HFIND.out.mono ?_
          rintro e w4 ⟨r, rfl, rfl, hr⟩
          rcases hr with ⟨_, hcn⟩ | ⟨j2, c2, rfl, hcj, hcs2⟩
          · rw [HCS.out] at hcn; cases hcn
          rw [HCS.out] at hcs2
          cases hcs2
          obtain ⟨z0, z1, z2, z3, z4⟩ := HCOP.out j2 c hcj
          have hjn : j2 < 8 := (List.getElem?_eq_some_iff.1 hcj).1
          replace z1 := (HX.out.cell (p := ⟨cb, coff + j2 * 5 + 1, none⟩) hclt).trans z1
          have k0 : (0 : Int) ≤ (j2 : Int) := by omega
          have k1 : (j2 : Int) < 8 := by omega
          clear z0 z2 z3 z4 hcj
          go_wp2_with fail
          go_roundg g
          case rel => exact ⟨j + 1, c.of, gr, LV, by omega, rfl, rfl, by go_num, HI2, HO, HX⟩
          case measure => omega
      · have hjl : l.take j = l := List.take_of_length_le (by rw [hL.out]; omega)
        by_cases ho : o = []
        · subst ho
          have HNO := Lib.hid (show ∀ p, p ∈ l → p.k ≠ 5 from by have := HI.out.2.2.1 rfl; rw [hjl] at this; exact this)
          have HLV := Lib.hid (show LV.length + [Vl.num gr].length ≤ 2000000000000 from by have := HI.out.2.1; simp; omega)
          have HOA := Lib.hid (HO.out.keep (balloc wr (.cells #[.string ⟨#[]⟩, .int .i64 gr, .slice none 0 0] 35)))
          have HBS := Lib.hid (show B0 ≤ (wr.alloc (.cells #[.string ⟨#[]⟩, .int .i64 gr, .slice none 0 0] 35)).heap.size from by have := HX.out.size; have := hB0.out; simp; omega)
          have HXA := Lib.hid (bnext HX.out (balloc wr (.cells #[.string ⟨#[]⟩, .int .i64 gr, .slice none 0 0] 35)))
          clear hjl
          go_wp2_with (at_builtin; go_loud (refine wpList_vals (wr.alloc (.cells #[.string ⟨#[]⟩, .int .i64 gr, .slice none 0 0] 35)) rfl (.tmp 70) (.tmp 73) rfl B0 (fun b => B0 ≤ b) _ (.slice (some ⟨wr.heap.size, 0, none⟩) 1 1) LV [.num gr] rfl rfl HOA.out (rowV_new (p := .num gr) (num_nil gr) 35) HLV.out HBS.out ?_); intro ao6 m6 cap6 w6 hO6 hn6 hg6; have HO6 := Lib.hid hO6; have HX6 := Lib.hid (HXA.out.trans (bgrown hg6 (fun x hx => by rw [hB0.out]; exact (HO.out.own hx).1) (by rw [hB0.out]; exact HBS.out))); clear hO6 hg6 hn6)
          go_ret
          refine ⟨_, LV ++ [.num gr], rfl, by rw [hB0.out]; exact HO6.out.row, by simp, ?_, fun x hx => ?_, HX6.out⟩
          · have h1 := HI.out.2.1
            have h2 := HSG.out.1
            have h3 := HSL.out
            rw [List.length_append]
            simp only [List.length_cons, List.length_nil]
            omega
          · have : ∃ n, x = .num n := by
              rcases List.mem_append.1 hx with hx | hx
              · exact HI.out.1 x hx
              · exact ⟨gr, List.mem_singleton.1 hx⟩
            obtain ⟨n, rfl⟩ := this
            exact typed_num (N + 1) l HNO.out n
        · have hie : o.isEmpty = false := by cases o with | nil => exact absurd rfl ho | cons _ _ => rfl
          have hob : (o == ([] : By)) = false := by simpa using ho
          have HFIVE := Lib.hid (HI.out.2.2.2.1 ho)
          have HNIL := Lib.hid (show LV = [] from HI.out.2.2.2.2 (by obtain ⟨p, hp, hk, _⟩ := HI.out.2.2.2.1 ho; exact ⟨p, hp, hk⟩))
          clear hjl ho
          have HALL := Lib.hid (show (∀ q, q ∈ l → anyB q = false → q.k = 5 ∧ ofK C8 q = o) from by
            obtain ⟨p, hp, hk, ho⟩ := HFIVE.out
            intro q hq ha
            obtain ⟨e1, e2⟩ := tog_kind ha (anyB_five hk) (HT.out q hq p hp)
            exact ⟨by rw [e1, hk], by rw [e2, ho]⟩)
          have HTY := Lib.hid (show tyF C8 (N + 1) l = .con o (fun d i => tyF C8 N (partsAt l d i)) from by
            obtain ⟨p, hp, hk, _⟩ := HFIVE.out
            exact ty_con HALL.out hp hk)
          have HEX := Lib.hid (show ∃ c, c ∈ C8 ∧ c.of = o from by
            obtain ⟨p, hp, hk, ho⟩ := HFIVE.out
            rcases (HF.out p hp).cases with h | h | ⟨_, _, c, hc, hm, hn, _⟩
            · rw [anyB_five hk] at h; cases h.1
            · rw [hk] at h; exact absurd h.1 (by decide)
            · refine ⟨c, hm, ?_⟩
              rw [← ho]; unfold ofK; rw [if_pos hk, hc]; rfl)
          have hsz45 : szL l ≤ 45 := Nat.le_trans HS.out hN
          have HOB := Lib.hid (ob_le hsz45 (List.length_pos_iff.2 hl0) HEX.out)
          have HSB := Lib.hid (fun d => sb_pos hsz45 d)
          have HSM := Lib.hid (fun d (i j : Nat) (h : i ≤ j) => sb_mono hsz45 d h)
          have h2 := HO.out
          rw [HNIL.out] at h2
          have HO2 := Lib.hid h2
          have HX2 := HX
          clear h2 HNIL HI HO HX hsz45 HFIVE
          generalize wr = w1 at HO2 HX2 ⊢
          go_wp2_with fail
          go_loopg [7, 9, 10, 11, 12, 13, 14, 15, 16] 8 (fun g uv cv s10 s11 s12 s13 s14 s15 s16 wr => ∃ (c : Nat) (LV : List Vl), c + g = 8 ∧ cv = .int .i64 (c : Int) ∧ Hid (OwnV wr B0 (fun b => B0 ≤ b) uv LV) ∧ Hid (∀ x, x ∈ LV → Typed C8 (tyF C8 (N + 1) l) x) ∧ Hid (LV.length ≤ obF l o (C8.take c)) ∧ Hid ((∃ d, d ∈ C8.take c ∧ d.of = o) → 1 ≤ LV.length) ∧ Hid (Below w.heap.size w wr))
          case atStart => exact ⟨0, [], Nat.zero_add _, rfl, HO2, Lib.hid (fun x hx => by cases hx), Lib.hid (Nat.zero_le _), Lib.hid (fun ⟨d, hd, _⟩ => by simp at hd), HX2⟩
          case round =>
            obtain ⟨c, LV, hcn, rfl, HO, HTV, HLN, HPOS, HX⟩ := hrel
            clear HO2 HX2
            by_cases hlc : c < 8
            · obtain ⟨g, rfl⟩ : ∃ g, gk = g + 1 := ⟨gk - 1, by omega⟩
              obtain ⟨d, hd⟩ := getElem?_of_lt (l := C8) (k := c) hlc
              have HD := Lib.hid hd
              have hdm := List.mem_of_getElem? hd
              have har : d.ar ≤ 4 := sound8.ar d hdm
              have HDM := Lib.hid hdm
              obtain ⟨z0, z1, z2, z3, z4⟩ := HCOP.out c d hd
              replace z0 := (HX.out.cell (p := ⟨cb, coff + c * 5, none⟩) hclt).trans z0
              replace z1 := (HX.out.cell (p := ⟨cb, coff + c * 5 + 1, none⟩) hclt).trans z1
              have k0 : (0 : Int) ≤ (c : Int) := by omega
              have k1 : (c : Int) < 8 := by omega
              have HOS := Lib.hid (obF_snoc (l := l) (of := o) hd)
              clear hd hdm z2 z3 z4
              have eo := str_eq d.of o
              have en := str_ne d.of o
              cases hof : (d.of == o)
              · rw [hof] at eo en
                have hof2 : (!(d.of == o)) = true := by rw [hof]; rfl
                have HNOF := Lib.hid (show d.of ≠ o from fun h => by rw [h] at hof; simp at hof)
                go_wp2_with fail
                go_roundg g
                case rel =>
                  refine ⟨c + 1, LV, by omega, by go_num, HO, HTV, Lib.hid (by rw [HOS.out, if_neg HNOF.out]; exact HLN.out), Lib.hid ?_, HX⟩
                  rintro ⟨d2, hd2, ho2⟩
                  rw [take_snoc HD.out] at hd2
                  rcases List.mem_append.1 hd2 with hd2 | hd2
                  · exact HPOS.out ⟨d2, hd2, ho2⟩
                  · rw [List.mem_singleton.1 hd2] at ho2; exact absurd ho2 HNOF.out
                case measure => omega
              · rw [hof] at eo en
                have hof2 : (!(d.of == o)) = false := by rw [hof]; rfl
                have HOF := Lib.hid (show d.of = o from by simpa using hof)
                obtain ⟨AR, hAR⟩ : ∃ a, Hid (d.ar = a) := ⟨_, Lib.hid rfl⟩
                rw [hAR.out] at har
                have HSV0 := Lib.hid (rowV_new (w := wr) (S := fun b => wr.heap.size + 1 ≤ b) (p := .con d.nm []) (con_nil d.nm) 35)
                have HX3 := Lib.hid (bnext HX.out (balloc wr (.cells #[.string ⟨d.nm.toArray⟩, .int .i64 0, .slice none 0 0] 35)))
                have HO3 := Lib.hid (HO.out.keep (balloc wr (.cells #[.string ⟨d.nm.toArray⟩, .int .i64 0, .slice none 0 0] 35)))
                have HSZ3 := Lib.hid (show (wr.alloc (.cells #[.string ⟨d.nm.toArray⟩, .int .i64 0, .slice none 0 0] 35)).heap.size = wr.heap.size + 1 from by simp)
                have HOW := Lib.hid (fun b hb => HO.out.own (b := b) hb)
                go_wp2_with fail
                simp only [vnm, vno] at HSV0
                obtain ⟨B3, hB3⟩ : ∃ B, Hid (wr.heap.size + 1 = B) := ⟨_, Lib.hid rfl⟩
                rw [hB3.out] at HSV0 HSZ3
                obtain ⟨P3, hP3⟩ : ∃ B, Hid (wr.heap.size = B) := ⟨_, Lib.hid rfl⟩
                rw [hP3.out] at HSV0 HOW hB3 ⊢
                clear z0 z1 HX HO
                generalize wr.alloc _ = W3 at HSV0 HX3 HO3 HSZ3 ⊢
                go_loopg [10, 11, 12, 13, 14, 15, 16] AR (fun g sv iv s12 s13 s14 s15 s16 wr => ∃ (i : Nat) (M : List Vl), i + g = AR ∧ iv = .int .i64 (i : Int) ∧ Hid (RowV wr (fun b => B3 ≤ b) sv M) ∧ Hid (Qn l N d.nm i M) ∧ Hid (1 ≤ M.length) ∧ Hid (M.length ≤ sbF l d.nm i) ∧ Hid (Below B3 W3 wr))
                case atStart => exact ⟨0, [.con d.nm []], Nat.zero_add _, rfl, HSV0, Lib.hid (qn_zero l N d.nm), Lib.hid (Nat.le_refl 1), Lib.hid (Nat.le_refl _), Lib.hid (Below.refl _ _)⟩
                case round =>
                  obtain ⟨i, M, hin, rfl, HSV, HQ, HM1, HML, HXi⟩ := hrel
                  clear HSV0
                  have HXw := Lib.hid (show Below w.heap.size w wr from bnext HX3.out (by rw [HSZ3.out]; exact HXi.out))
                  obtain ⟨z0, z1, z2, z3, z4⟩ := HCOP.out c d HD.out
                  replace z0 := (HXw.out.cell (p := ⟨cb, coff + c * 5, none⟩) hclt).trans z0
                  replace z3 := (HXw.out.cell (p := ⟨cb, coff + c * 5 + 3, none⟩) hclt).trans z3
                  rw [hAR.out] at z3
                  clear z1 z2 z4
                  by_cases hia : i < AR
                  · obtain ⟨g3, rfl⟩ : ∃ g, gk = g + 1 := ⟨gk - 1, by omega⟩
                    have hia2 : (i : Int) < (AR : Int) := by omega
                    have hi0 : (0 : Int) ≤ (i : Int) := by omega
                    have HC2 := Lib.hid (parts_c l (.slice (some ⟨b, off, none⟩) L cap) d.nm i wr (HRN.out.keep HXw.out) (by rw [hL.out]; omega) (fun p hp h5 hs => by
                      rcases (HF.out p hp).cases with h | h | ⟨_, _, c3, hc3, hm3, hn3, hl3⟩
                      · rw [anyB_five h5] at h; cases h.1
                      · rw [h5] at h; exact absurd h.1 (by decide)
                      · have : c3 = d := sound8.eq hm3 HDM.out (by rw [hn3, hs])
                        rw [hl3, this, hAR.out]; exact hia) (by omega))
                    have HC3 := Lib.hid (fun (w' : World) (v' : Value) (h : Below w.heap.size w w') (hr : RowN w' Any v' (partsAt l d.nm i)) => IH.out (partsAt l d.nm i) v' w' (by have h1 := partsAt_sz d.nm i l; have h2 := HS.out; have h3 : 0 < l.length := List.length_pos_iff.2 hl0; omega) (by have := List.length_filterMap_le (fun p : Nd => if p.k = 5 ∧ p.s = d.nm then p.kids[i]? else none) l; unfold partsAt; rw [hL.out] at this; omega) (fm_parts HF.out d.nm i) (tg_part HF.out HT.out d.nm i) (RowC.keep HRC.out h) hr)
                    go_wp2_with fail
                    refine HC2.out.mono ?_
                    rintro e w5 ⟨v5, rfl, hr5, hb5⟩
                    have HX5 := Lib.hid (bnext HXw.out hb5)
                    have HX5i := Lib.hid (show Below B3 W3 w5 from HXi.out.trans (hb5.mono (by have := HXi.out.size; have := HSZ3.out; omega)))
                    have HR5 := Lib.hid hr5
                    have HSV5 := Lib.hid (HSV.out.keep hb5)
                    clear hb5 hr5 HC2
                    go_wp2_with fail
                    refine (HC3.out _ _ HX5.out HR5.out).mono ?_
                    rintro e w6 ⟨v6, vs, rfl, hr6, hv1, hv2, hv3, hb6⟩
                    have HX6 := Lib.hid (bnext HX5.out hb6)
                    have HX6i := Lib.hid (show Below B3 W3 w6 from HX5i.out.trans (hb6.mono (by have := HX5i.out.size; have := HSZ3.out; omega)))
                    obtain ⟨B4, hB4⟩ : ∃ B, Hid (w6.heap.size = B) := ⟨_, Lib.hid rfl⟩
                    have hB34 : B3 ≤ B4 := by have := HX6i.out.size; have := HSZ3.out; have := hB4.out; omega
                    have HSV6 := Lib.hid (show RowV w6 (fun b => B3 ≤ b ∧ b < B4) _ M from (HSV5.out.keep hb6).weak fun b h hlt => ⟨h, by rw [← hB4.out]; exact hlt⟩)
                    have HOV6 := Lib.hid (show RowV w6 (fun b => B3 ≤ b ∧ b < B4) v6 vs from hr6.weak fun b h hlt => ⟨by have h : w5.heap.size ≤ b := h; have := HX5i.out.size; have := HSZ3.out; omega, by rw [← hB4.out]; exact hlt⟩)
                    have HV3 := Lib.hid hv3
                    obtain ⟨b3, off3, cap3, hsv, _, hb3, hop3⟩ := HSV6.out.open_ (by intro e; have := HM1.out; rw [e] at this; simp at this)
                    obtain ⟨b4, off4, cap4, hov, _, hb4, hop4⟩ := HOV6.out.open_ (by intro e; rw [e] at hv1; simp at hv1)
                    subst hsv
                    subst hov
                    rw [hB4.out] at hb3 hb4
                    have HOP3 := Lib.hid hop3
                    have HOP4 := Lib.hid hop4
                    obtain ⟨K, hK⟩ : ∃ K, Hid (M.length = K) := ⟨_, Lib.hid rfl⟩
                    obtain ⟨J, hJ⟩ : ∃ J, Hid (vs.length = J) := ⟨_, Lib.hid rfl⟩
                    have HKJ := Lib.hid (show K * J ≤ sbF l d.nm (i + 1) from by
                      rw [← hK.out, ← hJ.out]; exact Nat.mul_le_mul HML.out hv2)
                    have HKB := Lib.hid (show K * J ≤ 400000000000 from by
                      have h1 := HSM.out d.nm (i + 1) d.ar (by rw [hAR.out]; omega)
                      have h2 := ob_mem (l := l) HDM.out HOF.out
                      have h3 := HOB.out
                      have h4 := HSG.out.2
                      have h5 := HKJ.out
                      omega)
                    have HJ1 := Lib.hid (show 1 ≤ J by rw [← hJ.out]; exact hv1)
                    have hKb : K ≤ 400000000000 := Nat.le_trans (Nat.le_mul_of_pos_right K HJ1.out) HKB.out
                    have hJb : J ≤ 400000000000 := Nat.le_trans (Nat.le_mul_of_pos_left J (by rw [← hK.out]; exact HM1.out)) HKB.out
                    rw [hK.out] at HSV6 ⊢
                    rw [hJ.out] at HOV6 ⊢
                    have HXB := Lib.hid (Below.refl B4 w6)
                    have HM0 := Lib.hid (OwnV.nil w6 B4 (fun b => B3 ≤ b))
                    clear hb6 hr6 hv1 hv2 hv3 hop3 hop4 HC3 z0 z3 HSV HSV5 HOV6 HSV6 HR5 HX5 HX5i HXi HXw
                    go_wp2_with fail
                    go_loopg [13, 14, 15, 16] K (fun g mv av s15 s16 wr => ∃ (a : Nat) (M2 : List Vl), a + g = K ∧ av = .int .i64 (a : Int) ∧ Hid (OwnV wr B4 (fun b => B3 ≤ b) mv M2) ∧ Hid (Qn l N d.nm (i + 1) M2) ∧ Hid (M2.length = a * J) ∧ Hid (Below B4 w6 wr))
                    case atStart => exact ⟨0, [], Nat.zero_add _, rfl, HM0, Lib.hid (fun x hx => by cases hx), Lib.hid (by simp), HXB⟩
                    case round =>
                      obtain ⟨a, M2, han, rfl, HM, HQ2, HL2, HXa⟩ := hrel
                      clear HM0 HXB
                      by_cases hak : a < K
                      · obtain ⟨g4, rfl⟩ : ∃ g, gk = g + 1 := ⟨gk - 1, by omega⟩
                        have ha0 : (0 : Int) ≤ (a : Int) := by omega
                        have ha1 : (a : Int) < (K : Int) := by omega
                        obtain ⟨x, hx⟩ := getElem?_of_lt (l := M) (k := a) (by rw [hK.out]; exact hak)
                        obtain ⟨ps, rfl, hps⟩ := HQ.out x (List.mem_of_getElem? hx)
                        obtain ⟨q3, hL3, hV3⟩ := HOP3.out a _ hx
                        obtain ⟨q3x, q3y, q3z, rfl⟩ := hV3.val
                        have HL3 := Lib.hid hL3
                        have HV3' := Lib.hid (hasV_row hV3)
                        have HPS := Lib.hid hps
                        have HAJ := Lib.hid (show a * J + J ≤ K * J from by have := Nat.mul_le_mul_right J (show a + 1 ≤ K from hak); rw [Nat.succ_mul] at this; exact this)
                        have HPL := Lib.hid (show ps.length ≤ 4 from by rw [hps.1]; omega)
                        clear hx hps hL3 hV3
                        go_wp2_with fail
                        go_loopg [13, 15, 16] J (fun g mv bv s16 wr => ∃ (y : Nat) (M2 : List Vl), y + g = J ∧ bv = .int .i64 (y : Int) ∧ Hid (OwnV wr B4 (fun b => B3 ≤ b) mv M2) ∧ Hid (Qn l N d.nm (i + 1) M2) ∧ Hid (M2.length = a * J + y) ∧ Hid (Below B4 w6 wr))
                        case atStart => exact ⟨0, M2, Nat.zero_add _, rfl, HM, HQ2, HL2, HXa⟩
                        case round =>
                          clear HM HQ2 HL2 HXa
                          obtain ⟨y, M2, hyn, rfl, HM, HQ2, HL2, HXy⟩ := hrel
                          by_cases hyj : y < J
                          · obtain ⟨g5, rfl⟩ : ∃ g, gk = g + 1 := ⟨gk - 1, by omega⟩
                            have hy0 : (0 : Int) ≤ (y : Int) := by omega
                            have hy1 : (y : Int) < (J : Int) := by omega
                            obtain ⟨P, hP⟩ : ∃ P, Hid (wr.heap.size = P) := ⟨_, Lib.hid rfl⟩
                            have hBP : B4 ≤ P := by have := HXy.out.size; have := hB4.out; have := hP.out; omega
                            obtain ⟨z, hz⟩ := getElem?_of_lt (l := vs) (k := y) (by rw [hJ.out]; exact hyj)
                            have HTZ := Lib.hid (HV3.out z (List.mem_of_getElem? hz))
                            obtain ⟨q4, hL4, hV4⟩ := HOP4.out y z hz
                            obtain ⟨q4x, q4y, q4z, rfl⟩ := hV4.val
                            obtain ⟨c0, c1, c2⟩ := HL3.out.keep HXy.out hb3
                            obtain ⟨e0, e1, e2⟩ := hL4.keep HXy.out hb4
                            simp only [vnm, vno, vps] at c0 c1 c2
                            have HE := Lib.hid (And.intro e0 (And.intro e1 e2))
                            have HV4 := Lib.hid (hV4.mv ⟨HXy.out.size, fun b h hlt => ⟨h, HXy.out.block b (by have := h.2; omega)⟩⟩)
                            have HR3 := Lib.hid (show RowV wr (fun b => B3 ≤ b ∧ b < B4) (.slice q3x q3y q3z) ps from RowV.keep HV3'.out (by rw [hB4.out]; exact HXy.out))
                            have B1 := Lib.hid (Bk.new wr #[.string ⟨d.nm.toArray⟩, .int .i64 0, .slice none 0 0] 35)
                            have HBA := Lib.hid (balloc wr (.cells #[.string ⟨d.nm.toArray⟩, .int .i64 0, .slice none 0 0] 35))
                            have HSZA := Lib.hid (show (wr.alloc (.cells #[.string ⟨d.nm.toArray⟩, .int .i64 0, .slice none 0 0] 35)).heap.size = P + 1 from by simp [hP.out])
                            have HMW := Lib.hid (fun b hb => HM.out.own (b := b) hb)
                            clear hz hL4 hV4 e0 e1 e2
                            go_wp2_with fail
                            rw [hP.out] at B1 HMW ⊢
                            clear c0 c1
                            generalize wr.alloc _ = W1 at B1 HBA HSZA ⊢
                            have hbP3 : b3 < wr.heap.size := by have := hP.out; omega
                            have hbP4 : b4 < wr.heap.size := by have := hP.out; omega
                            replace c2 := (HBA.out.cell (p := ⟨b3, off3 + a * 3 + 2, none⟩) hbP3).trans c2
                            have p2 := B1.out.cell 2 _ rfl
                            have HR3d := Lib.hid (show RowV W1.drew (fun b => (B3 ≤ b ∧ b < B4) ∧ (Value.slice none 0 0).ownBlock ≠ some b) (.slice q3x q3y q3z) ps from ((HR3.out.keep HBA.out).keep (bdr W1)).weak fun b h _ => ⟨h, by simp [Value.ownBlock]⟩)
                            have HPL2 := Lib.hid (show ([] : List Vl).length + ps.length ≤ 2000000000000 from by have := HPL.out; simp; omega)
                            have HPW := Lib.hid (show P + 1 ≤ W1.drew.heap.size from by show P + 1 ≤ W1.heap.size; rw [HSZA.out]; exact Nat.le_refl _)
                            have HBW1 := Lib.hid (show Below P wr W1.drew from (HBA.out.mono (by rw [hP.out]; exact Nat.le_refl _)).trans ((bdr W1).mono (by rw [HSZA.out]; omega)))
                            go_region_law (first | (refine step_vals _ rfl (.tmp 133) (.tmp 138) rfl (P + 1) (fun b => B3 ≤ b ∧ b < B4) (.slice none 0 0) (.slice q3x q3y q3z) [] ps (by simp [Act.eval, Act.put]) (by simp [Act.eval, Act.put]) (OwnV.nil _ _ _) HR3d.out HPL2.out HPW.out ?_; intro ao8 n8 cap8 w8 hO8 hn8 hg8; have HO8 := Lib.hid hO8; have B8 := Lib.hid (Bk.grown B1.out.drew hg8 (by simp [Value.ownBlock])); have HX8 := Lib.hid (HBW1.out.trans (bgrown hg8 (fun b hb => by simp [Value.ownBlock] at hb) (Nat.le_trans (Nat.le_succ P) HPW.out))); have f8 := B8.out.free 2; have r8 := B8.out.cell 2 _ rfl; have l8 := B8.out.lt; clear hO8 hn8 hg8))
                            all_goals
                              have HX2 := Lib.hid (HX8.out.setCell (p := ⟨P, 2, none⟩) (Nat.le_refl _) (.slice ao8 n8 cap8))
                              have B2 := Lib.hid (show Bk (w8.setCell ⟨P, 2, none⟩ (.slice ao8 n8 cap8)) P #[.string ⟨d.nm.toArray⟩, .int .i64 0, .slice ao8 n8 cap8] 35 from B8.out.set 2 _)
                              have HO2 := Lib.hid (show OwnV (w8.setCell ⟨P, 2, none⟩ (.slice ao8 n8 cap8)) (P + 1) (fun b => B3 ≤ b ∧ b < B4) (.slice ao8 n8 cap8) ps from HO8.out.other (b' := P) (fun b h => by have := h.2; omega) (Nat.lt_succ_self P) 2 (.slice ao8 n8 cap8))
                              clear f8 r8 l8 HO8 B8 HX8 HR3d HR3 HBW1 HPW c2 p2 B1 HBA HSZA
                              generalize World.setCell w8 _ _ = W2 at HX2 B2 HO2 ⊢
                              go_wp2_with fail
                              have hP4 : b4 < P := by omega
                              have p2 := B2.out.cell 2 _ rfl
                              have l2 := B2.out.lt
                              have e0 := (HX2.out.cell (p := ⟨b4, off4 + y * 3, none⟩) hP4).trans HE.out.1
                              have e1 := (HX2.out.cell (p := ⟨b4, off4 + y * 3 + 1, none⟩) hP4).trans HE.out.2.1
                              have e2 := (HX2.out.cell (p := ⟨b4, off4 + y * 3 + 2, none⟩) hP4).trans HE.out.2.2
                              have HV5 := Lib.hid (show HasV W2.drew (fun b => (B3 ≤ b ∧ b < B4) ∧ (Value.slice ao8 n8 cap8).ownBlock ≠ some b) z (.slice q4x q4y q4z) from HasV.mv (w' := W2.drew) (S' := fun b => (B3 ≤ b ∧ b < B4) ∧ (Value.slice ao8 n8 cap8).ownBlock ≠ some b) ⟨HX2.out.size, fun b h hlt => ⟨⟨h, fun e => by have := (HO2.out.own e).1; have := h.2; omega⟩, HX2.out.block b (by have := h.2; omega)⟩⟩ _ _ HV4.out)
                              have HR5 := Lib.hid (rowV_new HV5.out 35)
                              have HO2a := Lib.hid ((HO2.out.keep (bdr W2)).keep (balloc W2.drew (.cells #[.string ⟨(vnm z).toArray⟩, .int .i64 (vno z), .slice q4x q4y q4z] 35)))
                              have B2a := Lib.hid (B2.out.drew.alloc (.cells #[.string ⟨(vnm z).toArray⟩, .int .i64 (vno z), .slice q4x q4y q4z] 35))
                              have HX2a := Lib.hid (show Below P wr (W2.drew.alloc (.cells #[.string ⟨(vnm z).toArray⟩, .int .i64 (vno z), .slice q4x q4y q4z] 35)) from HX2.out.trans (((bdr W2).trans (balloc W2.drew _)).mono (Nat.le_of_lt l2)))
                              have HL5 := Lib.hid (show ps.length + [z].length ≤ 2000000000000 from by have := HPL.out; simp; omega)
                              have HBS5 := Lib.hid (show P + 1 ≤ (W2.drew.alloc (.cells #[.string ⟨(vnm z).toArray⟩, .int .i64 (vno z), .slice q4x q4y q4z] 35)).heap.size from by simp; omega)
                              have HOW2 := Lib.hid (fun b hb => HO2.out.own (b := b) hb)
                              go_region_law (first | (refine step_vals (W2.drew.alloc (.cells #[.string ⟨(vnm z).toArray⟩, .int .i64 (vno z), .slice q4x q4y q4z] 35)) rfl (.tmp 142) (.tmp 147) rfl (P + 1) (fun b => B3 ≤ b ∧ b < B4) (.slice ao8 n8 cap8) (.slice (some ⟨W2.drew.heap.size, 0, none⟩) 1 1) ps [z] (by rfl) (by rfl) HO2a.out HR5.out HL5.out HBS5.out ?_; intro ao9 n9 cap9 w9 hO9 hn9 hg9; have HO9 := Lib.hid hO9; have B9 := Lib.hid (Bk.grown B2a.out hg9 (fun e => by have := (HOW2.out P e).1; omega)); have HX9 := Lib.hid (HX2a.out.trans (bgrown hg9 (fun b hb => by have := (HOW2.out b hb).1; omega) (Nat.le_trans (Nat.le_succ P) HBS5.out))); have f9 := B9.out.free 2; have r9 := B9.out.cell 2 _ rfl; have l9 := B9.out.lt; clear hO9 hn9 hg9))
                              all_goals
                                have HX3w := Lib.hid (HX9.out.setCell (p := ⟨P, 2, none⟩) (Nat.le_refl _) (.slice ao9 n9 cap9))
                                have BK3 := Lib.hid (show Bk (w9.setCell ⟨P, 2, none⟩ (.slice ao9 n9 cap9)) P #[.string ⟨d.nm.toArray⟩, .int .i64 0, .slice ao9 n9 cap9] 35 from B9.out.set 2 _)
                                have HO3w := Lib.hid (show OwnV (w9.setCell ⟨P, 2, none⟩ (.slice ao9 n9 cap9)) (P + 1) (fun b => B3 ≤ b ∧ b < B4) (.slice ao9 n9 cap9) (ps ++ [z]) from HO9.out.other (b' := P) (fun b h => by have := h.2; omega) (Nat.lt_succ_self P) 2 (.slice ao9 n9 cap9))
                                clear f9 r9 l9 HO9 B9 HX9 HOW2 HBS5 HL5 HX2a B2a HO2a HR5 HV5 e0 e1 e2 p2 l2 HX2 B2 HO2
                                generalize World.setCell w9 _ _ = W4 at HX3w BK3 HO3w ⊢
                                have q0 := BK3.out.cell 0 _ rfl
                                have q1 := BK3.out.cell 1 _ rfl
                                have q2 := BK3.out.cell 2 _ rfl
                                have l4 := BK3.out.lt
                                have HMk := Lib.hid ((HM.out.keep (by rw [hP.out]; exact HX3w.out)).keep (balloc W4 (.cells #[.string ⟨d.nm.toArray⟩, .int .i64 0, .slice ao9 n9 cap9] 35)))
                                have HVN := Lib.hid (rowV_new (p := .con d.nm (ps ++ [z])) (HO3w.out.hasV (S := fun b => B3 ≤ b ∧ u13.ownBlock ≠ some b) d.nm (fun b h => ⟨by omega, fun e => by have := (HMW.out b e).2; omega⟩) (fun b h => ⟨h.1, fun e => by have := (HMW.out b e).1; have := h.2; omega⟩)) 35)
                                have HLM := Lib.hid (show M2.length + [Vl.con d.nm (ps ++ [z])].length ≤ 2000000000000 from by have h1 := HL2.out; have h2 := HAJ.out; have h3 := HKB.out; simp only [List.length_cons, List.length_nil]; omega)
                                have HBM := Lib.hid (show B4 ≤ (W4.alloc (.cells #[.string ⟨d.nm.toArray⟩, .int .i64 0, .slice ao9 n9 cap9] 35)).heap.size from by simp; omega)
                                have HXE := Lib.hid (show Below B4 w6 (W4.alloc (.cells #[.string ⟨d.nm.toArray⟩, .int .i64 0, .slice ao9 n9 cap9] 35)) from (HXy.out.trans (HX3w.out.mono hBP)).trans ((balloc W4 _).mono (by omega)))
                                go_wp2_with (at_builtin; go_loud (refine wpList_vals (W4.alloc (.cells #[.string ⟨d.nm.toArray⟩, .int .i64 0, .slice ao9 n9 cap9] 35)) rfl (.tmp 150) (.tmp 152) rfl B4 (fun b => B3 ≤ b) _ (.slice (some ⟨W4.heap.size, 0, none⟩) 1 1) M2 [.con d.nm (ps ++ [z])] rfl rfl HMk.out HVN.out HLM.out HBM.out ?_); intro ao10 n10 cap10 w10 hO10 hn10 hg10; clear hn10; have HO10 := Lib.hid hO10; have HXF := Lib.hid (HXE.out.trans (bgrown hg10 (fun b hb => (HMW.out b hb).1) HBM.out)); clear hO10 hg10)
                                go_roundg g5
                                case rel => exact ⟨y + 1, M2 ++ [.con d.nm (ps ++ [z])], by omega, by go_num, HO10, Lib.hid (qn_snoc HQ2.out HPS.out HTZ.out), Lib.hid (by rw [List.length_append, HL2.out]; rfl), HXF⟩
                                case measure => omega
                          · have hyJ : y = J := by omega
                            go_wp2_with fail
                            go_roundg g4
                            case rel => exact ⟨a + 1, M2, by omega, by go_num, HM, HQ2, Lib.hid (by rw [HL2.out, hyJ, Nat.succ_mul]), HXy⟩
                            case measure => omega
                      · have haK : a = K := by omega
                        go_wp2_with fail
                        go_roundg g3
                        case rel =>
                          refine ⟨i + 1, M2, by omega, by go_num, Lib.hid HM.out.row, HQ2, Lib.hid ?_, Lib.hid ?_, Lib.hid (HX6i.out.trans (HXa.out.mono hB34))⟩
                          · rw [HL2.out, haK]
                            have h1 : 1 ≤ K := by rw [← hK.out]; exact HM1.out
                            exact Nat.mul_pos h1 HJ1.out
                          · rw [HL2.out, haK]; exact HKJ.out
                        case measure => omega
                  · have hiA : i = AR := by omega
                    subst hiA
                    have hia3 : ¬ ((i : Int) < (i : Int)) := by omega
                    have HSRC := Lib.hid (HSV.out.weak (S' := fun b => B0 ≤ b ∧ u7.ownBlock ≠ some b) (fun b h _ => ⟨by have h : B3 ≤ b := h; have := HX3.out.size; have := HSZ3.out; have := hB0.out; omega, fun e => by have h : B3 ≤ b := h; have := (HOW.out b e).2; have := hB3.out; omega⟩))
                    have HOK := Lib.hid (HO3.out.keep (by rw [HSZ3.out]; exact HXi.out))
                    have HLK := Lib.hid (show LV.length + M.length ≤ 2000000000000 from by
                      have h1 := HLN.out
                      have h2 := obF_take l o C8 c
                      have h3 := HOB.out
                      have h4 := HSG.out.2
                      have h5 := HML.out
                      have h6 := ob_mem (l := l) HDM.out HOF.out
                      rw [hAR.out] at h6
                      omega)
                    have HBK := Lib.hid (show B0 ≤ wr.heap.size from by have := HXw.out.size; have := hB0.out; omega)
                    go_wp2_with (at_builtin; go_loud (refine wpList_vals wr rfl (.tmp 155) (.tmp 156) rfl B0 (fun b => B0 ≤ b) _ _ LV M rfl rfl HOK.out HSRC.out HLK.out HBK.out ?_); intro ao10 n10 cap10 w10 hO10 hn10 hg10; clear hn10; have HO10 := Lib.hid hO10; have HXF := Lib.hid (HXw.out.trans (bgrown hg10 (fun b hb => by rw [hB0.out]; exact (HOW.out b hb).1) HXw.out.size)); clear hO10 hg10)
                    go_roundg g
                    case rel =>
                      refine ⟨c + 1, LV ++ M, by omega, by go_num, HO10, Lib.hid fun x hx => ?_, Lib.hid ?_, Lib.hid fun _ => ?_, HXF⟩
                      · rcases List.mem_append.1 hx with hx | hx
                        · exact HTV.out x hx
                        · rw [HTY.out]; exact qn_typed HDM.out HOF.out (by rw [hAR.out]; exact HQ.out) x hx
                      · rw [HOS.out, if_pos HOF.out, List.length_append, hAR.out]
                        exact Nat.add_le_add HLN.out HML.out
                      · rw [List.length_append]; have := HM1.out; omega
                    case measure => omega
            · have hc8 : c = 8 := by omega
              subst hc8
              have e8 : C8.take 8 = C8 := List.take_of_length_le (by decide)
              go_wp2_with fail
              go_ret
              refine ⟨_, LV, rfl, by rw [hB0.out]; exact HO.out.row, HPOS.out (by rw [e8]; exact HEX.out), ?_, HTV.out, HX.out⟩
              have h1 := HLN.out
              have h2 := HOB.out
              rw [e8] at h1
              omega
end Go.Proofs.Ytommaomhiaaphaa.DT
