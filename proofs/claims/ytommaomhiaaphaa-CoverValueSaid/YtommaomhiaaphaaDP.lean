/- Whether patterns go together, by the document: plainly, and the walk. -/
import Derived.Test.YtommaomhiaaphaaDN
namespace Go.Proofs.Ytommaomhiaaphaa.DP
open Go.RowKit Go.Proofs.Ytommaomhiaaphaa.CA Go.Proofs.Ytommaomhiaaphaa.CB Go.Proofs.Ytommaomhiaaphaa.CC Go.Proofs.Ytommaomhiaaphaa.CD Go.Proofs.Ytommaomhiaaphaa.CE Go.Proofs.Ytommaomhiaaphaa.CF Go.Proofs.Ytommaomhiaaphaa.CG Go.Proofs.Ytommaomhiaaphaa.CH Go.Proofs.Ytommaomhiaaphaa.CK Go.Proofs.Ytommaomhiaaphaa.CI Go.Proofs.Ytommaomhiaaphaa.CO Go.Proofs.Ytommaomhiaaphaa.CU Go.Proofs.Ytommaomhiaaphaa.DE Go.Proofs.Ytommaomhiaaphaa.DF Go.Proofs.Ytommaomhiaaphaa.DI Go.Proofs.Ytommaomhiaaphaa.DL Go.Proofs.Ytommaomhiaaphaa.DM Go.Proofs.Ytommaomhiaaphaa.DN
open Go.Proofs.Ytommaomhiaaphaa.CS (str_ne)
open Go.Proofs.Ytommaomhiaaphaa.DA (RowC.keep)
set_option linter.unusedVariables false
set_option maxRecDepth 100000

/-! ## What is not any is of one kind, and type -/
def Inv (C : List Cn) (L : List Nd) (kd : Int) (of : By) : Prop :=
  (kd = 0 ∧ of = [] ∧ ∀ p, p ∈ L → anyB p = true) ∨ ((kd = 1 ∨ kd = 5) ∧ (∃ p0, p0 ∈ L ∧ anyB p0 = false ∧ p0.k = kd ∧ ofK C p0 = of) ∧ ∀ p, p ∈ L → anyB p = false → p.k = kd ∧ ofK C p = of)
theorem inv_nil (C : List Cn) : Inv C [] 0 [] := .inl ⟨rfl, rfl, fun p hp => by cases hp⟩
theorem inv_any {C : List Cn} {L : List Nd} {kd : Int} {of : By} {p : Nd} (h : Inv C L kd of) (ha : anyB p = true) : Inv C (L ++ [p]) kd of := by
  rcases h with ⟨h1, h2, h3⟩ | ⟨h1, ⟨p0, h2, h4⟩, h3⟩
  · refine .inl ⟨h1, h2, fun q hq => ?_⟩
    rcases List.mem_append.1 hq with hq | hq
    · exact h3 q hq
    · rw [List.mem_singleton.1 hq]; exact ha
  · refine .inr ⟨h1, ⟨p0, List.mem_append_left _ h2, h4⟩, fun q hq hn => ?_⟩
    rcases List.mem_append.1 hq with hq | hq
    · exact h3 q hq hn
    · rw [List.mem_singleton.1 hq, ha] at hn; cases hn
theorem inv_first {C : List Cn} {L : List Nd} {of : By} {p : Nd} (h : Inv C L 0 of) (ha : anyB p = false) (hk : p.k = 1 ∨ p.k = 5) : Inv C (L ++ [p]) p.k (ofK C p) := by
  rcases h with ⟨h1, h2, h3⟩ | ⟨h1, _⟩
  · refine .inr ⟨hk, ⟨p, by simp, ha, rfl, rfl⟩, fun q hq hn => ?_⟩
    rcases List.mem_append.1 hq with hq | hq
    · rw [h3 q hq] at hn; cases hn
    · rw [List.mem_singleton.1 hq]; exact ⟨rfl, rfl⟩
  · rcases h1 with h1 | h1 <;> cases h1
theorem inv_same {C : List Cn} {L : List Nd} {kd : Int} {of : By} {p : Nd} (h : Inv C L kd of) (h0 : kd ≠ 0) (ha : anyB p = false) (hk : p.k = kd) (ho : ofK C p = of) : Inv C (L ++ [p]) kd of := by
  rcases h with ⟨h1, _⟩ | ⟨h1, ⟨p0, h2, h4⟩, h3⟩
  · exact absurd h1 h0
  · refine .inr ⟨h1, ⟨p0, List.mem_append_left _ h2, h4⟩, fun q hq hn => ?_⟩
    rcases List.mem_append.1 hq with hq | hq
    · exact h3 q hq hn
    · rw [List.mem_singleton.1 hq]; exact ⟨hk, ho⟩
theorem inv_clash {C : List Cn} {l : List Nd} {j : Nat} {kd : Int} {of : By} {p : Nd} (h : Inv C (l.take j) kd of) (h0 : kd ≠ 0) (hp : p ∈ l) (ha : anyB p = false) (hne : p.k ≠ kd ∨ ofK C p ≠ of) : ¬ Tg C l := by
  intro ht
  rcases h with ⟨h1, _⟩ | ⟨h1, ⟨p0, h2, h4, h5, h6⟩, h3⟩
  · exact absurd h1 h0
  · obtain ⟨e1, e2⟩ := tog_kind ha h4 (ht p hp p0 (List.mem_of_mem_take h2))
    rcases hne with hne | hne
    · exact hne (by rw [e1, h5])
    · exact hne (by rw [e2, h6])
theorem inv_done {C : List Cn} {l : List Nd} {kd : Int} {of : By} (h : Inv C l kd of) (h5 : kd ≠ 5) : Tg C l := by
  intro p hp q hq
  rcases h with ⟨h1, _, h3⟩ | ⟨h1, _, h3⟩
  · exact tog_any' (.inl (h3 p hp))
  · have h1 : kd = 1 := h1.resolve_right h5
    subst h1
    cases ha : anyB p with
    | true => exact tog_any' (.inl ha)
    | false => cases hb : anyB q with
      | true => exact tog_any' (.inr hb)
      | false => exact tog_one (h3 p hp ha).1 (h3 q hq hb).1
theorem inv_five {C : List Cn} {l : List Nd} {of : By} (h : Inv C l 5 of) : (∀ p, p ∈ l → anyB p = false → p.k = 5 ∧ ofK C p = of) ∧ l ≠ [] := by
  rcases h with ⟨h1, _⟩ | ⟨_, ⟨p0, h2, _⟩, h3⟩
  · cases h1
  · exact ⟨h3, List.ne_nil_of_mem h2⟩
theorem inv_kd {C : List Cn} {l : List Nd} {kd : Int} {of : By} (h : Inv C l kd of) : kd = 0 ∨ kd = 1 ∨ kd = 5 := by
  rcases h with ⟨h1, _⟩ | ⟨h1, _⟩
  · exact .inl h1
  · exact .inr h1
theorem tg_nil (C : List Cn) : Tg C [] := fun p hp => by cases hp
/-- What a pattern that is not any is. -/
theorem fm_not {C : List Cn} {k n : Int} {s : By} {l : List Nd} (h : Fm C (.mk k n s l)) (ha : anyB (.mk k n s l) = false) : (k = 1 ∧ ofK C (.mk k n s l) = []) ∨ (k = 5 ∧ ∃ c, conOf C s = some c ∧ c ∈ C ∧ c.nm = s ∧ ofK C (.mk k n s l) = c.of ∧ l.length = c.ar) := by
  rcases h.cases with h | h | ⟨h5, _, c, hc, hm, hn, hl⟩
  · rw [h.1] at ha; cases ha
  · left
    have hk : k = 1 := h.1
    subst hk
    exact ⟨rfl, rfl⟩
  · right
    have hk : k = 5 := h5
    subst hk
    refine ⟨rfl, c, hc, hm, hn, ?_, hl⟩
    show (if (5 : Int) = 5 then _ else _) = _
    rw [if_pos rfl]
    show ((conOf C s).getD zeroCn).of = c.of
    have hc : conOf C s = some c := hc
    rw [hc]; rfl
def TgRes (C : List Cn) (l : List Nd) (w : World) (e : Ending) (w' : World) : Prop := ∃ b : Bool, e = .returned (.bool b) ∧ (b = true ↔ Tg C l) ∧ Below w.heap.size w w'
theorem ar_le (C : List Cn) (Sd : Sound C) {c : Cn} (h : c ∈ C) : c.ar ≤ 4 := Sd.ar c h
set_option maxHeartbeats 8000000 in
theorem rtog_c (C : List Cn) (Sd : Sound C) (h0 : C ≠ []) (hC : C.length ≤ 1000) (cvv : Value) : ∀ (N : Nat) (l : List Nd) (v : Value) (w : World), szL l ≤ N → l.length ≤ 1000 → (∀ p, p ∈ l → Fm C p) → RowC w cvv C → RowN w Any v l →
    Calls Try.prog 27 #[cvv, v] w (TgRes C l w) := by
  intro N
  induction N with
  | zero =>
    intro l v w hs hll hf hc hv
    have hl : l = [] := by cases l with
      | nil => rfl
      | cons p l => have := sz_eq p; simp only [szL] at hs; omega
    subst hl
    obtain ⟨ao, cap, rfl, _⟩ := hv.val
    go_enter Try.func27, Try.ntmps27
    go_wp2_with fail
    refine wp_loop_rounds 1 ?_
    rw [rounds_succ]
    go_wp2_with fail
    go_ret
    exact ⟨true, rfl, by simp [tg_nil], Below.refl _ _⟩
  | succ N ih =>
    intro l v w hs hll hf hc hv
    by_cases hl0 : l = []
    · exact ih l v w (by rw [hl0]; exact Nat.zero_le _) hll hf hc hv
    have IH := Lib.hid ih
    clear ih
    have HRN := Lib.hid hv
    have HRC := Lib.hid hc
    have HF := Lib.hid hf
    have HS := Lib.hid hs
    obtain ⟨b, off, cap, rfl, hcap, hblt, hop⟩ := hv.open_ hl0
    obtain ⟨cb, coff, ccap, rfl, hccap, hclt, hcop⟩ := hc.open_ h0
    have HOP := Lib.hid hop
    have HCOP := Lib.hid hcop
    obtain ⟨L, hL⟩ : ∃ L, Hid (l.length = L) := ⟨_, Lib.hid rfl⟩
    obtain ⟨NC, hNC⟩ : ∃ NC, Hid (C.length = NC) := ⟨_, Lib.hid rfl⟩
    rw [hL.out] at hll hcap HRN ⊢
    rw [hNC.out] at HRC hccap hC IH ⊢
    clear hv hc hf hs hop hcop
    go_enter Try.func27, Try.ntmps27
    go_wp2_with fail
    have HB := Lib.hid (Below.refl w.heap.size w)
    go_loopg [5, 6, 7, 8] L (fun g kv ov iv nv wr => ∃ (j : Nat) (kd : Int) (of : By), j + g = L ∧ kv = .int .i64 kd ∧ ov = .string ⟨of.toArray⟩ ∧ iv = .int .i64 (j : Int) ∧ Hid (Inv C (l.take j) kd of) ∧ Hid (Below w.heap.size w wr))
    case atStart => exact ⟨0, 0, [], Nat.zero_add _, rfl, rfl, rfl, Lib.hid (inv_nil C), HB⟩
    case round =>
      obtain ⟨j, kd, of, hj, rfl, rfl, rfl, HI, HX⟩ := hrel
      clear HB
      by_cases hlt : j < L
      · obtain ⟨g, rfl⟩ : ∃ g, gk = g + 1 := ⟨gk - 1, by omega⟩
        obtain ⟨p, hp⟩ := getElem?_of_lt (l := l) (k := j) (by rw [hL.out]; exact hlt)
        obtain ⟨q, hLs, hq⟩ := HOP.out j p hp
        have hfm := HF.out p (List.mem_of_getElem? hp)
        have HMEM := Lib.hid (List.mem_of_getElem? hp)
        have HTK := Lib.hid (show l.take (j + 1) = l.take j ++ [p] from by rw [List.take_add_one, hp]; rfl)
        obtain ⟨k2, n2, s2, l2⟩ := p
        obtain ⟨x0, x1, x2, x3, x4, x5⟩ := hLs.keep HX.out hblt
        simp only [Nd.k, Nd.n, Nd.s] at x0 x1 x2
        have C0 := fun w => loose_c k2 n2 s2 l2 q w
        have i0 : (0 : Int) ≤ (j : Int) := by omega
        have i1 : (j : Int) < (L : Int) := by omega
        have HFM := Lib.hid hfm
        clear hLs hq hp hfm
        cases ha : anyB (.mk k2 n2 s2 l2)
        · rw [ha] at C0
          have HNOT := Lib.hid (fm_not HFM.out ha)
          have HA := Lib.hid ha
          clear ha
          have hkd := Lib.hid (inv_kd HI.out)
          rcases HNOT.out with ⟨rfl, ho⟩ | ⟨rfl, c, hcs, hcm, hcn, ho, hcl⟩
          · have HO := Lib.hid ho
            clear ho HNOT
            by_cases hk0 : kd = 0
            · subst hk0
              go_wp2_with (go_at_call 47; refine (C0 _).mono ?_; rintro e w3 ⟨rfl, hb⟩; have HX3 := Lib.hid (bnext HX.out hb); clear hb; replace x0 := (HX3.out.cell (p := ⟨b, off + j * 6, none⟩) hblt).trans ((HX.out.cell (p := ⟨b, off + j * 6, none⟩) hblt).symm.trans x0))
              go_roundg g
              case rel => exact ⟨j + 1, 1, [], by omega, rfl, rfl, by go_num, Lib.hid (by rw [HTK.out]; have := inv_first HI.out HA.out (.inl rfl); rw [HO.out] at this; exact this), HX3⟩
              case measure => omega
            · have hkn : (kd != 0) = true := by simpa using hk0
              have HK0 := Lib.hid hk0
              clear hk0
              by_cases hk1 : kd = 1
              · subst hk1
                by_cases hof : of = []
                · subst hof
                  go_wp2_with (go_at_call 47; refine (C0 _).mono ?_; rintro e w3 ⟨rfl, hb⟩; have HX3 := Lib.hid (bnext HX.out hb); clear hb; replace x0 := (HX3.out.cell (p := ⟨b, off + j * 6, none⟩) hblt).trans ((HX.out.cell (p := ⟨b, off + j * 6, none⟩) hblt).symm.trans x0))
                  go_roundg g
                  case rel => exact ⟨j + 1, 1, [], by omega, rfl, rfl, by go_num, Lib.hid (by rw [HTK.out]; exact inv_same HI.out HK0.out HA.out rfl HO.out), HX3⟩
                  case measure => omega
                · have es := str_ne of []
                  have hob : (of == ([] : By)) = false := by simpa using hof
                  rw [hob] at es
                  have HNT := Lib.hid (inv_clash HI.out HK0.out HMEM.out HA.out (.inr (by rw [HO.out]; exact fun h => hof h.symm)))
                  have hie : of.isEmpty = false := by cases of with | nil => exact absurd rfl hof | cons _ _ => rfl
                  have hie2 : (!of.isEmpty) = true := by rw [hie]; rfl
                  clear hof
                  go_wp2_with (go_at_call 47; refine (C0 _).mono ?_; rintro e w3 ⟨rfl, hb⟩; have HX3 := Lib.hid (bnext HX.out hb); clear hb; replace x0 := (HX3.out.cell (p := ⟨b, off + j * 6, none⟩) hblt).trans ((HX.out.cell (p := ⟨b, off + j * 6, none⟩) hblt).symm.trans x0))
                  go_ret
                  exact ⟨false, rfl, by simp [HNT.out], HX3.out⟩
              · have hk1n : (kd != 1) = true := by simpa using hk1
                have HNT := Lib.hid (inv_clash HI.out HK0.out HMEM.out HA.out (.inl (show (1 : Int) ≠ kd from fun h => hk1 h.symm)))
                clear hk1
                go_wp2_with (go_at_call 47; refine (C0 _).mono ?_; rintro e w3 ⟨rfl, hb⟩; have HX3 := Lib.hid (bnext HX.out hb); clear hb; replace x0 := (HX3.out.cell (p := ⟨b, off + j * 6, none⟩) hblt).trans ((HX.out.cell (p := ⟨b, off + j * 6, none⟩) hblt).symm.trans x0))
                go_ret
                exact ⟨false, rfl, by simp [HNT.out], HX3.out⟩
          · have HO := Lib.hid ho
            have C1 := fun (w' : World) (h : Below w.heap.size w w') => find_c C Sd s2 (.slice (some ⟨cb, coff, none⟩) NC ccap) w' (RowC.keep HRC.out h) h0 (by rw [hNC.out]; exact hC)
            have HFIND := Lib.hid C1
            have HCS := Lib.hid hcs
            clear ho HNOT C1 hcs hcm hcn hcl
            go_wp2_with (go_at_call 47; refine (C0 _).mono ?_; rintro e w3 ⟨rfl, hb⟩; have HX3 := Lib.hid (bnext HX.out hb); clear hb; replace x0 := (HX3.out.cell (p := ⟨b, off + j * 6, none⟩) hblt).trans ((HX.out.cell (p := ⟨b, off + j * 6, none⟩) hblt).symm.trans x0); replace x1 := (HX3.out.cell (p := ⟨b, off + j * 6 + 1, none⟩) hblt).trans ((HX.out.cell (p := ⟨b, off + j * 6 + 1, none⟩) hblt).symm.trans x1))
            refine (HFIND.out _ HX3.out).mono ?_
            rintro e w4 ⟨r, rfl, rfl, hr⟩
            rcases hr with ⟨_, hcn⟩ | ⟨j2, c2, rfl, hcj, hcs2⟩
            · rw [HCS.out] at hcn; cases hcn
            rw [HCS.out] at hcs2
            cases hcs2
            obtain ⟨z0, z1, z2, z3, z4⟩ := HCOP.out j2 c hcj
            have hjn : j2 < NC := by rw [← hNC.out]; exact (List.getElem?_eq_some_iff.1 hcj).1
            replace z1 := (HX3.out.cell (p := ⟨cb, coff + j2 * 5 + 1, none⟩) hclt).trans z1
            have k0 : (0 : Int) ≤ (j2 : Int) := by omega
            have k1 : (j2 : Int) < (NC : Int) := by omega
            clear z0 z2 z3 z4 hcj
            by_cases hk0 : kd = 0
            · subst hk0
              go_wp2_with fail
              go_roundg g
              case rel => exact ⟨j + 1, 5, c.of, by omega, rfl, rfl, by go_num, Lib.hid (by rw [HTK.out]; have := inv_first HI.out HA.out (.inr rfl); rw [HO.out] at this; exact this), HX3⟩
              case measure => omega
            · have hkn : (kd != 0) = true := by simpa using hk0
              have HK0 := Lib.hid hk0
              clear hk0
              by_cases hk1 : kd = 5
              · subst hk1
                have es := str_ne of c.of
                cases hof : (of == c.of)
                · rw [hof] at es
                  have HNT := Lib.hid (inv_clash HI.out HK0.out HMEM.out HA.out (.inr (by rw [HO.out]; exact fun h => by rw [h] at hof; simp at hof)))
                  have hof2 : (!(of == c.of)) = true := by rw [hof]; rfl
                  go_wp2_with fail
                  go_ret
                  exact ⟨false, rfl, by simp [HNT.out], HX3.out⟩
                · rw [hof] at es
                  have HOF := Lib.hid (show of = c.of from by simpa using hof)
                  have hof2 : (!(of == c.of)) = false := by rw [hof]; rfl
                  go_wp2_with fail
                  go_roundg g
                  case rel => exact ⟨j + 1, 5, c.of, by omega, rfl, rfl, by go_num, Lib.hid (by rw [HTK.out]; have := inv_same HI.out HK0.out HA.out rfl (by rw [HO.out, HOF.out]); rw [HOF.out] at this; exact this), HX3⟩
                  case measure => omega
              · have hk1n : (kd != 5) = true := by simpa using hk1
                have HNT := Lib.hid (inv_clash HI.out HK0.out HMEM.out HA.out (.inl (show (5 : Int) ≠ kd from fun h => hk1 h.symm)))
                clear hk1
                go_wp2_with fail
                go_ret
                exact ⟨false, rfl, by simp [HNT.out], HX3.out⟩
        · rw [ha] at C0
          have HA := Lib.hid ha
          clear ha
          go_wp2_with (go_at_call 47; refine (C0 _).mono ?_; rintro e w3 ⟨rfl, hb⟩; have HX3 := Lib.hid (bnext HX.out hb); clear hb)
          go_roundg g
          case rel => exact ⟨j + 1, kd, of, by omega, rfl, rfl, by go_num, Lib.hid (by rw [HTK.out]; exact inv_any HI.out HA.out), HX3⟩
          case measure => omega
      · have HI2 := Lib.hid (show Inv C l kd of from by have h := HI.out; rw [List.take_of_length_le (by rw [hL.out]; omega)] at h; exact h)
        clear HI
        by_cases hk5 : kd = 5
        · subst hk5
          have HP := Lib.hid (tg_parts Sd HF.out (inv_five HI2.out).1)
          go_wp2_with fail
          have HX0 := HX
          generalize wr = w1 at HX HX0 ⊢
          go_loopg [9, 10, 11] NC (fun g cv iv bv wr => ∃ c : Nat, c + g = NC ∧ cv = .int .i64 (c : Int) ∧ Hid (∀ (c2 : Nat) d, c2 < c → C[c2]? = some d → d.of = of → ∀ i, i < d.ar → Tg C (partsAt l d.nm i)) ∧ Hid (Below w.heap.size w wr))
          case atStart => exact ⟨0, Nat.zero_add _, rfl, Lib.hid (fun c2 d h => by omega), HX⟩
          case round =>
            obtain ⟨c, hcn, rfl, HT, HXc⟩ := hrel
            clear HX HX0
            by_cases hlc : c < NC
            · obtain ⟨g, rfl⟩ : ∃ g, gk = g + 1 := ⟨gk - 1, by omega⟩
              obtain ⟨d, hd⟩ := getElem?_of_lt (l := C) (k := c) (by rw [hNC.out]; exact hlc)
              have HD := Lib.hid hd
              have har := ar_le C Sd (List.mem_of_getElem? hd)
              have k0 : (0 : Int) ≤ (c : Int) := by omega
              have k1 : (c : Int) < (NC : Int) := by omega
              obtain ⟨AR, hAR⟩ : ∃ a, Hid (d.ar = a) := ⟨_, Lib.hid rfl⟩
              rw [hAR.out] at har
              clear hd
              go_wp2_with fail
              have HXd := HXc
              generalize wr = w2 at HXc HXd ⊢
              go_loopg [10, 11] (AR + 1) (fun g iv bv wr => ∃ i : Nat, i + g = AR + 1 ∧ iv = .int .i64 (i : Int) ∧ Hid (i ≤ AR) ∧ Hid (d.of = of → ∀ i2, i2 < i → Tg C (partsAt l d.nm i2)) ∧ Hid (d.of ≠ of → i = 0) ∧ Hid (Below w.heap.size w wr))
              case atStart => exact ⟨0, Nat.zero_add _, rfl, Lib.hid (Nat.zero_le _), Lib.hid (fun _ i2 h => by omega), Lib.hid (fun _ => rfl), HXc⟩
              case round =>
                obtain ⟨i, hin, rfl, HIA, HTI, HNO, HXi⟩ := hrel
                clear HXc HXd
                obtain ⟨z0, z1, z2, z3, z4⟩ := HCOP.out c d HD.out
                replace z0 := (HXi.out.cell (p := ⟨cb, coff + c * 5, none⟩) hclt).trans z0
                replace z1 := (HXi.out.cell (p := ⟨cb, coff + c * 5 + 1, none⟩) hclt).trans z1
                replace z3 := (HXi.out.cell (p := ⟨cb, coff + c * 5 + 3, none⟩) hclt).trans z3
                rw [hAR.out] at z3
                clear z2 z4
                have eo := str_eq d.of of
                by_cases hia : i < AR
                · have hia2 : (i : Int) < (AR : Int) := by omega
                  cases hof : (d.of == of)
                  · rw [hof] at eo
                    have HNOF := Lib.hid (show d.of ≠ of from fun h => by rw [h] at hof; simp at hof)
                    go_wp2_with fail
                    go_roundg g
                    case rel =>
                      refine ⟨c + 1, by omega, by go_num, Lib.hid fun c2 d2 hc2 hd2 ho2 => ?_, HXi⟩
                      by_cases hcc : c2 = c
                      · subst hcc
                        rw [HD.out] at hd2
                        cases hd2
                        exact absurd ho2 HNOF.out
                      · exact HT.out c2 d2 (by omega) hd2 ho2
                    case measure => omega
                  · rw [hof] at eo
                    have HOF := Lib.hid (show d.of = of from by simpa using hof)
                    obtain ⟨g3, rfl⟩ : ∃ g, gk = g + 1 := ⟨gk - 1, by omega⟩
                    have C2 := fun (w' : World) (h : Below w.heap.size w w') => parts_c l (.slice (some ⟨b, off, none⟩) L cap) d.nm i w' (HRN.out.keep h) (by rw [hL.out]; omega) (fun p hp h5 hs => by
                      rcases (HF.out p hp).cases with h | h | ⟨_, _, c3, hc3, hm3, hn3, hl3⟩
                      · rw [anyB_five h5] at h; cases h.1
                      · rw [h5] at h; exact absurd h.1 (by decide)
                      · have : c3 = d := Sd.eq hm3 (List.mem_of_getElem? HD.out) (by rw [hn3, hs])
                        rw [hl3, this, hAR.out]; exact hia) (by omega)
                    have C3 := fun (w' : World) (v' : Value) (h : Below w.heap.size w w') (hr : RowN w' Any v' (partsAt l d.nm i)) => IH.out (partsAt l d.nm i) v' w' (by have h1 := partsAt_sz d.nm i l; have h2 := HS.out; have h3 : 0 < l.length := List.length_pos_iff.2 hl0; omega) (by have := List.length_filterMap_le (fun p : Nd => if p.k = 5 ∧ p.s = d.nm then p.kids[i]? else none) l; unfold partsAt; rw [hL.out] at this; omega) (fm_parts HF.out d.nm i) (RowC.keep HRC.out h) hr
                    have HC2 := Lib.hid C2
                    have HC3 := Lib.hid C3
                    clear C2 C3
                    go_wp2_with fail
                    refine (HC2.out _ HXi.out).mono ?_
                    rintro e w5 ⟨v5, rfl, hr5, hb5⟩
                    have HX5 := Lib.hid (bnext HXi.out hb5)
                    have HR5 := Lib.hid hr5
                    clear hb5 hr5
                    go_wp2_with fail
                    refine (HC3.out _ _ HX5.out HR5.out).mono ?_
                    rintro e w6 ⟨b6, rfl, ht6, hb6⟩
                    have HX6 := Lib.hid (bnext HX5.out hb6)
                    have HT6 := Lib.hid ht6
                    clear hb6 ht6
                    cases b6
                    · have HNT := Lib.hid (show ¬ Tg C l from fun h => by
                        have := HT6.out.2 (HP.out.1 h d (List.mem_of_getElem? HD.out) HOF.out i (by rw [hAR.out]; exact hia))
                        cases this)
                      go_wp2_with fail
                      go_ret
                      exact ⟨false, rfl, by simp [HNT.out], HX6.out⟩
                    · go_wp2_with fail
                      go_roundg g3
                      case rel =>
                        refine ⟨i + 1, by omega, by go_num, Lib.hid (by omega), Lib.hid fun ho i2 hi2 => ?_, Lib.hid fun hn => absurd HOF.out hn, HX6⟩
                        by_cases hii : i2 = i
                        · subst hii; first | exact HT6.out.1 rfl | exact HT6.out.1 trivial
                        · exact HTI.out ho i2 (by omega)
                      case measure => omega
                · have hia2 : decide ((i : Int) < (AR : Int)) = false := by simp; omega
                  have hia3 : ¬ ((i : Int) < (AR : Int)) := by omega
                  go_wp2_with fail
                  go_roundg g
                  case rel =>
                    refine ⟨c + 1, by omega, by go_num, Lib.hid fun c2 d2 hc2 hd2 ho2 i2 hi2 => ?_, HXi⟩
                    by_cases hcc : c2 = c
                    · subst hcc
                      rw [HD.out] at hd2
                      cases hd2
                      rw [hAR.out] at hi2
                      exact HTI.out ho2 i2 (by omega)
                    · exact HT.out c2 d2 (by omega) hd2 ho2 i2 hi2
                  case measure => omega
            · go_wp2_with fail
              go_ret
              refine ⟨true, rfl, ?_, HXc.out⟩
              simp only [true_iff]
              refine HP.out.2 fun d hd ho i hi => ?_
              obtain ⟨c2, hc2, he2⟩ := List.getElem_of_mem hd
              exact HT.out c2 d (by have := hNC.out; omega) (by rw [← he2]; exact List.getElem?_eq_getElem hc2) ho i hi
        · have hk5n : (kd != 5) = true := by simpa using hk5
          have HD := Lib.hid (inv_done HI2.out hk5)
          clear hk5
          go_wp2_with fail
          go_ret
          exact ⟨true, rfl, by simp [HD.out], HX.out⟩
end Go.Proofs.Ytommaomhiaaphaa.DP
