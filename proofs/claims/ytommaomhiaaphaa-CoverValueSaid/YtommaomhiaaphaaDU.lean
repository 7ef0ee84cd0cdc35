/- What a pattern means, and the first row that means a value; whether rows may be looked at: the walks of the document's answers. -/
import Derived.Test.YtommaomhiaaphaaDO
import Derived.Test.YtommaomhiaaphaaDT
import Derived.StillTailTactics
namespace Go.Proofs.Ytommaomhiaaphaa.DU
open Go.RowKit Go.Proofs.Ytommaomhiaaphaa.CA Go.Proofs.Ytommaomhiaaphaa.CB Go.Proofs.Ytommaomhiaaphaa.CC Go.Proofs.Ytommaomhiaaphaa.CD Go.Proofs.Ytommaomhiaaphaa.CE Go.Proofs.Ytommaomhiaaphaa.CF Go.Proofs.Ytommaomhiaaphaa.CG Go.Proofs.Ytommaomhiaaphaa.CH Go.Proofs.Ytommaomhiaaphaa.CK Go.Proofs.Ytommaomhiaaphaa.CI Go.Proofs.Ytommaomhiaaphaa.CO Go.Proofs.Ytommaomhiaaphaa.CU Go.Proofs.Ytommaomhiaaphaa.CW Go.Proofs.Ytommaomhiaaphaa.DB Go.Proofs.Ytommaomhiaaphaa.DE Go.Proofs.Ytommaomhiaaphaa.DF Go.Proofs.Ytommaomhiaaphaa.DI Go.Proofs.Ytommaomhiaaphaa.DL Go.Proofs.Ytommaomhiaaphaa.DM Go.Proofs.Ytommaomhiaaphaa.DN Go.Proofs.Ytommaomhiaaphaa.DO Go.Proofs.Ytommaomhiaaphaa.DP Go.Proofs.Ytommaomhiaaphaa.DR Go.Proofs.Ytommaomhiaaphaa.DS Go.Proofs.Ytommaomhiaaphaa.DT
open Go.Proofs.Ytommaomhiaaphaa.CS (str_ne)
open Go.Proofs.Ytommaomhiaaphaa.DA (RowC.keep)
set_option linter.unusedVariables false
set_option maxRecDepth 100000

theorem meansL_drop {l : List Nd} {m : List Vl} {j : Nat} {p : Nd} {v : Vl} (hp : l[j]? = some p) (hq : m[j]? = some v) : meansL (l.drop j) (m.drop j) = (means p v && meansL (l.drop (j + 1)) (m.drop (j + 1))) := by
  obtain ⟨h1, h2⟩ := List.getElem?_eq_some_iff.1 hp
  obtain ⟨h3, h4⟩ := List.getElem?_eq_some_iff.1 hq
  rw [List.drop_eq_getElem_cons h1, List.drop_eq_getElem_cons h3, h2, h4]
  rfl
set_option maxHeartbeats 8000000 in
theorem means_c : ∀ (N : Nat), N ≤ 900000 → ∀ (t : Ty) (k n : Int) (s : By) (l : List Nd) (q : Value) (v : Vl) (qv : Value) (w : World), sz (.mk k n s l) ≤ N → Conf C8 t (.mk k n s l) → Typed C8 t v → HasN w Any (.mk k n s l) q → HasV w Any v qv →
    Calls Try.prog 31 #[.agg #[.int .i64 k, .string ⟨s.toArray⟩, .int .i64 n, .int .i64 0, .slice none 0 0, q], .agg #[.string ⟨(vnm v).toArray⟩, .int .i64 (vno v), qv]] w fun e w' => e = .returned (.bool (means (.mk k n s l) v)) ∧ Below w.heap.size w w' := by
  intro N
  induction N with
  | zero =>
    intro hN t k n s l q v qv w hs hc ht hq hv
    have := sz_eq (.mk k n s l)
    omega
  | succ N ih =>
    intro hN t k n s l q v qv w hs hc ht hq hv
    have IH := Lib.hid (ih (by omega))
    clear ih
    have hsz2 : szL l ≤ N := by have := sz_eq (.mk k n s l); simp only [Nd.kids] at this; omega
    have hll := len_szL l
    have hrow := hasN_row.1 hq
    obtain ⟨ao, cap, hqe, hcap⟩ := hrow.val
    simp only [Nd.kids] at hqe hcap hrow
    subst hqe
    have hvr := hasV_row hv
    obtain ⟨ao2, cap2, hve, hcap2⟩ := hvr.val
    subst hve
    have HROW := Lib.hid hrow
    have HVR := Lib.hid hvr
    have HSZ := Lib.hid hsz2
    obtain ⟨R, HR⟩ : ∃ R, Hid (means (.mk k n s l) v = R) := ⟨_, Lib.hid rfl⟩
    rw [HR.out]
    obtain ⟨L, hL⟩ : ∃ L, Hid (l.length = L) := ⟨_, Lib.hid rfl⟩
    rw [hL.out] at hll hcap ⊢
    have hLb : L ≤ 900000 := by have := HSZ.out; omega
    have C0 := fun w => loose_c k n s l (.slice ao L cap) w
    have X0 := Lib.hid (Bk.new w #[.int .i64 k, .string ⟨s.toArray⟩, .int .i64 n, .int .i64 0, .slice none 0 0, .slice ao L cap] 38)
    have HB0 := Lib.hid (balloc w (.cells #[.int .i64 k, .string ⟨s.toArray⟩, .int .i64 n, .int .i64 0, .slice none 0 0, .slice ao L cap] 38))
    clear hq hrow hs hsz2 hvr hv
    cases ha : anyB (.mk k n s l)
    case true =>
      rw [ha] at C0
      have HRR := Lib.hid (show true = R from by rw [← HR.out, means_any ha])
      obtain ⟨NV, hNV⟩ : ∃ x, Hid (vnm v = x) := ⟨_, Lib.hid rfl⟩
      obtain ⟨IV, hIV⟩ : ∃ x, Hid (vno v = x) := ⟨_, Lib.hid rfl⟩
      obtain ⟨LV, hLV⟩ : ∃ x, Hid ((vps v).length = x) := ⟨_, Lib.hid rfl⟩
      rw [hNV.out, hIV.out]
      rw [hLV.out] at hcap2 ⊢
      have HB1 := Lib.hid (bnext HB0.out (balloc _ (.cells #[.string ⟨NV.toArray⟩, .int .i64 IV, .slice ao2 LV cap2] 35)))
      clear ha
      go_enter Try.func31, Try.ntmps31
      go_wp2_with (go_at_call 47; refine (C0 _).mono ?_; rintro e w3 ⟨rfl, hb⟩; have HX3 := Lib.hid (bnext HB1.out hb); clear hb)
      go_ret
      exact ⟨ret_bool HRR.out, HX3.out⟩
    case false =>
      rw [ha] at C0
      rcases Conf.cases hc ha with ⟨rfl, k1, s0, l0⟩ | ⟨of, ch, c, rfl, k5, n0, hcm, hnm, ho, hl, hk⟩
      · obtain ⟨m, rfl⟩ := ht
        have k1 : k = 1 := k1
        subst k1
        have HRR := Lib.hid (show (m == n) = R from by rw [← HR.out, means_num ha]; simp [Nd.k, Nd.n])
        have hbk := Bk.new (w.alloc (.cells #[.int .i64 1, .string ⟨s.toArray⟩, .int .i64 n, .int .i64 0, .slice none 0 0, .slice ao L cap] 38)) #[.string ⟨#[]⟩, .int .i64 m, .slice ao2 0 cap2] 35
        have HB1 := Lib.hid (bnext HB0.out (balloc _ (.cells #[.string ⟨#[]⟩, .int .i64 m, .slice ao2 0 cap2] 35)))
        have X1 := Lib.hid (X0.out.alloc (.cells #[.string ⟨#[]⟩, .int .i64 m, .slice ao2 0 cap2] 35))
        have Y1 := Lib.hid hbk
        show Calls Try.prog 31 #[_, .agg #[.string ⟨#[]⟩, .int .i64 m, .slice ao2 0 cap2]] w _
        clear ha hbk
        cases hmn : (m == n)
        all_goals
          rw [hmn] at HRR
          go_enter Try.func31, Try.ntmps31
          go_wp2_with (go_at_call 47; refine (C0 _).mono ?_; rintro e w3 ⟨rfl, hb⟩; have HX3 := Lib.hid (bnext HB1.out hb); have X3 := Lib.hid (X1.out.keep hb); have Y3 := Lib.hid (Y1.out.keep hb); clear hb; obtain ⟨x0, x1, x2, x3, x4, x5⟩ := X3.out.c6; have y0 := Y3.out.cell 0 _ rfl; have y1 := Y3.out.cell 1 _ rfl; simp only [World.size_alloc] at y0 y1)
          go_ret
          exact ⟨ret_bool HRR.out, HX3.out⟩
      · have k5 : k = 5 := k5
        subst k5
        obtain ⟨d, ps, hdm, hdo, rfl, hpl, hpt⟩ := ht
        have hnm : c.nm = s := hnm
        have hl : l.length = c.ar := hl
        have hbk := Bk.new (w.alloc (.cells #[.int .i64 5, .string ⟨s.toArray⟩, .int .i64 n, .int .i64 0, .slice none 0 0, .slice ao L cap] 38)) #[.string ⟨d.nm.toArray⟩, .int .i64 0, .slice ao2 ps.length cap2] 35
        have HB1 := Lib.hid (bnext HB0.out (balloc _ (.cells #[.string ⟨d.nm.toArray⟩, .int .i64 0, .slice ao2 ps.length cap2] 35)))
        have X1 := Lib.hid (X0.out.alloc (.cells #[.string ⟨d.nm.toArray⟩, .int .i64 0, .slice ao2 ps.length cap2] 35))
        have Y1 := Lib.hid hbk
        show Calls Try.prog 31 #[_, .agg #[.string ⟨d.nm.toArray⟩, .int .i64 0, .slice ao2 ps.length cap2]] w _
        have en := str_ne d.nm s
        have hmc := means_con ha d.nm ps
        simp only [Nd.k, Nd.s, Nd.kids] at hmc
        rw [HR.out] at hmc
        have HMC := Lib.hid hmc
        have HDM := Lib.hid hdm
        clear ha hbk hmc hdm
        cases hns : (d.nm == s)
        · rw [hns] at en
          have hns2 : (!(d.nm == s)) = true := by rw [hns]; rfl
          have HRR := Lib.hid (show false = R from by rw [HMC.out, hns]; simp)
          obtain ⟨LP, hLP⟩ : ∃ x, Hid (ps.length = x) := ⟨_, Lib.hid rfl⟩
          rw [hLP.out] at HB1 X1 Y1 ⊢
          go_enter Try.func31, Try.ntmps31
          go_wp2_with (go_at_call 47; refine (C0 _).mono ?_; rintro e w3 ⟨rfl, hb⟩; have HX3 := Lib.hid (bnext HB1.out hb); have X3 := Lib.hid (X1.out.keep hb); have Y3 := Lib.hid (Y1.out.keep hb); clear hb; obtain ⟨x0, x1, x2, x3, x4, x5⟩ := X3.out.c6; have y0 := Y3.out.cell 0 _ rfl; have y2 := Y3.out.cell 2 _ rfl; simp only [World.size_alloc] at y0 y2)
          go_ret
          exact ⟨ret_bool HRR.out, HX3.out⟩
        · rw [hns] at en
          have hns2 : (!(d.nm == s)) = false := by rw [hns]; rfl
          have hds : d.nm = s := by simpa using hns
          have hdc : d = c := sound8.eq HDM.out hcm (by rw [hds, hnm])
          have hcap2 : ps.length ≤ cap2 := hcap2
          have hpL : ps.length = L := by rw [hpl, hdc, ← hl, hL.out]
          rw [hpL] at HB1 X1 Y1 hcap2 ⊢
          have hlne : ((L : Int) != (L : Int)) = false := by simp
          have HRR := Lib.hid (show meansL l ps = R from by rw [HMC.out, hns]; simp)
          have HPL := Lib.hid hpL
          have HKC := Lib.hid hk
          have HPT := Lib.hid (show ∀ (i : Nat) x, ps[i]? = some x → Typed C8 (ch c.nm i) x from fun i x h => by rw [← hdc]; exact hpt i x h)
          clear hk hpt hpL hdc hpl hl hds
          go_enter Try.func31, Try.ntmps31
          go_wp2_with (go_at_call 47; refine (C0 _).mono ?_; rintro e w3 ⟨rfl, hb⟩; have HX3 := Lib.hid (bnext HB1.out hb); have X3 := Lib.hid (X1.out.keep hb); have Y3 := Lib.hid (Y1.out.keep hb); clear hb; obtain ⟨x0, x1, x2, x3, x4, x5⟩ := X3.out.c6; have y0 := Y3.out.cell 0 _ rfl; have y2 := Y3.out.cell 2 _ rfl; simp only [World.size_alloc] at y0 y2)
          obtain ⟨B, hB⟩ : ∃ B, Hid (w.heap.size = B) := ⟨_, Lib.hid rfl⟩
          have e1 : (w.alloc (.cells #[.int .i64 5, .string ⟨s.toArray⟩, .int .i64 n, .int .i64 0, .slice none 0 0, .slice ao L cap] 38)).heap.size = w.heap.size + 1 := by simp
          have X4 := Lib.hid (show Bk w3 B #[.int .i64 5, .string ⟨s.toArray⟩, .int .i64 n, .int .i64 0, .slice none 0 0, .slice ao L cap] 38 from by rw [← hB.out]; exact X3.out)
          have Y4 := Lib.hid (show Bk w3 (B + 1) #[.string ⟨d.nm.toArray⟩, .int .i64 0, .slice ao2 L cap2] 35 from by rw [← hB.out, ← e1]; exact Y3.out)
          rw [hB.out]
          clear e1 X0 X1 X3 Y1 Y3 HB0 HB1 x0 x1 x2 x3 x4 x5 y0 y2 C0
          go_wp2_with fail
          go_loopg [5, 6] L (fun g iv sv wr => ∃ i : Nat, i + g = L ∧ iv = .int .i64 (i : Int) ∧ Hid (meansL l ps = meansL (l.drop i) (ps.drop i)) ∧ Hid (Below w.heap.size w wr) ∧ Hid (Bk wr B #[.int .i64 5, .string ⟨s.toArray⟩, .int .i64 n, .int .i64 0, .slice none 0 0, .slice ao L cap] 38) ∧ Hid (Bk wr (B + 1) #[.string ⟨d.nm.toArray⟩, .int .i64 0, .slice ao2 L cap2] 35))
          case atStart => exact ⟨0, Nat.zero_add _, rfl, Lib.hid rfl, HX3, X4, Y4⟩
          case round =>
            obtain ⟨i, hi, rfl, HM, HX, X5, Y5⟩ := hrel
            clear HX3 X4 Y4
            obtain ⟨x0, x1, x2, x3, x4, x5⟩ := X5.out.c6
            have y2 := Y5.out.cell 2 _ rfl
            by_cases hlt : i < L
            · obtain ⟨g, rfl⟩ : ∃ g, gk = g + 1 := ⟨gk - 1, by omega⟩
              have hlne : l ≠ [] := by intro e; have := hL.out; rw [e] at this; simp at this; omega
              have hpne : ps ≠ [] := by intro e; have := HPL.out; rw [e] at this; simp at this; omega
              obtain ⟨b, off, cap', hve, _, hblt, hcells⟩ := HROW.out.open_ hlne
              rw [hL.out] at hve
              cases hve
              obtain ⟨b2, off2, cap2', hve2, _, hblt2, hcells2⟩ := HVR.out.open_ (show vps (.con d.nm ps) ≠ [] from hpne)
              have hve2 : Value.slice ao2 ps.length cap2 = .slice (some ⟨b2, off2, none⟩) ps.length cap2' := hve2
              rw [HPL.out] at hve2
              cases hve2
              obtain ⟨kid, hkid⟩ := getElem?_of_lt (l := l) (k := i) (by rw [hL.out]; exact hlt)
              obtain ⟨y, hy⟩ := getElem?_of_lt (l := ps) (k := i) (by rw [HPL.out]; exact hlt)
              obtain ⟨q2, hLs, hq2⟩ := hcells i kid hkid
              obtain ⟨q3, hL3, hq3⟩ := hcells2 i y hy
              have hszk := sz_kid hkid
              have HMD := Lib.hid (meansL_drop hkid hy)
              have hck := HKC.out i kid hkid
              have hty := HPT.out i y hy
              have HCK := Lib.hid hck
              obtain ⟨z0, z1, z2, z3, z4, z5⟩ := hLs.keep HX.out hblt
              obtain ⟨u0, u1, u2⟩ := hL3.keep HX.out hblt2
              obtain ⟨k2, n2, s2, l2⟩ := kid
              simp only [Nd.k, Nd.n, Nd.s] at z0 z1 z2
              have C1 := fun (w' : World) (hb : Below w.heap.size w w') => IH.out (ch c.nm i) k2 n2 s2 l2 q2 y q3 w' (by have := HSZ.out; omega) HCK.out hty (HasN.keep hb _ _ hq2) (HasV.keep hb _ _ hq3)
              have HC1 := Lib.hid (C1 _ (HX.out.trans ((bdr wr).mono HX.out.size)))
              have i0 : (0 : Int) ≤ (i : Int) := by omega
              have i1 : (i : Int) < (L : Int) := by omega
              clear hLs hq2 hkid hszk hcells hlne hpne hL3 hq3 hy hcells2 hck hty C1
              obtain ⟨X, hX⟩ : ∃ X, Hid (means (.mk k2 n2 s2 l2) y = X) := ⟨_, Lib.hid rfl⟩
              rw [hX.out] at HC1 HMD
              go_wp2_with fail
              go_still_tail 10, (by kernel_rfl)
              change wpList _ _ _ _ _ (World.drew _)
              cases X
              · have HRF := Lib.hid (show false = R from by rw [← HRR.out, HM.out, HMD.out]; rfl)
                go_wp2_with (go_at_call 31; refine HC1.out.mono ?_; rintro e w4 ⟨rfl, hb4⟩; have HX4 := Lib.hid (bnext HX.out (bdrew hb4)); clear hb4)
                go_ret
                exact ⟨ret_bool HRF.out, HX4.out⟩
              · have HM2 := Lib.hid (show meansL l ps = meansL (l.drop (i + 1)) (ps.drop (i + 1)) from by rw [HM.out, HMD.out]; rfl)
                go_wp2_with (go_at_call 31; refine HC1.out.mono ?_; rintro e w4 ⟨rfl, hb4⟩; have HX4 := Lib.hid (bnext HX.out (bdrew hb4)); have X6 := Lib.hid (X5.out.keep (bdrew hb4)); have Y6 := Lib.hid (Y5.out.keep (bdrew hb4)); clear hb4)
                go_roundg g
                case rel => exact ⟨i + 1, by omega, by go_num, HM2, HX4, X6, Y6⟩
                case measure => omega
            · go_wp2_with fail
              go_ret
              refine ⟨ret_bool ?_, HX.out⟩
              rw [← HRR.out, HM.out, List.drop_eq_nil_of_le (by rw [hL.out]; omega), List.drop_eq_nil_of_le (by rw [HPL.out]; omega)]
              rfl
/-- The first row that means a value. -/
def FirstRes (L : List Nd) (v : Vl) (w : World) (e : Ending) (w' : World) : Prop := ∃ r : Int, e = .returned (.int .i64 r) ∧ ((∃ p, p ∈ L ∧ means p v = true) → 0 ≤ r) ∧ Below w.heap.size w w'
set_option maxHeartbeats 8000000 in
theorem first_c (t : Ty) (rows : List Nd) (rv : Value) (v : Vl) (qv : Value) (w : World) (hr : RowN w Any rv rows) (hn : rows.length ≤ 1000) (hsz : ∀ p, p ∈ rows → sz p ≤ 5000) (hc : ∀ p, p ∈ rows → Conf C8 t p) (ht : Typed C8 t v) (hv : HasV w Any v qv) :
    Calls Try.prog 11 #[rv, .agg #[.string ⟨(vnm v).toArray⟩, .int .i64 (vno v), qv]] w (FirstRes rows v w) := by
  obtain ⟨ao, cap, rfl, hcap⟩ := hr.val
  obtain ⟨q1, q2, q3, rfl⟩ := hv.val
  have HR := Lib.hid hr
  have HC := Lib.hid hc
  have HT := Lib.hid ht
  have HV := Lib.hid hv
  have HSZ := Lib.hid hsz
  obtain ⟨L, hL⟩ : ∃ L, Hid (rows.length = L) := ⟨_, Lib.hid rfl⟩
  obtain ⟨NV, hNV⟩ : ∃ x, Hid (vnm v = x) := ⟨_, Lib.hid rfl⟩
  obtain ⟨IV, hIV⟩ : ∃ x, Hid (vno v = x) := ⟨_, Lib.hid rfl⟩
  have C1 := fun (t : Ty) (k n : Int) (s : By) (l : List Nd) (q : Value) (w : World) h1 h2 h3 h4 h5 => means_c 5000 (by decide) t k n s l q v (.slice q1 q2 q3) w h1 h2 h3 h4 h5
  rw [hNV.out, hIV.out] at C1 ⊢
  rw [hL.out] at HR hn hcap ⊢
  have HC1 := Lib.hid C1
  have HB := Lib.hid (Bk.new w #[.string ⟨NV.toArray⟩, .int .i64 IV, .slice q1 q2 q3] 35)
  have HX0 := Lib.hid (balloc w (.cells #[.string ⟨NV.toArray⟩, .int .i64 IV, .slice q1 q2 q3] 35))
  clear hr hc ht hv hsz C1
  go_enter Try.func11, Try.ntmps11
  go_wp2_with fail
  obtain ⟨B, hB⟩ : ∃ B, Hid (w.heap.size = B) := ⟨_, Lib.hid rfl⟩
  rw [hB.out] at HB ⊢
  generalize w.alloc _ = W at HB HX0 ⊢
  go_loopg [5, 6] L (fun g iv sv wr => ∃ i : Nat, i + g = L ∧ iv = .int .i64 (i : Int) ∧ Hid (∀ p, p ∈ rows.take i → means p v = false) ∧ Hid (Below w.heap.size w wr) ∧ Hid (Bk wr B #[.string ⟨NV.toArray⟩, .int .i64 IV, .slice q1 q2 q3] 35))
  case atStart => exact ⟨0, Nat.zero_add _, rfl, Lib.hid (fun p hp => by simp at hp), HX0, HB⟩
  case round =>
    obtain ⟨i, hi, rfl, HM, HX, HK⟩ := hrel
    clear HX0 HB
    have y0 := HK.out.cell 0 _ rfl
    have y1 := HK.out.cell 1 _ rfl
    have y2 := HK.out.cell 2 _ rfl
    by_cases hlt : i < L
    · obtain ⟨g, rfl⟩ : ∃ g, gk = g + 1 := ⟨gk - 1, by omega⟩
      have hlne : rows ≠ [] := by intro e; have := hL.out; rw [e] at this; simp at this; omega
      have hR := HR.out
      rw [← hL.out] at hR
      obtain ⟨b, off, cap', hve, _, hblt, hcells⟩ := hR.open_ hlne
      cases hve
      obtain ⟨p, hp⟩ := getElem?_of_lt (l := rows) (k := i) (by rw [hL.out]; exact hlt)
      obtain ⟨q, hLs, hq⟩ := hcells i p hp
      have hmem := List.mem_of_getElem? hp
      have HTK := Lib.hid (take_snoc hp)
      have hcp := HC.out p hmem
      have hsp := HSZ.out p hmem
      obtain ⟨z0, z1, z2, z3, z4, z5⟩ := hLs.keep HX.out hblt
      obtain ⟨k2, n2, s2, l2⟩ := p
      simp only [Nd.k, Nd.n, Nd.s] at z0 z1 z2
      have hbx : Below w.heap.size w wr.drew := HX.out.trans ((bdr wr).mono HX.out.size)
      have HC2 := Lib.hid (HC1.out t k2 n2 s2 l2 q wr.drew hsp hcp HT.out (HasN.keep hbx _ _ hq) (HasV.keep hbx _ _ HV.out))
      have i0 : (0 : Int) ≤ (i : Int) := by omega
      have i1 : (i : Int) < (rows.length : Int) := by rw [hL.out]; omega
      clear hR hcells hLs hq hp hmem hcp hsp hbx hlne
      obtain ⟨X, hX⟩ : ∃ X, Hid (means (.mk k2 n2 s2 l2) v = X) := ⟨_, Lib.hid rfl⟩
      rw [hX.out] at HC2
      go_wp2_with fail
      go_still_tail 5, (by kernel_rfl)
      change wpList _ _ _ _ _ (World.drew _)
      cases X
      · have HM2 := Lib.hid (show ∀ p, p ∈ rows.take (i + 1) → means p v = false from fun p hp => by
          rw [HTK.out] at hp
          rcases List.mem_append.1 hp with hp | hp
          · exact HM.out p hp
          · rw [List.mem_singleton.1 hp]; exact hX.out)
        go_wp2_with (go_at_call 31; refine HC2.out.mono ?_; rintro e w4 ⟨rfl, hb4⟩; have HX4 := Lib.hid (bnext HX.out (bdrew hb4)); have HK4 := Lib.hid (HK.out.keep (bdrew hb4)); clear hb4)
        go_roundg g
        case rel => exact ⟨i + 1, by omega, by go_num, HM2, HX4, HK4⟩
        case measure => omega
      · go_wp2_with (go_at_call 31; refine HC2.out.mono ?_; rintro e w4 ⟨rfl, hb4⟩; have HX4 := Lib.hid (bnext HX.out (bdrew hb4)); clear hb4)
        go_ret
        exact ⟨(i : Int), rfl, fun _ => by omega, HX4.out⟩
    · go_wp2_with fail
      go_ret
      refine ⟨-1, rfl, ?_, HX.out⟩
      rintro ⟨p, hp, hm⟩
      have h := HM.out p (by rw [List.take_of_length_le (by rw [hL.out]; omega)]; exact hp)
      rw [h] at hm; cases hm
/-- Whether rows may be looked at. -/
def RightRes (L : List Nd) (w : World) (e : Ending) (w' : World) : Prop := e = .returned (.bool (mayB C8 L)) ∧ Below w.heap.size w w'
set_option maxHeartbeats 8000000 in
theorem right_c (rows : List Nd) (rv cvv : Value) (w : World) (hr : RowN w Any rv rows) (hn : rows.length ≤ 20) (hsz : ∀ p, p ∈ rows → sz p ≤ 9) (hc : RowC w cvv C8) :
    Calls Try.prog 8 #[rv, cvv] w (RightRes rows w) := by
  obtain ⟨ao, cap, rfl, hcap⟩ := hr.val
  have KEY := Lib.hid (right_iff (C := C8) hn hsz)
  have HR := Lib.hid hr
  have HC := Lib.hid hc
  have HSZ := Lib.hid hsz
  obtain ⟨L, hL⟩ : ∃ L, Hid (rows.length = L) := ⟨_, Lib.hid rfl⟩
  rw [hL.out] at HR hn hcap ⊢
  obtain ⟨Z, hZ⟩ : ∃ Z, Hid (mayB C8 rows = Z) := ⟨_, Lib.hid rfl⟩
  unfold RightRes
  rw [hZ.out]
  have HS := Lib.hid (rsound_c cvv w hc)
  have hn2 : ¬ (L : Int) > 20 := by omega
  clear hr hc hsz
  go_enter Try.func8, Try.ntmps8
  go_wp2_with (go_at_call 25; refine HS.out.mono ?_; rintro e w1 ⟨rfl, hb1⟩; have HX1 := Lib.hid hb1; clear hb1)
  go_loopg [6] L (fun g iv wr => ∃ i : Nat, i + g = L ∧ iv = .int .i64 (i : Int) ∧ Hid (∀ p, p ∈ rows.take i → Fm C8 p) ∧ Hid (Below w.heap.size w wr))
  case atStart => exact ⟨0, Nat.zero_add _, rfl, Lib.hid (fun p hp => by simp at hp), HX1⟩
  case round =>
    obtain ⟨i, hi, rfl, HM, HX⟩ := hrel
    clear HX1
    by_cases hlt : i < L
    · obtain ⟨g, rfl⟩ : ∃ g, gk = g + 1 := ⟨gk - 1, by omega⟩
      have hlne : rows ≠ [] := by intro e; have := hL.out; rw [e] at this; simp at this; omega
      have hR := HR.out
      rw [← hL.out] at hR
      obtain ⟨b, off, cap', hve, _, hblt, hcells⟩ := hR.open_ hlne
      cases hve
      obtain ⟨p, hp⟩ := getElem?_of_lt (l := rows) (k := i) (by rw [hL.out]; exact hlt)
      obtain ⟨q, hLs, hq⟩ := hcells i p hp
      have HMEM := Lib.hid (List.mem_of_getElem? hp)
      have HTK := Lib.hid (take_snoc hp)
      have hsp := HSZ.out p HMEM.out
      obtain ⟨z0, z1, z2, z3, z4, z5⟩ := hLs.keep HX.out hblt
      have hp1 := sz_eq p
      obtain ⟨k2, n2, s2, l2⟩ := p
      simp only [Nd.k, Nd.n, Nd.s] at z0 z1 z2
      have C1 := size_c C8 sound8 (by decide) (by decide) cvv 9 (Nat.le_refl _) k2 n2 s2 l2 q wr hsp (RowC.keep HC.out HX.out) (HasN.keep HX.out _ _ hq)
      have i0 : (0 : Int) ≤ (i : Int) := by omega
      have i1 : (i : Int) < (rows.length : Int) := by rw [hL.out]; omega
      clear hR hcells hLs hq hp hlne
      cases hf : fmB C8 (.mk k2 n2 s2 l2)
      · simp only [hf, Bool.false_eq_true, if_false] at C1
        have HC1 := Lib.hid C1
        have HZF := Lib.hid (show Z = false from by
          rw [← hZ.out]
          cases h : mayB C8 rows with
          | false => rfl
          | true => have := fm_iff (C := C8) (.mk k2 n2 s2 l2) |>.2 ((KEY.out.1 h).1 _ HMEM.out); rw [hf] at this; cases this)
        clear C1 hf hp1 hsp
        go_wp2_with (go_at_call 26; refine HC1.out.mono ?_; rintro e w4 ⟨rfl, hb4⟩; have HX4 := Lib.hid (bnext HX.out hb4); clear hb4)
        go_ret
        exact ⟨ret_bool HZF.out.symm, HX4.out⟩
      · simp only [hf, if_true] at C1
        have HM2 := Lib.hid (show ∀ p, p ∈ rows.take (i + 1) → Fm C8 p from fun p hp => by
          rw [HTK.out] at hp
          rcases List.mem_append.1 hp with hp | hp
          · exact HM.out p hp
          · rw [List.mem_singleton.1 hp]; exact (fm_iff _).1 hf)
        obtain ⟨z, hz⟩ : ∃ z, Hid (sz (.mk k2 n2 s2 l2) = z) := ⟨_, Lib.hid rfl⟩
        rw [hz.out] at C1 hp1
        have hzn : ((z : Int) == 0) = false := by simp; omega
        have HC1 := Lib.hid C1
        clear C1 hf hp1 hsp
        go_wp2_with (go_at_call 26; refine HC1.out.mono ?_; rintro e w4 ⟨rfl, hb4⟩; have HX4 := Lib.hid (bnext HX.out hb4); clear hb4)
        go_roundg g
        case rel => exact ⟨i + 1, by omega, by go_num, HM2, HX4⟩
        case measure => omega
    · have HF := Lib.hid (show ∀ p, p ∈ rows → Fm C8 p from fun p hp => HM.out p (by rw [List.take_of_length_le (by rw [hL.out]; omega)]; exact hp))
      have HC1 := Lib.hid (rtog_c C8 sound8 (by decide) (by decide) cvv (szL rows) rows (.slice ao L cap) wr (Nat.le_refl _) (by rw [hL.out]; omega) HF.out (RowC.keep HC.out HX.out) (HR.out.keep HX.out))
      go_wp2_with (go_at_call 27; refine HC1.out.mono ?_; rintro e w4 ⟨b4, rfl, ht4, hb4⟩; have HX4 := Lib.hid (bnext HX.out hb4); have HT4 := Lib.hid ht4; clear hb4 ht4)
      go_ret
      refine ⟨ret_bool ?_, HX4.out⟩
      rw [← hZ.out, Bool.eq_iff_iff, KEY.out, HT4.out]
      exact ⟨fun h => ⟨HF.out, h⟩, fun h => h.2⟩
end Go.Proofs.Ytommaomhiaaphaa.DU
