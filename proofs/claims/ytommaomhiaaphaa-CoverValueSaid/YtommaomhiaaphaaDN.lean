/- How many patterns a pattern has, by the document: the walk. -/
import Derived.Test.YtommaomhiaaphaaDM
import Derived.BigQuiet
namespace Go.Proofs.Ytommaomhiaaphaa.DN
open Go.RowKit Go.Proofs.Ytommaomhiaaphaa.CA Go.Proofs.Ytommaomhiaaphaa.CB Go.Proofs.Ytommaomhiaaphaa.CC Go.Proofs.Ytommaomhiaaphaa.CD Go.Proofs.Ytommaomhiaaphaa.CE Go.Proofs.Ytommaomhiaaphaa.CF Go.Proofs.Ytommaomhiaaphaa.CG Go.Proofs.Ytommaomhiaaphaa.CH Go.Proofs.Ytommaomhiaaphaa.CK Go.Proofs.Ytommaomhiaaphaa.CI Go.Proofs.Ytommaomhiaaphaa.CO Go.Proofs.Ytommaomhiaaphaa.CU Go.Proofs.Ytommaomhiaaphaa.DE Go.Proofs.Ytommaomhiaaphaa.DF Go.Proofs.Ytommaomhiaaphaa.DI Go.Proofs.Ytommaomhiaaphaa.DL Go.Proofs.Ytommaomhiaaphaa.DM
open Go.Proofs.Ytommaomhiaaphaa.CS (str_ne)
open Go.Proofs.Ytommaomhiaaphaa.DA (RowC.keep)
set_option linter.unusedVariables false
set_option maxRecDepth 100000

theorem fm_no {C : List Cn} {k n : Int} {s : By} {l : List Nd} (h : formedB C (.mk k n s l) = false) : (if fmB C (.mk k n s l) then (sz (.mk k n s l) : Int) else 0) = 0 := by
  have : fmB C (.mk k n s l) = false := by show (formedB C (.mk k n s l) && fmLB C l) = false; rw [h]; rfl
  rw [this]; rfl
theorem fm_leaf {C : List Cn} {k n : Int} {s : By} (h : formedB C (.mk k n s []) = true) : (if fmB C (.mk k n s []) then (sz (.mk k n s []) : Int) else 0) = 1 := by
  have : fmB C (.mk k n s []) = true := by show (formedB C (.mk k n s []) && fmLB C []) = true; rw [h]; rfl
  rw [this]; rfl
theorem fm_con {C : List Cn} {s : By} {l : List Nd} {c : Cn} (hc : conOf C s = some c) (hl : l.length = c.ar) : (if fmB C (.mk 5 0 s l) then (sz (.mk 5 0 s l) : Int) else 0) = if fmLB C l then (1 + szL l : Int) else 0 := by
  have h : formedB C (.mk 5 0 s l) = true := by
    show (if (5 : Int) = 5 then (match conOf C s with | none => false | some c => numOk (.mk 5 0 s l) && l.length == c.ar) else _) = true
    rw [if_pos rfl, hc]
    simp [numOk, Nd.n, hl]
  have e : fmB C (.mk 5 0 s l) = fmLB C l := by show (formedB C (.mk 5 0 s l) && fmLB C l) = fmLB C l; rw [h]; rfl
  rw [e]
  have e2 : (sz (.mk 5 0 s l) : Int) = 1 + szL l := by rw [sz_eq]; simp [Nd.kids]
  rw [e2]
theorem fmLB_app {C : List Cn} : ∀ a b : List Nd, fmLB C (a ++ b) = (fmLB C a && fmLB C b)
  | [], b => rfl
  | p :: a, b => by show (fmB C p && fmLB C (a ++ b)) = ((fmB C p && fmLB C a) && fmLB C b); rw [fmLB_app a b, Bool.and_assoc]
theorem fmLB_at {C : List Cn} {l : List Nd} {j : Nat} {p : Nd} (h : l[j]? = some p) (hn : fmB C p = false) : fmLB C l = false := by
  obtain ⟨hj, he⟩ := List.getElem?_eq_some_iff.1 h
  rw [← List.take_append_drop j l, fmLB_app, List.drop_eq_getElem_cons hj, he]
  show (_ && (fmB C p && _)) = false
  rw [hn]; simp
theorem below_dN {B : Nat} {w w' : World} (h : Below B w w') (n : Nat) : Below B w (w'.drewN n) := h.trans ⟨rfl, rfl, rfl, Nat.le_refl _, fun _ _ => rfl⟩
theorem Bx.dN {w : World} {B : Nat} {k n : Int} {s : By} {q : Value} (h : Bx w B k n s q) (i : Nat) : Bx (w.drewN i) B k n s q := ⟨h.lt, h.c0, h.c1, h.c2, h.c3, h.c4, h.c5⟩
theorem Bx.ends {w : World} {B : Nat} {k n : Int} {s : By} {q : Value} (h : Bx w B k n s q) : w.cell? ⟨B, 0, none⟩ = some (.int .i64 k) ∧ w.cell? ⟨B, 1, none⟩ = some (.string ⟨s.toArray⟩) ∧ w.cell? ⟨B, 2, none⟩ = some (.int .i64 n) := ⟨h.c0, h.c1, h.c2⟩
set_option maxRecDepth 100000 in
set_option maxHeartbeats 4000000 in
theorem size_c (C : List Cn) (Sd : Sound C) (h0 : C ≠ []) (hC : C.length ≤ 1000) (cvv : Value) : ∀ (N : Nat), N ≤ 9 → ∀ (k n : Int) (s : By) (l : List Nd) (q : Value) (w : World), sz (.mk k n s l) ≤ N → RowC w cvv C → HasN w Any (.mk k n s l) q →
    Calls Try.prog 26 #[cvv, .agg #[.int .i64 k, .string ⟨s.toArray⟩, .int .i64 n, .int .i64 0, .slice none 0 0, q]] w fun e w' => e = .returned (.int .i64 (if fmB C (.mk k n s l) then (sz (.mk k n s l) : Int) else 0)) ∧ Below w.heap.size w w' := by
  intro N
  induction N with
  | zero =>
    intro hN k n s l q w hs hc hq
    have := sz_eq (.mk k n s l)
    omega
  | succ N ih =>
    intro hN k n s l q w hsz hc hq
    have IH := Lib.hid (ih (by omega))
    clear ih
    have hsz2 : szL l ≤ N := by have := sz_eq (.mk k n s l); simp only [Nd.kids] at this; omega
    have hll := len_szL l
    have hrow := hasN_row.1 hq
    obtain ⟨ao, cap, hqe, hcap⟩ := hrow.val
    simp only [Nd.kids] at hqe hcap hrow
    subst hqe
    have HROW := Lib.hid hrow
    have HSZ := Lib.hid hsz2
    have HRC := Lib.hid hc
    have hc5 := hc
    obtain ⟨cb, coff, ccap, rfl, hccap, hclt, hcop⟩ := hc.open_ h0
    have HCOP := Lib.hid hcop
    obtain ⟨R, HR⟩ : ∃ R : Int, Hid ((if fmB C (.mk k n s l) then (sz (.mk k n s l) : Int) else 0) = R) := ⟨_, Lib.hid rfl⟩
    rw [HR.out]
    obtain ⟨L, hL⟩ : ∃ L, Hid (l.length = L) := ⟨_, Lib.hid rfl⟩
    obtain ⟨NC, hNC⟩ : ∃ NC, Hid (C.length = NC) := ⟨_, Lib.hid rfl⟩
    rw [hL.out] at hll hcap ⊢
    rw [hNC.out] at HRC hccap hC IH ⊢
    have hLb : L ≤ 9 := by have := HSZ.out; omega
    have HBX := Lib.hid (Bx.new w k n s (.slice ao L cap) 38)
    have HB0 := Lib.hid (balloc w (.cells #[.int .i64 k, .string ⟨s.toArray⟩, .int .i64 n, .int .i64 0, .slice none 0 0, .slice ao L cap] 38))
    have es := str_ne s []
    clear hq hrow hsz hsz2 hc hc5 hcop
    by_cases h5 : k = 5
    · subst h5
      by_cases hn0 : n = 0
      · subst hn0
        have C1 := fun (w' : World) (h : RowC w' (.slice (some ⟨cb, coff, none⟩) NC ccap) C) => find_c C Sd s _ w' h h0 (by rw [hNC.out]; exact hC)
        have CX := Lib.hid (fun (w' : World) (h : Below w.heap.size w w') => C1 w' (RowC.keep HRC.out h))
        clear C1
        obtain ⟨SE, hSE⟩ : ∃ b, (s == []) = b := ⟨_, rfl⟩
        rw [hSE] at es
        have main : Calls Try.prog 26 #[.slice (some ⟨cb, coff, none⟩) NC ccap, .agg #[.int .i64 5, .string ⟨s.toArray⟩, .int .i64 0, .int .i64 0, .slice none 0 0, .slice ao L cap]] w fun e w' => e = .returned (.int .i64 R) ∧ Below w.heap.size w w' := by
          cases SE
          all_goals
            go_enter Try.func26, Try.ntmps26
            go_wp2_with fail
            refine (CX.out _ HB0.out).mono ?_
            rintro e w1 ⟨r, rfl, rfl, hr⟩
            rcases hr with ⟨rfl, hcn⟩ | ⟨j, c, rfl, hcj, hcs⟩
            · have HRR := Lib.hid (show (0 : Int) = R from by
                rw [← HR.out, fm_no]
                show (if (5 : Int) = 5 then (match conOf C s with | none => false | some c => numOk (.mk 5 0 s l) && l.length == c.ar) else _) = false
                rw [if_pos rfl, hcn])
              clear hcn
              go_wp2_with fail
              go_quiet (fail)
              have HQ0 := Lib.hid (below_dN HB0.out nq)
              go_wp2_with fail
              go_ret
              exact ⟨ret_int HRR.out, HQ0.out⟩
            · obtain ⟨z0, z1, z2, z3, z4⟩ := HCOP.out j c hcj
              have hjn : j < NC := by rw [← hNC.out]; exact (List.getElem?_eq_some_iff.1 hcj).1
              have z3 := (HB0.out.cell (p := ⟨cb, coff + j * 5 + 3, none⟩) hclt).trans z3
              obtain ⟨hlz, y0, y1, y2, y3, y4, y5⟩ := HBX.out
              have i0 : (0 : Int) ≤ (j : Int) := by omega
              have i1 : (j : Int) < (NC : Int) := by omega
              have i2 : ¬ (j : Int) < 0 := by omega
              have i2b : decide ((j : Int) < 0) = false := by simp
              have HCS := Lib.hid hcs
              obtain ⟨AR, hAR⟩ : ∃ a, Hid (c.ar = a) := ⟨_, Lib.hid rfl⟩
              rw [hAR.out] at z3
              clear hcs hcj z0 z1 z2 z4
              by_cases hl : L = AR
              · subst hl
                have HRR := Lib.hid (show (if fmLB C l then (1 + szL l : Int) else 0) = R from by rw [← HR.out, fm_con HCS.out (by rw [hL.out, hAR.out])])
                have ine : ((L : Int) != (L : Int)) = false := by simp
                go_wp2_with fail
                go_quiet (fail)
                have HQ0 := Lib.hid (below_dN HB0.out nq)
                have HBX2 := Lib.hid (Bx.dN HBX.out nq)
                go_wp2_with fail
                obtain ⟨B, hB⟩ : ∃ B, Hid (w.heap.size = B) := ⟨_, Lib.hid rfl⟩
                rw [hB.out] at HBX2 ⊢
                clear HBX HB0 CX ine i0 i1 i2 i2b y0 y1 y2 y3 y4 y5 z3
                generalize World.drewN _ nq = W at HBX2 HQ0 ⊢
                go_loopg [6, 7, 8] L (fun g nv iv mv wr => ∃ (j z : Nat), j + g = L ∧ z ≤ 10 ∧ iv = .int .i64 (j : Int) ∧ nv = .int .i64 (z : Int) ∧ Hid (z = 1 + szL (l.take j)) ∧ Hid (fmLB C (l.take j) = true) ∧ Hid (Below w.heap.size w wr) ∧ Hid (Bx wr B 5 0 s (.slice ao L cap)))
                case atStart => exact ⟨0, 1, Nat.zero_add _, by omega, rfl, rfl, Lib.hid rfl, Lib.hid rfl, HQ0, HBX2⟩
                case round =>
                  obtain ⟨j2, z, hj2, hz, rfl, rfl, HZ, HFM, HX2, HBx⟩ := hrel
                  clear HBX2 HQ0
                  obtain ⟨hlz, y0, y1, y2, y3, y4, y5⟩ := HBx.out
                  by_cases hlt : j2 < L
                  · obtain ⟨g, rfl⟩ : ∃ g, gk = g + 1 := ⟨gk - 1, by omega⟩
                    have hlne : l ≠ [] := by intro e; have := hL.out; rw [e] at this; simp at this; omega
                    obtain ⟨b, off, cap', hve, _, hblt, hcells⟩ := HROW.out.open_ hlne
                    cases hve
                    obtain ⟨kid, hkid⟩ := getElem?_of_lt (l := l) (k := j2) (by rw [hL.out]; exact hlt)
                    obtain ⟨q2, hLs, hq2⟩ := hcells j2 kid hkid
                    have hszk := sz_kid hkid
                    have htk := szL_take hkid
                    have htl := szL_take_le l (j2 + 1)
                    have hpos : 1 ≤ sz kid := by have := sz_eq kid; omega
                    have hz3 : z + sz kid ≤ 10 := by have := HSZ.out; have := HZ.out; omega
                    have HZ2 := Lib.hid (show z + sz kid = 1 + szL (l.take (j2 + 1)) from by have := HZ.out; omega)
                    have HFA := Lib.hid (fun h : fmB C kid = false => fmLB_at hkid h)
                    have HFB := Lib.hid (fun h : fmB C kid = true => (show fmLB C (l.take (j2 + 1)) = true from by rw [List.take_add_one, hkid, fmLB_app, HFM.out]; show (true && (fmB C kid && true)) = true; rw [h]; rfl))
                    obtain ⟨x0, x1, x2, x3, x4, x5⟩ := hLs.keep HX2.out hblt
                    obtain ⟨k2, n2, s2, l2⟩ := kid
                    simp only [Nd.k, Nd.n, Nd.s] at x0 x1 x2
                    have C1 := fun (w' : World) (hb : Below w.heap.size w w') => IH.out k2 n2 s2 l2 q2 w' (by have := HSZ.out; omega) (RowC.keep HRC.out hb) (HasN.keep hb _ _ hq2)
                    have i0 : (0 : Int) ≤ (j2 : Int) := by omega
                    have i1 : (j2 : Int) < (L : Int) := by omega
                    clear hLs hq2 hkid hszk hcells hlne htk htl
                    cases hfb : fmB C (.mk k2 n2 s2 l2)
                    · have HRZ := Lib.hid (show (0 : Int) = R from by rw [← HRR.out, HFA.out hfb]; rfl)
                      simp only [hfb, Bool.false_eq_true, if_false] at C1
                      clear hfb hpos hz3 HZ2 HFA HFB
                      go_wp2_with (go_at_call 26; refine (C1 _ HX2.out).mono ?_; rintro e w3 ⟨rfl, hb⟩; have HB3 := Lib.hid hb; clear hb)
                      go_ret
                      exact ⟨ret_int HRZ.out, bnext HX2.out HB3.out⟩
                    · have HFC := Lib.hid (HFB.out hfb)
                      simp only [hfb, if_true] at C1
                      generalize sz (.mk k2 n2 s2 l2) = z2 at C1 HZ2 hz3 hpos
                      have i3 : ((z2 : Int) == 0) = false := by simp; omega
                      have i4 : ¬ ((z : Int) + (z2 : Int) > 30) := by omega
                      clear hfb HFA HFB
                      go_wp2_with (go_at_call 26; refine (C1 _ HX2.out).mono ?_; rintro e w3 ⟨rfl, hb⟩; have HB3 := Lib.hid hb; clear hb)
                      go_roundg g
                      case rel => exact ⟨j2 + 1, z + z2, by omega, hz3, by go_num, by go_num, HZ2, HFC, Lib.hid (bnext HX2.out HB3.out), Lib.hid (HBx.out.keep HB3.out)⟩
                      case measure => omega
                  · go_wp2_with fail
                    go_ret
                    refine ⟨ret_int ?_, HX2.out⟩
                    have e1 : l.take j2 = l := List.take_of_length_le (by rw [hL.out]; omega)
                    have h1 := HFM.out
                    have h2 := HZ.out
                    rw [e1] at h1 h2
                    rw [← HRR.out, h1, h2]
                    simp
              · have HRR := Lib.hid (show (0 : Int) = R from by
                  rw [← HR.out, fm_no]
                  show (if (5 : Int) = 5 then (match conOf C s with | none => false | some c => numOk (.mk 5 0 s l) && l.length == c.ar) else _) = false
                  rw [if_pos rfl, HCS.out]
                  simp [numOk, Nd.n, hL.out, hAR.out, hl])
                have ine : ((AR : Int) != (L : Int)) = true := by simp; omega
                go_wp2_with fail
                go_quiet (fail)
                have HQ0 := Lib.hid (below_dN HB0.out nq)
                go_wp2_with fail
                go_ret
                exact ⟨ret_int HRR.out, HQ0.out⟩
        exact main
      · have HRR := Lib.hid (show (0 : Int) = R from by
          rw [← HR.out, fm_no]
          show (if (5 : Int) = 5 then (match conOf C s with | none => false | some c => numOk (.mk 5 n s l) && l.length == c.ar) else _) = false
          rw [if_pos rfl]
          cases conOf C s <;> simp [numOk, Nd.n, Nd.k, hn0])
        have hnb : (n != 0) = true := by simpa using hn0
        go_enter Try.func26, Try.ntmps26
        go_wp2_with fail
        go_ret
        exact ⟨ret_int HRR.out, HB0.out⟩
    · have hfo : formedB C (.mk k n s l) = (if k = 24 ∨ k = 1 then (s == [] && (numOk (.mk k n s l) && l.length == 0)) else if k = 4 then (numOk (.mk k n s l) && l.length == 0) else false) := by
        show (if k = 5 then _ else _) = _
        rw [if_neg h5]; rfl
      have HFO := Lib.hid hfo
      clear hfo
      have n5 : (k != 5) = true := by simpa using h5
      by_cases hL0 : L = 0
      · have hl0 : l = [] := List.eq_nil_of_length_eq_zero (by rw [hL.out, hL0])
        subst hl0
        subst hL0
        have H5 := Lib.hid h5
        clear h5
        by_cases k1 : k = 1
        · subst k1
          cases hsb : (s == [])
          case false =>
            rw [hsb] at es
            have HRR := Lib.hid (show (0 : Int) = R from by
              rw [← HR.out, fm_no]
              rw [HFO.out]
              simp [hsb])
            go_enter Try.func26, Try.ntmps26
            go_wp2_with fail
            go_ret
            exact ⟨ret_int HRR.out, HB0.out⟩
          case true =>
            rw [hsb] at es
            obtain rfl : s = [] := by simpa using hsb
            by_cases hn : 0 ≤ n
            · have HRR := Lib.hid (show (1 : Int) = R from by
                rw [← HR.out, fm_leaf]
                rw [HFO.out]
                have : numOk (.mk 1 n [] []) = true := by simp [numOk, Nd.n, Nd.k]; omega
                rw [this]; rfl)
              go_enter Try.func26, Try.ntmps26
              go_wp2_with fail
              go_ret
              exact ⟨ret_int HRR.out, HB0.out⟩
            · have hnb : decide (0 ≤ n) = false := by simpa using hn
              have hrr : formedB C (.mk 1 n [] []) = false := by
                rw [HFO.out]
                have : numOk (.mk 1 n [] []) = false := by simp [numOk, Nd.n, Nd.k]; omega
                rw [this]; rfl
              have HRR := Lib.hid (show (0 : Int) = R from by rw [← HR.out, fm_no hrr])
              clear hrr
              have C1 := fun (w' : World) (h : RowC w' (.slice (some ⟨cb, coff, none⟩) NC ccap) C) => find_c C Sd [] _ w' h h0 (by rw [hNC.out]; exact hC)
              have CX := Lib.hid (fun (w' : World) (h : Below w.heap.size w w') => C1 w' (RowC.keep HRC.out h))
              clear C1
              go_enter Try.func26, Try.ntmps26
              go_wp2_with fail
              refine (CX.out _ HB0.out).mono ?_
              rintro e w1 ⟨r, rfl, rfl, _⟩
              go_wp2_with fail
              go_quiet (fail)
              have HQ0 := Lib.hid (below_dN HB0.out nq)
              go_wp2_with fail
              go_ret
              exact ⟨ret_int HRR.out, HQ0.out⟩
        · have n1 : (k != 1) = true := by simpa using k1
          by_cases hn : n = 0
          · subst hn
            cases hsb : (s == [])
            case false =>
              rw [hsb] at es
              by_cases k4 : k = 4
              · subst k4
                have HRR := Lib.hid (show (1 : Int) = R from by
                  rw [← HR.out, fm_leaf]
                  rw [HFO.out]
                  first | rfl | (simp [numOk, Nd.n, Nd.k]; done))
                go_enter Try.func26, Try.ntmps26
                go_wp2_with fail
                go_ret
                exact ⟨ret_int HRR.out, HB0.out⟩
              · have n4 : (k != 4) = true := by simpa using k4
                have HRR := Lib.hid (show (0 : Int) = R from by
                  rw [← HR.out, fm_no]
                  rw [HFO.out]
                  simp [k4, k1, hsb])
                go_enter Try.func26, Try.ntmps26
                go_wp2_with fail
                go_ret
                exact ⟨ret_int HRR.out, HB0.out⟩
            case true =>
              rw [hsb] at es
              obtain rfl : s = [] := by simpa using hsb
              by_cases k24 : k = 24
              · subst k24
                have HRR := Lib.hid (show (1 : Int) = R from by
                  rw [← HR.out, fm_leaf]
                  rw [HFO.out]
                  first | rfl | (simp [numOk, Nd.n, Nd.k]; done))
                go_enter Try.func26, Try.ntmps26
                go_wp2_with fail
                go_ret
                exact ⟨ret_int HRR.out, HB0.out⟩
              · by_cases k4 : k = 4
                · subst k4
                  have HRR := Lib.hid (show (1 : Int) = R from by
                    rw [← HR.out, fm_leaf]
                    rw [HFO.out]
                    first | rfl | (simp [numOk, Nd.n, Nd.k]; done))
                  go_enter Try.func26, Try.ntmps26
                  go_wp2_with fail
                  go_ret
                  exact ⟨ret_int HRR.out, HB0.out⟩
                · have b24 : (k == 24) = false := by simpa using k24
                  have b4 : (k == 4) = false := by simpa using k4
                  have b1 : (k == 1) = false := by simpa using k1
                  have hrr : formedB C (.mk k 0 [] []) = false := by
                    rw [HFO.out]
                    simp [k24, k4, k1]
                  have HRR := Lib.hid (show (0 : Int) = R from by rw [← HR.out, fm_no hrr])
                  clear hrr
                  have C1 := fun (w' : World) (h : RowC w' (.slice (some ⟨cb, coff, none⟩) NC ccap) C) => find_c C Sd [] _ w' h h0 (by rw [hNC.out]; exact hC)
                  have CX := Lib.hid (fun (w' : World) (h : Below w.heap.size w w') => C1 w' (RowC.keep HRC.out h))
                  clear C1
                  go_enter Try.func26, Try.ntmps26
                  go_wp2_with fail
                  refine (CX.out _ HB0.out).mono ?_
                  rintro e w1 ⟨r, rfl, rfl, _⟩
                  go_wp2_with fail
                  go_quiet (fail)
                  have HQ0 := Lib.hid (below_dN HB0.out nq)
                  go_wp2_with fail
                  go_ret
                  exact ⟨ret_int HRR.out, HQ0.out⟩
          · have nn : (n != 0) = true := by simpa using hn
            have HRR := Lib.hid (show (0 : Int) = R from by
              rw [← HR.out, fm_no]
              rw [HFO.out]
              first | (simp [numOk, Nd.n, Nd.k, hn, k1]; done) | (simp [numOk, Nd.n, Nd.k, hn]; done))
            go_enter Try.func26, Try.ntmps26
            go_wp2_with fail
            go_ret
            exact ⟨ret_int HRR.out, HB0.out⟩
      · have hLp : 0 < L := by omega
        have hLp2 : decide ((L : Int) > 0) = true := by simp; omega
        have HRR := Lib.hid (show (0 : Int) = R from by
          rw [← HR.out, fm_no]
          rw [HFO.out]
          have : (l.length == 0) = false := by rw [hL.out]; simpa using hL0
          rw [this]; simp)
        go_enter Try.func26, Try.ntmps26
        go_wp2_with fail
        go_ret
        exact ⟨ret_int HRR.out, HB0.out⟩
end Go.Proofs.Ytommaomhiaaphaa.DN
