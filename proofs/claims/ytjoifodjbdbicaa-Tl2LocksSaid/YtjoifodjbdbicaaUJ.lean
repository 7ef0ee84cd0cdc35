/- The document's engine: Read. -/
import Derived.Test.YtjoifodjbdbicaaUI
namespace Go.Proofs.Ytjoifodjbdbicaa.UJ
open Go.RowKit Go.Proofs.Ytjoifodjbdbicaa.RG Go.Proofs.Ytjoifodjbdbicaa.RB Go.Proofs.Ytjoifodjbdbicaa.RI Go.Proofs.Ytjoifodjbdbicaa.UA Go.Proofs.Ytjoifodjbdbicaa.UB Go.Proofs.Ytjoifodjbdbicaa.UC Go.Proofs.Ytjoifodjbdbicaa.UD Go.Proofs.Ytjoifodjbdbicaa.UE Go.Proofs.Ytjoifodjbdbicaa.UF Go.Proofs.Ytjoifodjbdbicaa.UG Go.Proofs.Ytjoifodjbdbicaa.UH Go.Proofs.Ytjoifodjbdbicaa.UI
set_option linter.unusedVariables false
set_option maxRecDepth 100000
set_option maxRecDepth 100000

/-- Where the best one of the first j stands. -/
def BestF (f : Option Pt → Pt → Option Pt) (L : List Pt) (j : Nat) (bv : Value) : Prop :=
  (bv = .int .i64 (-1) ∧ (L.take j).foldl f none = none) ∨ ∃ (b : Nat) (q : Pt), bv = .int .i64 (b : Int) ∧ b < L.length ∧ L[b]? = some q ∧ (L.take j).foldl f none = some q
theorem open_of {E : Eg} {i : Nat} {x : Tx} (hth : thR E (i : Int) = some x) : openR E (i : Int) = opn x := by unfold openR; rw [hth]
theorem setT_self {E : Eg} {i : Nat} {x : Tx} (h : E.T[i]? = some x) : setT E (i : Int) x = E := by
  obtain ⟨hi, e⟩ := List.getElem?_eq_some_iff.1 h
  unfold setT
  rw [Int.toNat_natCast, ← e, List.set_getElem_self]
theorem mem_take {l : List Int} {j : Nat} {z n : Int} (h : l[j]? = some z) : n ∈ l.take (j + 1) ↔ n ∈ l.take j ∨ z = n := by
  rw [List.take_add_one, h]
  simp only [Option.toList_some, List.mem_append, List.mem_singleton]
  exact or_congr Iff.rfl eq_comm
/-- What is read, by cases. -/
theorem readX_some {x : Tx} {v : Vr} {t n : Int} {p : Pt} (h : bestR n x.puts = some p) : readX x v t n = (x.reads, p.v, 0) := by unfold readX; rw [h]
theorem readX_bad {x : Tx} {v : Vr} {t n : Int} (h : bestR n x.puts = none) (h2 : lookR x.start t v ≠ 0) : readX x v t n = (x.reads, 0, lookR x.start t v) := by unfold readX; rw [h]; exact if_neg h2
theorem readX_old {x : Tx} {v : Vr} {t n : Int} (h : bestR n x.puts = none) (h2 : lookR x.start t v = 0) (h3 : n ∈ x.reads) : readX x v t n = (x.reads, v.val, 0) := by unfold readX; rw [h]; exact (if_pos h2).trans (by rw [if_pos h3])
theorem readX_new {x : Tx} {v : Vr} {t n : Int} (h : bestR n x.puts = none) (h2 : lookR x.start t v = 0) (h3 : ¬ n ∈ x.reads) : readX x v t n = (x.reads ++ [n], v.val, 0) := by unfold readX; rw [h]; exact (if_pos h2).trans (by rw [if_neg h3])
set_option maxHeartbeats 6400000 in
theorem rread_c (w : World) (F : Nat → Prop) (r : Nat) (E : Eg) (H : DE w F r E) (m : Nat) (HW : Wf m E) (hm : m ≤ 1000000) (t n : Int) :
    Calls Try.prog 40 #[.pointer (some ⟨r, 0, none⟩), .int .i64 t, .int .i64 n] w fun e w' => e = .returned (.tuple #[.int .i64 (readR E t n).2.1, .int .i64 (readR E t n).2.2]) ∧ OnS F w w' ∧ ∃ F', DE w' F' r (readR E t n).1 ∧ Gr w F F' := by
  have HH := Lib.hid H
  have HO := Lib.hid (ropen_c w F r E H HW.th t)
  have HS := Lib.hid (fun w1 (h : DE w1 F r E) => ris_c w1 F r E h n)
  by_cases hok : openR E t = true ∧ (vrR E n).isSome = true
  · obtain ⟨ho, hs⟩ := hok
    rcases thR_cases E HW.th t with ⟨hn, h1⟩ | ⟨i, x, rfl, hi, hx, hth⟩
    · unfold openR at ho; rw [hn] at ho; cases ho
    have hop : opn x = true := by rw [← open_of hth]; exact ho
    rcases vrR_cases E n with ⟨hn, h1⟩ | ⟨k, vr, rfl, hk, hv, hvr⟩
    · rw [hn] at hs; cases hs
    have hr : readR E (i : Int) (k : Int) = (setT E (i : Int) { x with reads := (readX x vr (i : Int) (k : Int)).1 }, (readX x vr (i : Int) (k : Int)).2) := by unfold readR; rw [hth, hvr]; exact if_pos hop
    rw [hr]
    obtain ⟨⟨RL, RV, RE⟩, hRX⟩ : ∃ y, readX x vr (i : Int) (k : Int) = y := ⟨_, rfl⟩
    rw [hRX]
    have HRY := Lib.hid hRX
    rw [ho] at HO
    rw [hs] at HS
    have HX := Lib.hid hx
    have HV := Lib.hid hv
    have H8 := Lib.hid HW.th
    have HPL := Lib.hid (Nat.le_trans (HW.tx x (mem_of hx)).puts hm)
    have HRL := Lib.hid (Nat.le_trans (HW.tx x (mem_of hx)).reads hm)
    have HLK := Lib.hid (fun w1 (h : DE w1 F r E) => rlook_c w1 F r E h HW.th i k x vr hx hv)
    have i0 : (0 : Int) ≤ (i : Int) := by omega
    have i1 : (i : Int) < 8 := by omega
    obtain ⟨np, hnp⟩ : ∃ np, Hid (x.puts.length = np) := ⟨_, Lib.hid rfl⟩
    have hnpm : np ≤ 1000000 := by rw [← hnp.out]; exact HPL.out
    clear hr hth hop hvr hx hv HW H ho hs hm hRX
    go_enter Try.func40, Try.ntmps40
    go_wp2_with fail
    refine HO.out.mono ?_
    rintro e w1 ⟨rfl, hb⟩
    have HB := Lib.hid hb
    clear hb
    go_wp2_with fail
    refine (HS.out w1 (HH.out.keep HB.out)).mono ?_
    rintro e w2 ⟨rfl, hb⟩
    have HB2 := Lib.hid (bnext HB.out hb)
    clear hb
    obtain ⟨vv, tv, Z, hd⟩ := HH.out.keep HB2.out
    have HD := Lib.hid hd
    clear hd
    go_wp2_with fail
    go_loopg [10, 11, 12] np (fun g bv iv pv wr => ∃ j : Nat, j + g = np ∧ iv = .int .i64 (j : Int) ∧ Hid (BestF (bestS (k : Int)) x.puts j bv) ∧ Hid (Below w2.heap.size w2 wr))
    case atStart => exact ⟨0, Nat.zero_add _, rfl, Lib.hid (.inl ⟨rfl, rfl⟩), Lib.hid (Below.refl _ _)⟩
    case round =>
      obtain ⟨j, hj, rfl, HBV, HB3⟩ := hrel
      have HJ := Lib.hid hj
      have hd := HD.out.keep HB3.out
      obtain ⟨z, hz, hzx⟩ := hd.zat HX.out
      obtain ⟨g, cap, cur, rfl, hkk, hg, hf, hF, c0, c1, c2, c3, c4, c5, c6, c7⟩ := hd.tx hz
      have y2 : wr.cell? ⟨r, 2, none⟩ = some (.slice (some ⟨g, 0, none⟩) E.T.length cap) := hd.bk.cell 2 _ rfl
      rw [H8.out] at y2
      have hpp := (hd.rows i z hz).2
      rw [hzx] at hpp
      by_cases hlt : j < np
      · obtain ⟨g', rfl⟩ : ∃ g, gk = g + 1 := ⟨gk - 1, by omega⟩
        obtain ⟨p, hp⟩ := getElem?_of_lt (l := x.puts) (k := j) (by rw [hnp.out]; exact hlt)
        obtain ⟨gp, cp, cu, hpv, hkp, hgp, hfp, x0, x1, x2⟩ := own_pt hpp hp
        rw [hpv, hnp.out] at c3
        have j0 : (0 : Int) ≤ (j : Int) := by omega
        have j1 : (j : Int) < (np : Int) := by omega
        have HF := Lib.hid (fold_take hp (bestS (k : Int)))
        have HP := Lib.hid hp
        have hrl := hd.bk.lt
        have HCS := Lib.hid (fun b q (hq : x.puts[b]? = some q) => own_pt hpp hq)
        have HPV := Lib.hid hpv
        obtain ⟨pn, pv2, pp⟩ := p
        simp only at x0 x1 x2
        have HBA := Lib.hid (bnext HB3.out (balloc wr (.cells #[.int .i64 pn, .int .i64 pv2, .int .i64 pp] 53)))
        clear hd hz hzx hkk hf hF c0 c1 c2 c4 c5 c6 c7 hpp hkp hfp hp hpv
        by_cases q1 : pn = (k : Int)
        · subst q1
          rcases HBV.out with ⟨rfl, hb⟩ | ⟨bi, q, rfl, hbi, hq, hb⟩
          · have HN := Lib.hid (show BestF (bestS (k : Int)) x.puts (j + 1) (.int .i64 (j : Int)) from .inr ⟨j, ⟨(k : Int), pv2, pp⟩, rfl, by rw [hnp.out]; exact hlt, HP.out, by rw [HF.out, hb]; exact if_pos rfl⟩)
            clear hb HF
            go_wp2_with fail
            go_quiet (fail)
            go_wp2_with fail
            go_roundg g'
            case rel => exact ⟨j + 1, by have := HJ.out; omega, by go_num, HN, Lib.hid (below_dN HBA.out _)⟩
            case measure => omega
          · obtain ⟨gq, cq, cuq, hqv, _, hgq, _, z0, z1, z2⟩ := HCS.out bi q hq
            rw [HPV.out] at hqv
            injection hqv with e1 e2 e3
            injection e1 with e1
            injection e1 with e1
            subst e1
            clear e2 e3
            obtain ⟨qn, qv, qp⟩ := q
            simp only at z0 z1 z2
            have b0 : ¬ (bi : Int) < 0 := by omega
            have b1 : (0 : Int) ≤ (bi : Int) := by omega
            rw [hnp.out] at hbi
            have b2 : (bi : Int) < (np : Int) := by omega
            by_cases q3 : qp < pp
            · have HN := Lib.hid (show BestF (bestS (k : Int)) x.puts (j + 1) (.int .i64 (j : Int)) from .inr ⟨j, ⟨(k : Int), pv2, pp⟩, rfl, by rw [hnp.out]; exact hlt, HP.out, by rw [HF.out, hb]; exact (if_pos rfl).trans (if_pos q3)⟩)
              clear hb hq HF
              go_wp2_with fail
              go_quiet (fail)
              go_wp2_with fail
              go_roundg g'
              case rel => exact ⟨j + 1, by have := HJ.out; omega, by go_num, HN, Lib.hid (below_dN HBA.out _)⟩
              case measure => omega
            · have HN := Lib.hid (show BestF (bestS (k : Int)) x.puts (j + 1) (.int .i64 (bi : Int)) from .inr ⟨bi, ⟨qn, qv, qp⟩, rfl, by rw [hnp.out]; exact hbi, hq, by rw [HF.out, hb]; exact (if_pos rfl).trans (if_neg q3)⟩)
              have q3' : decide (qp < pp) = false := decide_eq_false q3
              clear hb hq HF q3
              go_wp2_with fail
              go_quiet (fail)
              go_wp2_with fail
              go_roundg g'
              case rel => exact ⟨j + 1, by have := HJ.out; omega, by go_num, HN, Lib.hid (below_dN HBA.out _)⟩
              case measure => omega
        · have HN := Lib.hid (show BestF (bestS (k : Int)) x.puts (j + 1) u10 from by
            rcases HBV.out with ⟨h1, hb⟩ | ⟨bi, q, h1, hbi, hq, hb⟩
            · exact .inl ⟨h1, by rw [HF.out, hb]; exact if_neg q1⟩
            · exact .inr ⟨bi, q, h1, hbi, hq, by rw [HF.out, hb]; exact if_neg q1⟩)
          have e1 : (pn == (k : Int)) = false := by rw [beq_eq_false_iff_ne]; exact q1
          clear HF
          go_wp2_with fail
          go_quiet (fail)
          go_wp2_with fail
          go_roundg g'
          case rel => exact ⟨j + 1, by have := HJ.out; omega, by go_num, HN, Lib.hid (below_dN HBA.out _)⟩
          case measure => omega
      · have hjn : j = np := by omega
        subst hjn
        have hbx : BestF (bestS (k : Int)) x.puts j u10 := HBV.out
        have HTK : x.puts.take j = x.puts := List.take_of_length_le (by rw [hnp.out]; exact Nat.le_refl _)
        unfold BestF at hbx
        rw [HTK] at hbx
        have HBB := Lib.hid (bnext HB2.out HB3.out)
        have HDD := Lib.hid hd
        obtain ⟨pa, pc, hpv, _⟩ := hpp.val
        rw [hpv, hnp.out] at c3
        rcases hbx with ⟨rfl, hb⟩ | ⟨bi, q, rfl, hbi, hq, hb⟩
        · have hb' : bestR (k : Int) x.puts = none := hb
          have HLK2 := Lib.hid (HLK.out wr ⟨vv, _, Z, hd⟩)
          obtain ⟨lk, hlk⟩ : ∃ lk, lookR x.start (i : Int) vr = lk := ⟨_, rfl⟩
          rw [hlk] at HLK2
          by_cases h0 : lk = 0
          · subst h0
            obtain ⟨nr, hnr⟩ : ∃ nr, Hid (x.reads.length = nr) := ⟨_, Lib.hid rfl⟩
            have hnrm : nr ≤ 1000000 := by rw [← hnr.out]; exact HRL.out
            have HLK3 := Lib.hid hlk
            have HBN := Lib.hid hb'
            have HGI := Lib.hid (And.intro hg hd.bk.lt)
            clear hd hz hzx hkk hf hF c0 c1 c2 c4 c5 c6 c7 hpp hpv hb hb' HTK HBV hlk
            go_wp2_with fail
            refine HLK2.out.mono ?_
            rintro e w3 ⟨rfl, hb⟩
            have HB4 := Lib.hid (bnext HBB.out hb)
            have HD4 := Lib.hid (HDD.out.keep hb)
            clear hb
            go_wp2_with fail
            go_loopg [14] nr (fun g iv wr => ∃ j2 : Nat, j2 + g = nr ∧ iv = .int .i64 (j2 : Int) ∧ Hid (¬ (k : Int) ∈ x.reads.take j2) ∧ Hid (Below w3.heap.size w3 wr))
            case atStart => exact ⟨0, Nat.zero_add _, rfl, Lib.hid (by simp), Lib.hid (Below.refl _ _)⟩
            case round =>
              obtain ⟨j2, hj2, rfl, HNM, HB5⟩ := hrel
              have HJ2 := Lib.hid hj2
              have hd := HD4.out.keep HB5.out
              obtain ⟨z, hz, hzx⟩ := hd.zat HX.out
              obtain ⟨g2, cap2, cur2, htv, hkk, hg, hf, hF, c0, c1, c2, c3, c4, c5, c6, c7⟩ := hd.tx hz
              injection htv with e1 e2 e3
              injection e1 with e1
              injection e1 with e1
              subst e1
              subst e3
              clear e2
              have y2 : wr.cell? ⟨r, 2, none⟩ = some (.slice (some ⟨g, 0, none⟩) E.T.length cap) := hd.bk.cell 2 _ rfl
              rw [H8.out] at y2
              have hrr := (hd.rows i z hz).1
              rw [hzx] at hrr
              by_cases hlt2 : j2 < nr
              · obtain ⟨g2, rfl⟩ : ∃ g, gk = g + 1 := ⟨gk - 1, by omega⟩
                obtain ⟨zr, hzr⟩ := getElem?_of_lt (l := x.reads) (k := j2) (by rw [hnr.out]; exact hlt2)
                obtain ⟨br, cr, hrv, hbl, x0⟩ := own_int hrr hzr
                rw [hrv, hnr.out] at c2
                have jj0 : (0 : Int) ≤ (j2 : Int) := by omega
                have jj1 : (j2 : Int) < (nr : Int) := by omega
                have HMT := Lib.hid (mem_take (n := (k : Int)) hzr)
                by_cases q1 : zr = (k : Int)
                · subst q1
                  have HRX := Lib.hid (HRY.out.symm.trans (readX_old HBN.out HLK3.out (List.mem_of_mem_take ((HMT.out).2 (.inr rfl)))))
                  obtain ⟨gv, capv, curv, hvv, hkv, hgv, hfv, hFv, v0, v1, v2⟩ := hd.vr HV.out
                  have y1 : wr.cell? ⟨r, 1, none⟩ = some vv := hd.bk.cell 1 _ rfl
                  obtain ⟨N, hN⟩ : ∃ N, Hid (E.V.length = N) := ⟨_, Lib.hid rfl⟩
                  rw [hN.out] at hvv hk
                  rw [hvv] at y1
                  have k0 : (0 : Int) ≤ (k : Int) := by omega
                  have k1 : (k : Int) < (N : Int) := by omega
                  clear hd hz hzx hkk hf hF c0 c1 c3 c4 c5 c6 c7 hrr hzr hrv hkv hfv hFv v1 v2 hvv
                  go_wp2_with fail
                  go_ret2
                  obtain ⟨e1, e2⟩ := Prod.mk.inj HRX.out
                  obtain ⟨e2, e3⟩ := Prod.mk.inj e2
                  rw [e1, e2, e3, show ({ x with reads := x.reads } : Tx) = x from rfl, setT_self HX.out]
                  exact ⟨rfl, OnS.of (bnext HB4.out HB5.out), F, HH.out.keep (bnext HB4.out HB5.out), Gr.refl _ _⟩
                · have HNM2 := Lib.hid (show ¬ (k : Int) ∈ x.reads.take (j2 + 1) from fun h => by
                    rcases HMT.out.1 h with h | h
                    · exact HNM.out h
                    · exact q1 h)
                  have e1 : (zr == (k : Int)) = false := by rw [beq_eq_false_iff_ne]; exact q1
                  clear hd hz hzx hkk hf hF c0 c1 c3 c4 c5 c6 c7 hrr hzr hrv
                  go_wp2_with fail
                  go_roundg g2
                  case rel => exact ⟨j2 + 1, by have := HJ2.out; omega, by go_num, HNM2, HB5⟩
                  case measure => omega
              · have hjn : j2 = nr := by omega
                subst hjn
                have HRX := Lib.hid (HRY.out.symm.trans (readX_new HBN.out HLK3.out (by
                  have h := HNM.out
                  rw [List.take_of_length_le (by rw [hnr.out]; exact Nat.le_refl _)] at h
                  exact h)))
                obtain ⟨ra, rc, hrv, _⟩ := hrr.val
                rw [hrv, hnr.out] at c2
                have HBA := Lib.hid (bnext (bdr wr) (balloc wr.drew (.cells #[.int .i64 (k : Int)] 3)))
                have hrr2 : OwnF TI wr (.slice ra j2 rc) x.reads := by rw [hrv, hnr.out] at hrr; exact hrr
                have HOA := Lib.hid (hrr2.keep HBA.out)
                have HRN := Lib.hid (show RowR TI (wr.drew.alloc (.cells #[.int .i64 (k : Int)] 3)) (fun b => Nobody b ∧ (Value.slice ra j2 rc).ownBlock ≠ some b) (.slice (some ⟨wr.drew.heap.size, 0, none⟩) 1 1) [(k : Int)] from rowR_new (q := []) #[.int .i64 (k : Int)] 3 rfl rfl)
                have HLN := Lib.hid (show x.reads.length + [(k : Int)].length ≤ 100000000000 from by rw [hnr.out]; simp; omega)
                have HZR := Lib.hid (show z.rv = .slice ra j2 rc from by rw [hrv, hnr.out])
                have HDI := Lib.hid hd
                have HZ := Lib.hid hz
                have HZX := Lib.hid hzx
                have HVV := Lib.hid (show ∀ (w' : World) F' E' Z', DI w' F' r E' vv (.slice (some ⟨g, 0, none⟩) E.T.length cap) Z' → E'.V = E.V → ∃ gv capv, w'.cell? ⟨r, 1, none⟩ = some (.slice (some ⟨gv, 0, none⟩) E.V.length capv) ∧ gv < w'.heap.size ∧ w'.cell? ⟨gv, k * 3, none⟩ = some (.int .i64 vr.val) from fun w' F' E' Z' hdd he => by
                  obtain ⟨gv, capv, curv, hvv, hkv, hgv, hfv, hFv, v0, v1, v2⟩ := hdd.vr (i := k) (v := vr) (by rw [he]; exact HV.out)
                  have hc : w'.cell? ⟨r, 1, none⟩ = some vv := hdd.bk.cell 1 _ rfl
                  rw [hvv, he] at hc
                  exact ⟨gv, capv, hc, hgv, v0⟩)
                have HRB := Lib.hid hd.bk
                have hrl := hd.bk.lt
                have HKB := Lib.hid hkk
                have HNR := Lib.hid (show (Value.slice ra j2 rc).ownBlock ≠ some r from fun e => own_typ hrr2 hd.bk (by decide) e rfl)
                have HNG := Lib.hid (show (Value.slice ra j2 rc).ownBlock ≠ some g from fun e => own_typ hrr2 hkk (by decide) e rfl)
                obtain ⟨N, hN⟩ : ∃ N, Hid (E.V.length = N) := ⟨_, Lib.hid rfl⟩
                rw [hN.out] at hk HVV
                have k0 : (0 : Int) ≤ (k : Int) := by omega
                have k1 : (k : Int) < (N : Int) := by omega
                clear hd hz hzx hkk hf hF c0 c1 c3 c4 c5 c6 c7 hrr hrr2 hrv
                go_wp2_with fail
                go_region_law (first | (refine step_row TI (wr.drew.alloc (.cells #[.int .i64 (k : Int)] 3)) rfl (.tmp 144) (.tmp 146) rfl 0 Nobody (.slice ra j2 rc) (.slice (some ⟨wr.drew.heap.size, 0, none⟩) 1 1) x.reads [(k : Int)] (by rfl) (by rfl) HOA.out HRN.out HLN.out (Nat.zero_le _) ?_; intro ao6 n6 cap6 w6 hO6 hn6 hg6 ha6; clear hn6; have HO6 := Lib.hid hO6; have HG6 := Lib.hid hg6; have HA6 := Lib.hid ha6; have y26 : w6.cell? ⟨r, 2, none⟩ = some (.slice (some ⟨g, 0, none⟩) E.T.length cap) := ((HRB.out.keep HBA.out).grown hg6 HNR.out).cell 2 _ rfl; rw [H8.out] at y26; have f26 := ((HKB.out.keep HBA.out).grown hg6 HNG.out).free (i * 8 + 2); have c26 : w6.cell? ⟨g, i * 8 + 2, none⟩ = some (.slice ra j2 rc) := (World.cell?_of_block (w := wr) (a := ⟨g, i * 8 + 2, none⟩) ((hg6.block g (Nat.lt_of_lt_of_le HKB.out.lt HBA.out.size) (fun e => HNG.out e.symm)).trans (HBA.out.block g HKB.out.lt))).trans c2; clear hO6 hg6 ha6))
                all_goals
                  have hS6 : OnS (fun b => z.rv.ownBlock = some b) wr w6 := (OnS.of HBA.out).trans ((ons_grown HG6.out).weak fun b _ hb => by rw [HZR.out]; exact hb)
                  have hp6 : OwnF TPt w6 z.pv z.x.puts := ownF_on (HDI.out.rows i z HZ.out).2 hS6 (fun b e e2 => own_diff (HDI.out.rows i z HZ.out).2 (HDI.out.rows i z HZ.out).1 (by decide) e e2)
                  have hb6 : Blk wr z.rv (.slice ao6 n6 cap6) := fun b e => by
                    rcases HA6.out with h | h
                    · rw [HZR.out]; exact .inl (h ▸ e)
                    · rw [h] at e
                      have := Option.some.inj e
                      have h2 := HBA.out.size
                      exact .inr (by omega)
                  have hd6 := di_row HDI.out HZ.out (z' := ⟨{ z.x with reads := z.x.reads ++ [(k : Int)] }, .slice ao6 n6 cap6, z.pv⟩) hS6 (fun b hb => .inl hb) (by rw [HZX.out]; exact HO6.out) hp6 hb6 (fun b e => .inl e) (j := 2) (u := .slice ao6 n6 cap6) (by decide) rfl
                  obtain ⟨gv, capv, q1, q2, q3⟩ := HVV.out _ _ _ _ hd6 rfl
                  have HD6 := Lib.hid hd6
                  have HS6 := Lib.hid hS6
                  clear hd6 hS6 hp6 hb6
                  go_wp2_with fail
                  go_ret2
                  obtain ⟨e1, e2⟩ := Prod.mk.inj HRX.out
                  obtain ⟨e2, e3⟩ := Prod.mk.inj e2
                  rw [e1, e2, e3]
                  have hdf := HD6.out
                  simp only [HZX.out] at hdf
                  refine ⟨rfl, ?_, _, ⟨vv, _, _, hdf⟩, ?_⟩
                  · exact (OnS.of (bnext HB4.out HB5.out)).trans ((HS6.out.weak (fun b _ hb => (HDI.out.inz i z HZ.out b).1 hb)).trans ((OnS.cell g _ _).weak fun b _ hb => by rw [hb]; exact HDI.out.int g rfl))
                  · intro b hb
                    rcases hb with hb | hb
                    · exact .inl hb
                    · exact .inr (Nat.le_trans (bnext HB4.out HB5.out).size hb.1)
          · have hrx := HRY.out.symm.trans (readX_bad (v := vr) (t := (i : Int)) hb' (by rw [hlk]; exact h0))
            rw [hlk] at hrx
            have HRX := Lib.hid hrx
            clear hrx
            have hb0 : (lk != 0) = true := by rw [bne_iff_ne]; exact h0
            clear hd hz hzx hkk hf hF c0 c1 c2 c4 c5 c6 c7 hpp hpv hb hb' HTK HBV hlk
            go_wp2_with fail
            refine HLK2.out.mono ?_
            rintro e w3 ⟨rfl, hb⟩
            have HB4 := Lib.hid (bnext HBB.out hb)
            clear hb
            go_wp2_with fail
            go_ret2
            obtain ⟨e1, e2⟩ := Prod.mk.inj HRX.out
            obtain ⟨e2, e3⟩ := Prod.mk.inj e2
            rw [e1, e2, e3, show ({ x with reads := x.reads } : Tx) = x from rfl, setT_self HX.out]
            exact ⟨rfl, OnS.of HB4.out, F, HH.out.keep HB4.out, Gr.refl _ _⟩
        · have hb' : bestR (k : Int) x.puts = some q := hb
          have HRX := Lib.hid (HRY.out.symm.trans (readX_some (v := vr) (t := (i : Int)) hb'))
          obtain ⟨gq, cq, cuq, hqv, _, hgq, _, z0, z1, z2⟩ := own_pt hpp hq
          rw [hqv, hnp.out] at hpv
          injection hpv with e1 e2 e3
          subst e1
          subst e3
          clear e2
          rw [hnp.out] at hbi
          have b0 : ¬ (bi : Int) < 0 := by omega
          have b1 : (0 : Int) ≤ (bi : Int) := by omega
          have b2 : (bi : Int) < (j : Int) := by omega
          have b3 : (bi : Int) ≥ 0 := by omega
          clear hd hz hzx hkk hf hF c0 c1 c2 c4 c5 c6 c7 hpp hb hb' hq HTK HBV hqv z0 z2
          go_wp2_with fail
          go_ret2
          obtain ⟨e1, e2⟩ := Prod.mk.inj HRX.out
          obtain ⟨e2, e3⟩ := Prod.mk.inj e2
          rw [e1, e2, e3, show ({ x with reads := x.reads } : Tx) = x from rfl, setT_self HX.out]
          exact ⟨rfl, OnS.of HBB.out, F, HH.out.keep HBB.out, Gr.refl _ _⟩
  · have hr : readR E t n = (E, 0, 1) := by
      unfold readR
      unfold openR at hok
      cases h1 : thR E t with
      | none => rfl
      | some x =>
        cases h2 : vrR E n with
        | none => rfl
        | some y =>
          rw [h1, h2] at hok
          exact if_neg (fun h => hok ⟨h, rfl⟩)
    rw [hr]
    obtain ⟨a, ha⟩ : ∃ a, openR E t = a := ⟨_, rfl⟩
    obtain ⟨b, hb⟩ : ∃ b, (vrR E n).isSome = b := ⟨_, rfl⟩
    rw [ha] at HO hok
    rw [hb] at HS hok
    have hab : a = false ∨ (a = true ∧ b = false) := by cases a <;> cases b <;> simp at hok ⊢
    clear hr ha hb hok H HW hm
    rcases hab with rfl | ⟨rfl, rfl⟩
    all_goals
      go_enter Try.func40, Try.ntmps40
      go_wp2_with fail
      refine HO.out.mono ?_
      rintro e w1 ⟨rfl, hb⟩
      have HB := Lib.hid hb
      clear hb
      go_wp2_with fail
      refine (HS.out w1 (HH.out.keep HB.out)).mono ?_
      rintro e w2 ⟨rfl, hb⟩
      have HB2 := Lib.hid (bnext HB.out hb)
      clear hb
      go_wp2_with fail
      go_ret2
      exact ⟨rfl, OnS.of HB2.out, F, HH.out.keep HB2.out, Gr.refl _ _⟩
end Go.Proofs.Ytjoifodjbdbicaa.UJ
