/- The program's engine: each, handed Words$1. -/
import Derived.Test.YtjoifodjbdbicaaPX
namespace Go.Proofs.Ytjoifodjbdbicaa.PY1
open Go.RowKit Go.Proofs.Ytjoifodjbdbicaa.RG Go.Proofs.Ytjoifodjbdbicaa.RB Go.Proofs.Ytjoifodjbdbicaa.RI Go.Proofs.Ytjoifodjbdbicaa.RM Go.Proofs.Ytjoifodjbdbicaa.UA Go.Proofs.Ytjoifodjbdbicaa.UB Go.Proofs.Ytjoifodjbdbicaa.UD Go.Proofs.Ytjoifodjbdbicaa.UE Go.Proofs.Ytjoifodjbdbicaa.UG Go.Proofs.Ytjoifodjbdbicaa.UH Go.Proofs.Ytjoifodjbdbicaa.UI Go.Proofs.Ytjoifodjbdbicaa.UK Go.Proofs.Ytjoifodjbdbicaa.UZ Go.Proofs.Ytjoifodjbdbicaa.PA Go.Proofs.Ytjoifodjbdbicaa.PB Go.Proofs.Ytjoifodjbdbicaa.PC Go.Proofs.Ytjoifodjbdbicaa.PD Go.Proofs.Ytjoifodjbdbicaa.PE Go.Proofs.Ytjoifodjbdbicaa.PF Go.Proofs.Ytjoifodjbdbicaa.PG Go.Proofs.Ytjoifodjbdbicaa.PJ Go.Proofs.Ytjoifodjbdbicaa.PK Go.Proofs.Ytjoifodjbdbicaa.PM Go.Proofs.Ytjoifodjbdbicaa.PN Go.Proofs.Ytjoifodjbdbicaa.PO Go.Proofs.Ytjoifodjbdbicaa.PP Go.Proofs.Ytjoifodjbdbicaa.PQ Go.Proofs.Ytjoifodjbdbicaa.PR Go.Proofs.Ytjoifodjbdbicaa.PU Go.Proofs.Ytjoifodjbdbicaa.PV Go.Proofs.Ytjoifodjbdbicaa.PW Go.Proofs.Ytjoifodjbdbicaa.PX
set_option linter.unusedVariables false
set_option maxRecDepth 100000
set_option maxRecDepth 100000

section
variable {F : Nat → Prop} {p : Nat} {E : Eg} {vv : Value} {tv : Nat → Option Nat} {G : Nat → Nat → Prop}
set_option maxHeartbeats 6400000 in
theorem each_c (w : World) (H : EI w F p E vv tv G) (h8 : E.T.length = 8) (hV : E.V.length ≤ 4000) (HQ : ∀ (i : Nat) (x : Tx), E.T[i]? = some x → x.is = true → TQ E i x) (hp : ∀ x, x ∈ E.T → x.is = true → 1 ≤ x.parts ∧ x.parts ≤ 1000000) (h0 : ∀ x, x ∈ E.T → ∀ p, p ∈ x.puts → 0 ≤ p.n)
    {ca : Nat} {caps : Array Value} (hcaps : caps = #[.pointer (some ⟨ca, 0, none⟩)]) {r : List Int → Int → Int} {C : List Int → (Nat → Prop) → World → Prop} (HC : CL F 50 caps r (adE E).length C) {Φ0 : Nat → Prop} (hC0 : C [] Φ0 w) (hap : ∀ b, F b → ¬ Φ0 b) :
    Calls Try.prog 49 #[.pointer (some ⟨p, 0, none⟩), .func (.func 50) #[] caps] w fun e w' => e = .returned (.tuple #[]) ∧ ∃ Ec done Φ, Wy w F p E vv tv G r C Φ0 w' Ec done [] Φ := by
  subst hcaps
  have HW0 := Lib.hid (show Wy w F p E vv tv G r C Φ0 w E [] (adE E) Φ0 from ⟨H, way_start r E, hC0, hap, OnS.refl _ _, fun _ => OnS.refl _ _, Gr.refl _ _⟩)
  obtain ⟨va, vc, hvv, hvc⟩ := H.vs.val
  obtain ⟨N, hN⟩ : ∃ N, Hid (E.V.length = N) := ⟨_, Lib.hid rfl⟩
  have y1 : w.cell? ⟨p, 1, none⟩ = some (.slice va N vc) := by have h9 : w.cell? ⟨p, 1, none⟩ = some vv := H.bk.cell 1 _ rfl; rw [hvv, hN.out] at h9; exact h9
  have HVV := Lib.hid (show vv = .slice va N vc by rw [hvv, hN.out])
  have hNl : N ≤ 4000 := by rw [← hN.out]; exact hV
  have HCC := Lib.hid HC
  have HH0 := Lib.hid h0
  have HH8 := Lib.hid h8
  have HPP := Lib.hid hp
  have HQQ := Lib.hid HQ
  clear H hC0 hap hvv hvc HC h0 h8 hp HQ hV
  go_enter Try.func49, Try.ntmps49
  go_wp2_with fail
  go_loopg [4, 16] N (fun g nv iv wr => ∃ (j : Nat) (Ec : Eg) (Φ : Nat → Prop) (done : List Ad), j + g = N ∧ iv = .int .i64 (j : Int) ∧ Hid (Wy w F p E vv tv G r C Φ0 wr Ec done (((List.range N).map Ad.v).drop j ++ adT 0 E.T) Φ))
  case atStart =>
    exact ⟨0, E, Φ0, [], Nat.zero_add _, rfl, Lib.hid (by have := HW0.out; unfold adE at this; rw [hN.out] at this; exact this)⟩
  case round =>
    obtain ⟨j, Ec, Φ, done, hj, rfl, HWY⟩ := hrel
    have HJ := Lib.hid hj
    by_cases hlt : j < N
    · obtain ⟨g', rfl⟩ : ∃ g, gk = g + 1 := ⟨gk - 1, by omega⟩
      have hrem : ((List.range N).map Ad.v).drop j = Ad.v j :: ((List.range N).map Ad.v).drop (j + 1) := by
        rw [List.drop_eq_getElem_cons (by simpa using hlt)]
        simp
      have hW := HWY.out
      rw [hrem] at hW
      have hstep := hW.way.step
      obtain ⟨v, hv⟩ := getElem?_of_lt (l := Ec.V) (k := j) (by rw [hW.way.sm.vl, hN.out]; exact hlt)
      have hval : valA E (.v j) = v.val := by
        have h9 := hW.way.rm (.v j) (by simp)
        rw [← h9]
        show (match Ec.V[j]? with | some v => v.val | none => 0) = _
        rw [hv]
      rw [hval] at hstep
      have hei := hW.ei
      obtain ⟨gv, capv, curv, hvv, hkv, hgv, _⟩ := own_block hei.vs (by intro e; rw [e] at hv; simp at hv)
      rw [hW.way.sm.vl, hN.out] at hvv
      have hcN : N = N ∧ va = some ⟨gv, 0, none⟩ ∧ vc = capv := by
        have h9 := HVV.out.symm.trans hvv
        injection h9 with a1 _ a3
        exact ⟨rfl, a1, a3⟩
      obtain ⟨_, rfl, rfl⟩ := hcN
      have heiv := hei.vs
      rw [hvv] at heiv
      obtain ⟨_, vz, _, fz, gl⟩ := vs_at heiv hv
      have yr : wr.cell? ⟨p, 1, none⟩ = some (.slice (some ⟨gv, 0, none⟩) N vc) := by have h9 : wr.cell? ⟨p, 1, none⟩ = some vv := hei.bk.cell 1 _ rfl; rw [hvv] at h9; exact h9
      have hdl : (done.map (valA E)).length < (adE E).length := by rw [hW.way.all]; simp
      obtain ⟨l0, hl0⟩ : ∃ l0, Hid (done.map (valA E) = l0) := ⟨_, Lib.hid rfl⟩
      have hcl := hW.cl
      rw [hl0.out] at hcl hdl hstep
      have HCALL := Lib.hid (HCC.out.call (HCC.out.on hcl (S := fun _ => False) (OnS.of (bdr wr)) (fun _ _ h => h) (fun _ h => h.elim)) hdl v.val)
      have hdr := HCC.out.low hcl
      have f0 := fz
      have j0 : (0 : Int) ≤ (j : Int) := by omega
      have j1 : (j : Int) < (N : Int) := by omega
      obtain ⟨va0, ve0, lo0⟩ := v
      simp only at vz hval hstep HCALL
      have HWR := Lib.hid hW
      have HSTEP := Lib.hid hstep
      have HVAL := Lib.hid hval
      have HV := Lib.hid hv
      have HYR := Lib.hid yr
      have HKV := Lib.hid hkv
      have HGV := Lib.hid hvv
      clear hW hstep hv hval hei hkv hgv heiv hcl hdl hrem HWY hdr hvv
      go_wp2_with fail
      go_region_law (first | (go_simp; refine HCALL.out.mono ?_; rintro e w2 ⟨rfl, ho2, hc2⟩; have HO2 := Lib.hid ho2; have HC2 := Lib.hid hc2; have yr2 : w2.cell? ⟨p, 1, none⟩ = some (.slice (some ⟨gv, 0, none⟩) N vc) := (World.cell?_of_block (w := wr.drew) (a := ⟨p, 1, none⟩) (ho2.block p HWR.out.ei.bk.lt (HWR.out.ap p HWR.out.ei.own))).trans HYR.out; have vz2 : w2.cell? ⟨gv, j * 3, none⟩ = some (.int .i64 va0) := (World.cell?_of_block (w := wr.drew) (a := ⟨gv, j * 3, none⟩) (ho2.block gv HKV.out.lt (HWR.out.ap gv (HWR.out.ei.inv gv (by rw [HGV.out]; rfl))))).trans vz; have fz2 : w2.frozen? ⟨gv, j * 3, none⟩ = false := ((ho2.bk (Bk.drew HKV.out) (HWR.out.ap gv (HWR.out.ei.inv gv (by rw [HGV.out]; rfl)))).free (j * 3)); clear ho2 hc2))
      all_goals
        go_wp2_with fail
        go_roundg g'
        case rel =>
          have h1 := (OnS.of (S := Φ) (bdr wr)).trans HO2.out
          obtain ⟨Φ', hc2, hg2⟩ := HC2.out
          have he2 := HWR.out.mid h1
          rw [HGV.out] at he2
          obtain ⟨he3, h3⟩ := ei_v he2 HV.out (fun x hx q hq => by
            obtain ⟨k, hk⟩ := List.getElem?_of_mem hx
            obtain ⟨y, P', h5, rfl, h6⟩ := HWR.out.way.sm.ats hk
            obtain ⟨q', h7, h8, _⟩ := smP_mem h6 hq
            rw [← h8]
            exact HH0.out y (mem_of h5) q' h7) (r l0 va0)
          rw [← HGV.out] at he3
          have hnx := Wy.next HCC.out HWR.out (u := va0) HVAL.out h1 (hl0.out ▸ hc2) hg2 (hl0.out ▸ he3) h3 (fun b hb => by rw [hb]; exact HWR.out.ei.inv gv (by rw [HGV.out]; rfl)) (fun hid => by rw [hl0.out] at hid; rw [hid]; exact setCell_same vz2)
          exact ⟨j + 1, _, Φ', done ++ [Ad.v j], by have := HJ.out; omega, by go_num, Lib.hid hnx⟩
        case measure => omega
    · have hjN : j = N := by omega
      subst hjN
      have hW := HWY.out
      rw [List.drop_eq_nil_of_le (by simp), List.nil_append] at hW
      have HWR := Lib.hid hW
      have yb := hW.ei.bk
      have t2 : wr.cell? ⟨p, 2, none⟩ = some (ptr (tv 0)) := yb.cell 2 _ rfl
      have t3 : wr.cell? ⟨p, 3, none⟩ = some (ptr (tv 1)) := yb.cell 3 _ rfl
      have t4 : wr.cell? ⟨p, 4, none⟩ = some (ptr (tv 2)) := yb.cell 4 _ rfl
      have t5 : wr.cell? ⟨p, 5, none⟩ = some (ptr (tv 3)) := yb.cell 5 _ rfl
      have t6 : wr.cell? ⟨p, 6, none⟩ = some (ptr (tv 4)) := yb.cell 6 _ rfl
      have t7 : wr.cell? ⟨p, 7, none⟩ = some (ptr (tv 5)) := yb.cell 7 _ rfl
      have t8 : wr.cell? ⟨p, 8, none⟩ = some (ptr (tv 6)) := yb.cell 8 _ rfl
      have t9 : wr.cell? ⟨p, 9, none⟩ = some (ptr (tv 7)) := yb.cell 9 _ rfl
      clear hW HWY yb
      go_wp2_with fail
      clear t2 t3 t4 t5 t6 t7 t8 t9
      go_loopg [6, 41] 8 (fun g xv iv ws => ∃ (k : Nat) (Ec : Eg) (Φ : Nat → Prop) (done : List Ad), k + g = 8 ∧ iv = .int .i64 (k : Int) ∧ Hid (Wy w F p E vv tv G r C Φ0 ws Ec done (adT k (E.T.drop k)) Φ))
      case atStart =>
        exact ⟨0, Ec, Φ, done, rfl, rfl, HWR⟩
      case round =>
        obtain ⟨k, Ec, Φ, done, hk, rfl, HWY⟩ := hrel
        have HK := Lib.hid hk
        by_cases hk8 : k < 8
        · obtain ⟨g', rfl⟩ : ∃ g, gk = g + 1 := ⟨gk - 1, by omega⟩
          have hidx := fun w0 => idx8 w0 tv hk8
          have k0 : (0 : Int) ≤ (k : Int) := by omega
          have k1 : (k : Int) < 8 := by omega
          obtain ⟨x, hx⟩ := getElem?_of_lt (l := E.T) (k := k) (by rw [HH8.out]; exact hk8)
          have hdrop : E.T.drop k = x :: E.T.drop (k + 1) := by
            have h9 := List.getElem?_eq_some_iff.1 hx
            rw [List.drop_eq_getElem_cons h9.1, h9.2]
          have hW := HWY.out
          rw [hdrop] at hW
          have hW : Wy w F p E vv tv G r C Φ0 wr Ec done (adX k x ++ adT (k + 1) (E.T.drop (k + 1))) Φ := hW
          obtain ⟨P0, hx0, hsm0⟩ := hW.way.sm.ts k x hx
          have HXE := Lib.hid hx
          cases hs : x.is with
          | false =>
            have htv : tv k = none := (hW.ei.th0 k _ hx0 hs).1
            rw [htv, ptr_none] at hidx
            have hax : adX k x = [] := by unfold adX; rw [if_neg (by rw [hs]; decide)]
            rw [hax, List.nil_append] at hW
            have HWR := Lib.hid hW
            clear hW HWY hx hx0 hsm0 hdrop hax htv hs
            go_wp2_with fail
            go_roundg g'
            case rel => exact ⟨k + 1, Ec, Φ, done, by have := HK.out; omega, by go_num, HWR⟩
            case measure => omega
          | true =>
            obtain ⟨b, htv, rv, pv, lv, ms0, hX0⟩ := hW.ei.th1 k _ hx0 hs
            rw [htv, ptr_some] at hidx
            have hlft : lftR Ec.V (k : Int) { x with puts := P0 } = lftR E.V (k : Int) x := lft_sm hW.way.sm hsm0 (HH0.out x (mem_of hx))
            rw [hlft] at hX0
            have hpp := HPP.out x (mem_of hx) hs
            obtain ⟨M, hM⟩ : ∃ M, Hid (ms0.length = M) := ⟨_, Lib.hid rfl⟩
            have hMx : x.parts = (M : Int) := by have h9 := hX0.np; rw [hM.out] at h9; exact h9.symm
            have hMp : 1 ≤ M := by omega
            have hMl : M ≤ 1000000 := by omega
            obtain ⟨mbs, hmbs⟩ : ∃ mbs, Hid (ms0.map (·.1) = mbs) := ⟨_, Lib.hid rfl⟩
            have hmbl : mbs.length = M := by rw [← hmbs.out, List.length_map]; exact hM.out
            have hne : ms0.map (·.1) ≠ [] := by intro e; have h9 := congrArg List.length e; rw [List.length_map, hM.out] at h9; simp at h9; omega
            obtain ⟨gb, capb, curb, hpv, _, hgbl, _⟩ := own_block hX0.pt hne
            rw [List.length_map, hM.out] at hpv
            have hax : adX k x = (List.range M).flatMap (adP k x.puts) := by unfold adX; rw [if_pos hs, hMx]; rfl
            rw [hax] at hW
            have c2 : wr.cell? ⟨b, 2, none⟩ = some (.slice (some ⟨gb, 0, none⟩) M capb) := by have h9 : wr.cell? ⟨b, 2, none⟩ = some pv := hX0.cells.2.2.1; rw [hpv] at h9; exact h9
            have HWR := Lib.hid (show Wy w F p E vv tv G r C Φ0 wr Ec done (((List.range M).drop 0).flatMap (adP k x.puts) ++ adT (k + 1) (E.T.drop (k + 1))) Φ from hW)
            have HX0 := Lib.hid (show TX wr (G k) b { x with puts := P0 } (lftR E.V (k : Int) x) rv pv lv ms0 ∧ Ec.T[k]? = some { x with puts := P0 } ∧ SmP x.puts P0 ∧ ms0.map (·.1) = mbs from ⟨hX0, hx0, hsm0, hmbs.out⟩)
            have HTV := Lib.hid htv
            have HS := Lib.hid hs
            have HPV := Lib.hid hpv
            have HMX := Lib.hid hMx
            have HQ := Lib.hid (HQQ.out k x hx hs)
            clear hW HWY hx hx0 hsm0 hdrop hax htv hs hX0 hlft hpp hMx hne hpv
            go_wp2_with fail
            go_loopg [8, 10, 51] M (fun g mv nv iv ws1 => ∃ (q : Nat) (Ec : Eg) (Φ : Nat → Prop) (done : List Ad) (P : List Pt) (ms : List Mp), q + g = M ∧ iv = .int .i64 (q : Int) ∧ Hid (Wy w F p E vv tv G r C Φ0 ws1 Ec done (((List.range M).drop q).flatMap (adP k x.puts) ++ adT (k + 1) (E.T.drop (k + 1))) Φ) ∧ Hid (TX ws1 (G k) b { x with puts := P } (lftR E.V (k : Int) x) rv pv lv ms ∧ Ec.T[k]? = some { x with puts := P } ∧ SmP x.puts P ∧ ms.map (·.1) = mbs))
            case atStart => exact ⟨0, Ec, Φ, done, P0, ms0, Nat.zero_add _, rfl, HWR, HX0⟩
            case round =>
              obtain ⟨q, Ec, Φ, done, P, ms, hq, rfl, HWY, HX⟩ := hrel
              have HQJ := Lib.hid hq
              by_cases hqM : q < M
              · obtain ⟨g2, rfl⟩ : ∃ g, gk = g + 1 := ⟨gk - 1, by omega⟩
                have hms : ms.length = M := by have h9 := congrArg List.length HX.out.2.2.2; rw [List.length_map, hmbl] at h9; exact h9
                obtain ⟨m, hm⟩ := getElem?_of_lt (l := ms) (k := q) (by rw [hms]; exact hqM)
                have hX := HX.out.1
                have hisp := hX.isp q m hm
                have hsmP := HX.out.2.2.1
                have hsmall : Small m.2 := fun n hn => by
                  obtain ⟨p1, h1, h2, _⟩ := hisp.key.1 hn
                  obtain ⟨p2, h3, h4, _⟩ := smP_mem hsmP h1
                  rw [← h2, ← h4]
                  exact HQ.out.small p2 h3
                have hkl : srt (keys m.2) = (sortR x.puts ((q : Int) + 1)).map (·.n) := (hisp.sorted fun p1 h1 => by
                  obtain ⟨p2, h3, h4, _⟩ := smP_mem hsmP h1
                  rw [← h4]
                  exact (HQ.out.small p2 h3).1).trans (smP_sort hsmP (fun p1 h1 => (HQ.out.small p1 h1).1) _)
                obtain ⟨n, hn⟩ : ∃ n, Hid (m.2.length = n) := ⟨_, Lib.hid rfl⟩
                have hnl : n ≤ 100000 := by rw [← hn.out]; have h1 := hisp.len; have h2 := smP_len hsmP; have h3 := HQ.out.pl; exact Nat.le_trans h1 (by show P.length ≤ _; omega)
                obtain ⟨KL, hKL⟩ : ∃ KL, Hid ((sortR x.puts ((q : Int) + 1)).map (·.n) = KL) := ⟨_, Lib.hid rfl⟩
                rw [hKL.out] at hkl
                have hKn : KL.length = n := by rw [← hkl, srt_len, ← hn.out]; simp [keys]
                have HKN := Lib.hid hKn
                have HRI := Lib.hid (PH.rising_c wr m.1 m.2 (hX.mp m (mem_of hm)) hisp.nd hsmall (by rw [hn.out]; exact hnl))
                rw [hn.out, hkl] at HRI
                obtain ⟨bq, offq, capq, hpvq, _, _, hcq⟩ := hX.pt.row.open_ (by intro e; have h9 := congrArg List.length e; rw [List.length_map, hms] at h9; simp at h9; omega)
                rw [HPV.out] at hpvq
                injection hpvq with e1 eL eC
                clear eL eC
                injection e1 with e1
                injection e1 with e1 e3
                subst e1
                subst e3
                obtain ⟨qq, hLq, _⟩ := hcq q m.1 (by rw [List.getElem?_map, hm]; rfl)
                have y0 : wr.cell? ⟨gb, q, none⟩ = some (.map (some m.1)) := by have h9 := hLq 0 _ rfl; simpa [TMp, Ty.flat] using h9
                have q0 : (0 : Int) ≤ (q : Int) := by omega
                have q1 : (q : Int) < (M : Int) := by omega
                have hW := HWY.out
                have hdr : ((List.range M).drop q).flatMap (adP k x.puts) = adP k x.puts q ++ ((List.range M).drop (q + 1)).flatMap (adP k x.puts) := by
                  rw [List.drop_eq_getElem_cons (by simpa using hqM), List.flatMap_cons]
                  simp
                rw [hdr, List.append_assoc] at hW
                obtain ⟨RR, hRR⟩ : ∃ RR, Hid (((List.range M).drop (q + 1)).flatMap (adP k x.puts) ++ adT (k + 1) (E.T.drop (k + 1)) = RR) := ⟨_, Lib.hid rfl⟩
                rw [hRR.out] at hW
                have hadp : adP k x.puts q = (KL.map fun n => Ad.t k ((q : Int) + 1) n).drop 0 := by unfold adP; rw [hKL.out]; rfl
                rw [hadp] at hW
                have HWR := Lib.hid hW
                have HXR := Lib.hid (And.intro HX.out (show mbs[q]? = some m.1 by rw [← HX.out.2.2.2, List.getElem?_map, hm]; rfl))
                obtain ⟨mb, hmb⟩ : ∃ mb, m.1 = mb := ⟨_, rfl⟩
                rw [hmb] at HRI HXR y0
                clear hW HWY HX hms hm hX hisp hsmP hsmall hkl hKn hcq hLq hdr hadp hn hmb
                go_wp2_with (go_at_call 54; refine HRI.out.mono ?_; rintro e w3 ⟨g3, cap3, rfl, hr3, hk3, hg3, hb3⟩; have HR3 := Lib.hid hr3; have HK3 := Lib.hid hk3; have HG3 := Lib.hid hg3; have HB3 := Lib.hid hb3; clear hr3 hk3 hg3 hb3)
                have HW3 := Lib.hid (HWR.out.keep HCC.out HB3.out)
                have HX3 := Lib.hid (HXR.out.1.1.keep HB3.out)
                have HG3F := Lib.hid (show ¬ F g3 ∧ ¬ Φ g3 from ⟨fun h => by have := HWR.out.ei.lt _ h; have := HG3.out; omega, fun h => by have := HCC.out.low HWR.out.cl _ h; have := HG3.out; omega⟩)
                obtain ⟨W3, hW3⟩ : ∃ W3, Hid (w3 = W3) := ⟨_, Lib.hid rfl⟩
                go_loopg [10, 58] n (fun g nv iv ws2 => ∃ (j : Nat) (Ec : Eg) (Φ : Nat → Prop) (done : List Ad) (P : List Pt) (ms : List Mp), j + g = n ∧ iv = .int .i64 (j : Int) ∧ Hid (Wy w F p E vv tv G r C Φ0 ws2 Ec done ((KL.map fun n => Ad.t k ((q : Int) + 1) n).drop j ++ RR) Φ) ∧ Hid (TX ws2 (G k) b { x with puts := P } (lftR E.V (k : Int) x) rv pv lv ms ∧ Ec.T[k]? = some { x with puts := P } ∧ SmP x.puts P ∧ ms.map (·.1) = mbs) ∧ Hid (RowI ws2 (.slice (some ⟨g3, 0, none⟩) n cap3) KL ∧ ¬ Φ g3 ∧ ∃ cur, Bk ws2 g3 cur 3))
                case atStart => exact ⟨0, Ec, Φ, done, P, ms, Nat.zero_add _, rfl, HW3, Lib.hid ⟨HX3.out, HXR.out.1.2⟩, Lib.hid ⟨HR3.out, HG3F.out.2, HK3.out⟩⟩
                case round =>
                  obtain ⟨j, Ec, Φ, done, P, ms, hj, rfl, HWY, HX, HROW⟩ := hrel
                  have HJJ := Lib.hid hj
                  by_cases hjn : j < n
                  · obtain ⟨g4, rfl⟩ : ∃ g, gk = g + 1 := ⟨gk - 1, by omega⟩
                    obtain ⟨nj, hnj⟩ := getElem?_of_lt (l := KL) (k := j) (by rw [HKN.out]; exact hjn)
                    have z0 := row_int HROW.out.1 hnj
                    have hX := HX.out.1
                    have hms : ms.length = M := by have h9 := congrArg List.length HX.out.2.2.2; rw [List.length_map, hmbl] at h9; exact h9
                    obtain ⟨m, hm⟩ := getElem?_of_lt (l := ms) (k := q) (by rw [hms]; exact hqM)
                    have hmb2 : m.1 = mb := by
                      have h9 := HXR.out.2
                      rw [← HX.out.2.2.2, List.getElem?_map, hm] at h9
                      injection h9
                    have hisp := hX.isp q m hm
                    have hsmP := HX.out.2.2.1
                    have hmapB := hX.mp m (mem_of hm)
                    rw [hmb2] at hmapB
                    have hkl2 : (sortR P ((q : Int) + 1)).map (·.n) = KL := (smP_sort hsmP (fun p1 h1 => (HQ.out.small p1 h1).1) _).trans hKL.out
                    have hkey : nj ∈ keys m.2 := hisp.key.2 (by
                      have h9 := mem_of hnj
                      rw [← hkl2] at h9
                      obtain ⟨p1, h1, h2⟩ := List.mem_map.1 h9
                      exact ⟨p1, (sortR_mem h1).1, h2, (sortR_mem h1).2⟩)
                    obtain ⟨u, hu⟩ := asc_some.1 hkey
                    have hdrop : (KL.map fun n => Ad.t k ((q : Int) + 1) n).drop j = Ad.t k ((q : Int) + 1) nj :: (KL.map fun n => Ad.t k ((q : Int) + 1) n).drop (j + 1) := by
                      have h9 := List.getElem?_eq_some_iff.1 hnj
                      rw [List.drop_eq_getElem_cons (by rw [List.length_map]; exact h9.1)]
                      simp [h9.2]
                    have hW := HWY.out
                    rw [hdrop] at hW
                    have hval : valA E (.t k ((q : Int) + 1) nj) = u := by
                      rw [← hW.way.rm _ (by simp)]
                      show (match Ec.T[k]? with | some x => (gt x.puts nj ((q : Int) + 1)).getD 0 | none => 0) = u
                      rw [HX.out.2.1]
                      show (gt P nj ((q : Int) + 1)).getD 0 = u
                      rw [← hisp.eq, hu]
                      rfl
                    have hlk := (run_look (P := Try.prog) (MT := 88) (KT := 3) (ET := 3) Try.underlying88 Try.underlying3 Try.zeroValue3 wr mb m.2 nj hmapB).2
                    rw [hu] at hlk
                    have hlk : (Instr.lookup 88 (.map (some mb)) (.int .i64 nj) false).run Try.prog wr = .ok (.int .i64 u) wr := hlk
                    have hdl : (done.map (valA E)).length < (adE E).length := by rw [hW.way.all]; simp
                    obtain ⟨l0, hl0⟩ : ∃ l0, Hid (done.map (valA E) = l0) := ⟨_, Lib.hid rfl⟩
                    have hcl := hW.cl
                    rw [hl0.out] at hcl hdl
                    have HCALL := Lib.hid (HCC.out.call hcl hdl u)
                    have hlft : lftR Ec.V (k : Int) { x with puts := P } = lftR E.V (k : Int) x := lft_sm hW.way.sm hsmP (HH0.out x (mem_of HXE.out))
                    have HLFT := Lib.hid hlft
                    have HWR4 := Lib.hid hW
                    have HVAL := Lib.hid hval
                    have HM := Lib.hid hm
                    have HMB2 := Lib.hid hmb2
                    have HKEY := Lib.hid hkey
                    have HU := Lib.hid hu
                    have HMPB := Lib.hid hmapB
                    have j0 : (0 : Int) ≤ (j : Int) := by omega
                    have j1 : (j : Int) < (n : Int) := by omega
                    have hmF : F mb := by rw [← hmb2]; exact hW.ei.gf k _ (hX.inm m (mem_of hm))
                    have HMF := Lib.hid hmF
                    clear hnj hX hms hm hmb2 hisp hsmP hmapB hkl2 hkey hu hdrop hW hval hdl hcl hlft HWY hmF
                    go_wp2_with (refine HCALL.out.mono ?_; rintro e w5 ⟨rfl, ho5, hc5⟩; have HO5 := Lib.hid ho5; have HC5 := Lib.hid hc5; have hm5 := HMPB.out.on ho5 (HWR4.out.ap mb HMF.out); have hput := run_put (P := Try.prog) (MT := 88) (KT := 3) (ET := 3) Try.underlying88 Try.underlying3 w5 mb m.2 nj (r l0 u) hm5; have HM5 := Lib.hid hm5; clear ho5 hc5 hm5)
                    go_roundg g4
                    case rel =>
                      obtain ⟨Φ', hc5, hg5⟩ := HC5.out
                      have he5 := HWR4.out.mid HO5.out
                      have hX5 := HX.out.1.on HO5.out (fun c hc h => HWR4.out.ap c (HWR4.out.ei.gf k c hc) h)
                      have h0c : ∀ y, y ∈ Ec.T → ∀ p1, p1 ∈ y.puts → 0 ≤ p1.n := fun y hy p1 hp1 => by
                        obtain ⟨kk, hkk⟩ := List.getElem?_of_mem hy
                        obtain ⟨y0, P', h5, rfl, h6⟩ := HWR4.out.way.sm.ats hkk
                        obtain ⟨p2, h7, h8, _⟩ := smP_mem h6 hp1
                        rw [← h8]
                        exact HH0.out y0 (mem_of h5) p2 h7
                      have hms5 : (ms.set q (m.1, putK nj (r l0 u) m.2)).map (·.1) = mbs := by
                        rw [List.map_set, HX.out.2.2.2]
                        have h9 := HXR.out.2
                        rw [← HMB2.out] at h9
                        apply List.ext_getElem?
                        intro kk
                        rw [List.getElem?_set]
                        split
                        · next e => subst e; rw [if_pos (by rw [hmbl]; exact hqM), h9]
                        · rfl
                      obtain ⟨he6, h6⟩ := ei_t he5 HX.out.2.1 HS.out HTV.out (HLFT.out.symm ▸ hX5) HM.out HKEY.out h0c (r l0 u)
                      have hX6 := tx_part hX5 HM.out nj (r l0 u) h6 ((hX5.mp m (mem_of HM.out)).put nj (r l0 u))
                      rw [HMB2.out] at he6 h6 hX6
                      have hnx := Wy.next HCC.out HWR4.out (u := u) HVAL.out HO5.out (hl0.out ▸ hc5) hg5 (hl0.out ▸ he6) h6 (fun c hc => by rw [hc]; exact HMF.out) (fun hid => by rw [hl0.out] at hid; rw [hid]; exact putM_same HM5.out HU.out)
                      have hxT : (updA Ec (.t k ((q : Int) + 1) nj) (r l0 u)).T[k]? = some { x with puts := putR nj (r l0 u) ((q : Int) + 1) P } := by
                        unfold updA
                        simp only [HX.out.2.1]
                        unfold setT
                        rw [Int.toNat_natCast]
                        exact set_some HX.out.2.1
                      have hsm6 : SmP x.puts (putR nj (r l0 u) ((q : Int) + 1) P) := Eq.trans (show kys _ = kys P from smP_put ((HX.out.1.isp q m HM.out).key.1 HKEY.out)) HX.out.2.2.1
                      have hg3n : ¬ Φ' g3 := fun h => by
                        rcases hg5 g3 h with h | h
                        · exact HROW.out.2.1 h
                        · have := HROW.out.2.2.choose_spec.lt; omega
                      obtain ⟨cu, hcu⟩ := HROW.out.2.2
                      have hk5 := HO5.out.bk hcu HROW.out.2.1
                      have hne6 : ∀ c, (Value.slice (some ⟨g3, 0, none⟩) n cap3).ownBlock = some c → ¬ c = mb := fun c hc e => by
                        injection hc with hc
                        have hc : g3 = c := hc
                        exact HM5.out.ne hk5 (by rw [← e, ← hc])
                      have hro : RowI (putM w5 mb nj (r l0 u) m.2) (.slice (some ⟨g3, 0, none⟩) n cap3) KL := row_onS (row_onS HROW.out.1 HO5.out (fun c hc h => by injection hc with hc; have hc : g3 = c := hc; rw [← hc] at h; exact HROW.out.2.1 h)) h6 hne6
                      refine ⟨j + 1, _, Φ', done ++ [Ad.t k ((q : Int) + 1) nj], _, _, by have := HJJ.out; omega, by go_num, Lib.hid (hl0.out ▸ hnx), Lib.hid ⟨hX6, hxT, hsm6, ?_⟩, Lib.hid ⟨hro, hg3n, cu, h6.bk hk5 (hne6 g3 rfl)⟩⟩
                      rw [← HMB2.out]
                      exact hms5
                    case measure => omega
                  · have hje : j = n := by omega
                    subst hje
                    have hW := HWY.out
                    rw [List.drop_eq_nil_of_le (by rw [List.length_map, HKN.out]; exact Nat.le_refl _), List.nil_append, ← hRR.out] at hW
                    have HWR2 := Lib.hid hW
                    have HX2 := Lib.hid HX.out
                    clear hW HWY HX
                    go_wp2_with fail
                    go_roundg g2
                    case rel => exact ⟨q + 1, Ec, Φ, done, P, ms, by have := HQJ.out; omega, by go_num, HWR2, HX2⟩
                    case measure => omega
              · have hqe : q = M := by omega
                subst hqe
                have hW := HWY.out
                rw [List.drop_eq_nil_of_le (by simp)] at hW
                have HWR2 := Lib.hid (show Wy w F p E vv tv G r C Φ0 _ Ec done (adT (k + 1) (E.T.drop (k + 1))) Φ from hW)
                clear hW HWY
                go_wp2_with fail
                go_roundg g'
                case rel => exact ⟨k + 1, Ec, Φ, done, by have := HK.out; omega, by go_num, HWR2⟩
                case measure => omega
        · have hk8' : k = 8 := by omega
          subst hk8'
          have hW := HWY.out
          rw [List.drop_eq_nil_of_le (by rw [HH8.out]; exact Nat.le_refl _)] at hW
          have HWR := Lib.hid (show Wy w F p E vv tv G r C Φ0 _ Ec done [] Φ from hW)
          clear hW HWY
          go_wp2_with fail
          go_end0
          exact ⟨rfl, Ec, done, Φ, HWR.out⟩
end
end Go.Proofs.Ytjoifodjbdbicaa.PY1
