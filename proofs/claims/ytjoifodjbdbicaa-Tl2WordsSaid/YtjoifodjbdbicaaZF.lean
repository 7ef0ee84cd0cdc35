/- ZF: several texts in one (UN UO UP). -/
import Derived.Test.YtjoifodjbdbicaaZE

/- The document's engine: a write of a commit. -/
namespace Go.Proofs.Ytjoifodjbdbicaa.UN
open Go.RowKit Go.Proofs.Ytjoifodjbdbicaa.RG Go.Proofs.Ytjoifodjbdbicaa.RB Go.Proofs.Ytjoifodjbdbicaa.RI Go.Proofs.Ytjoifodjbdbicaa.UA Go.Proofs.Ytjoifodjbdbicaa.UB Go.Proofs.Ytjoifodjbdbicaa.UC Go.Proofs.Ytjoifodjbdbicaa.UD Go.Proofs.Ytjoifodjbdbicaa.UE Go.Proofs.Ytjoifodjbdbicaa.UF Go.Proofs.Ytjoifodjbdbicaa.UG Go.Proofs.Ytjoifodjbdbicaa.UH Go.Proofs.Ytjoifodjbdbicaa.UI Go.Proofs.Ytjoifodjbdbicaa.UJ Go.Proofs.Ytjoifodjbdbicaa.UK Go.Proofs.Ytjoifodjbdbicaa.UL Go.Proofs.Ytjoifodjbdbicaa.UM
set_option linter.unusedVariables false
set_option maxRecDepth 100000
set_option maxRecDepth 100000

set_option maxHeartbeats 6400000 in
theorem rstep_write (w : World) (F : Nat → Prop) (r : Nat) (E : Eg) (H : DE w F r E) (m : Nat) (HW : Wf m E) (hm : m ≤ 1000000) (i : Nat) (x : Tx) (hx : E.T[i]? = some x) (his : x.is = true) (hp1 : x.parts ≤ 1) (hs : 0 < x.stamp) :
    Calls Try.prog 34 #[.pointer (some ⟨r, 0, none⟩), .int .i64 (i : Int)] w fun e w' => e = .returned (.tuple #[.int .i64 (stepR E (i : Int)).2.1, .int .i64 (stepR E (i : Int)).2.2]) ∧ OnS F w w' ∧ DE w' F r (stepR E (i : Int)).1 := by
  obtain ⟨dn, hdn⟩ : ∃ d : Nat, x.done = (d : Int) := ⟨x.done.toNat, by have := (HW.tx x (mem_of hx)).stamp hs; omega⟩
  have hdl : dn < (sortR x.puts 1).length := by have := (HW.tx x (mem_of hx)).stamp hs; omega
  obtain ⟨p, hp⟩ := getElem?_of_lt hdl
  have hpm := sortR_mem (mem_of hp)
  have hpr := (HW.tx x (mem_of hx)).inp p hpm.1
  obtain ⟨pk, hpk⟩ : ∃ d : Nat, p.n = (d : Int) := ⟨p.n.toNat, by omega⟩
  have hpkN : pk < E.V.length := by omega
  obtain ⟨v, hv⟩ := getElem?_of_lt hpkN
  have hr : stepR E (i : Int) = if x.done + 1 < ((sortR x.puts 1).length : Int) then
          ({ setT E (i : Int) { x with commits := true, done := x.done + 1 } with V := E.V.set p.n.toNat ⟨p.v, x.stamp, -1⟩ }, 3, 0)
        else ({ setT E (i : Int) tx0 with V := E.V.set p.n.toNat ⟨p.v, x.stamp, -1⟩ }, 4, 0) := by
    unfold stepR
    rw [thR_nat, hx]
    simp only
    rw [if_neg (by rw [his]; simp; omega), if_pos hs, hdn, Int.toNat_natCast, hp]
  rw [hr, hdn, hpk, Int.toNat_natCast]
  obtain ⟨R, hR⟩ : ∃ R, R = (if (dn : Int) + 1 < ((sortR x.puts 1).length : Int) then
          (({ setT E (i : Int) { x with commits := true, done := (dn : Int) + 1 } with V := E.V.set pk ⟨p.v, x.stamp, -1⟩ }, 3, 0) : Eg × Int × Int)
        else ({ setT E (i : Int) tx0 with V := E.V.set pk ⟨p.v, x.stamp, -1⟩ }, 4, 0)) := ⟨_, rfl⟩
  rw [← hR]
  have HDN := Lib.hid hdn
  have HV := Lib.hid hv
  obtain ⟨N, hN⟩ : ∃ N, Hid (E.V.length = N) := ⟨_, Lib.hid rfl⟩
  rw [hN.out] at hpkN
  have HH := Lib.hid H
  have HO := Lib.hid (rhas_c w F r E H HW.th (i : Int))
  have ho : hasR E (i : Int) = true := by unfold hasR; rw [thR_nat, hx]; exact his
  rw [ho] at HO
  have HX := Lib.hid hx
  have H8 := Lib.hid HW.th
  have HWF := Lib.hid HW
  have hwx := HW.tx x (mem_of hx)
  have HWX := Lib.hid hwx
  have hi : i < 8 := by have := (List.getElem?_eq_some_iff.1 hx).1; rw [HW.th] at this; exact this
  have i0 : (0 : Int) ≤ (i : Int) := by omega
  have i1 : (i : Int) < 8 := by omega
  obtain ⟨pt, hpt⟩ : ∃ p, Hid (x.parts = p) := ⟨_, Lib.hid rfl⟩
  obtain ⟨st, hst⟩ : ∃ p, Hid (x.stamp = p) := ⟨_, Lib.hid rfl⟩
  rw [hpt.out] at hp1
  rw [hst.out] at hs
  have hp1' : decide (1 < pt) = false := decide_eq_false (by omega)
  have HPL := Lib.hid (Nat.le_trans hwx.puts hm)
  obtain ⟨SL, hSL⟩ : ∃ l, Hid (sortR x.puts 1 = l) := ⟨_, Lib.hid rfl⟩
  have hsl : SL.length ≤ 1000000 := by rw [← hSL.out]; exact Nat.le_trans (sortR_len _ _) HPL.out
  obtain ⟨nl, hnl⟩ : ∃ l, Hid (SL.length = l) := ⟨_, Lib.hid rfl⟩
  rw [hnl.out] at hsl
  rw [hSL.out] at hp hR
  rw [hSL.out, hnl.out] at hdl
  rw [hnl.out, hst.out] at hR
  have HR := Lib.hid hR
  have HP := Lib.hid hp
  clear hR
  clear hr hdn hv hpm hpr hp
  clear H HW hx ho hwx his hp1
  go_enter Try.func34, Try.ntmps34
  go_wp2_with fail
  refine HO.out.mono ?_
  rintro e w1 ⟨rfl, hb⟩
  have HB := Lib.hid hb
  obtain ⟨vv, tv, Z, hd⟩ := HH.out.keep hb
  obtain ⟨z, hz, hzx⟩ := hd.zat HX.out
  have HZ := Lib.hid hz
  have HZX := Lib.hid hzx
  obtain ⟨g, cap, cur, rfl, hk, hg, hf, hF, c0, c1, c2, c3, c4, c5, c6, c7⟩ := hd.tx hz
  have y2 : w1.cell? ⟨r, 2, none⟩ = some (.slice (some ⟨g, 0, none⟩) E.T.length cap) := hd.bk.cell 2 _ rfl
  have hda := di_cell0 hd { z.x with commits := true } (j := 5) (u := .bool true) hz (by decide) rfl rfl rfl
  have hza := set_some (b := (⟨{ z.x with commits := true }, z.rv, z.pv⟩ : Tz)) hz
  obtain ⟨_, y2a, hg4, hf4, hFg, d0, d1, d2, d3, d4, d5, d6, d7⟩ := DI.slot hda (by show (E.T.set _ _).length = 8; rw [List.length_set]; exact H8.out) hza
  rw [H8.out] at y2
  rw [hzx, hpt.out] at c4
  have f5 := hf (i * 8 + 5)
  have HFg := Lib.hid hFg
  have hpv := (hda.rows i _ hza).2
  simp only [hzx] at hpv hda hza d3 d6 d7
  have HST := Lib.hid (fun w4 (hb : Below (w1.setCell ⟨g, i * 8 + 5, none⟩ (.bool true)).heap.size (w1.setCell ⟨g, i * 8 + 5, none⟩ (.bool true)) w4) => rsorted_c w4 Nobody z.pv x.puts (hpv.keep hb).row HPL.out 1)
  have HDA := Lib.hid hda
  have HZA := Lib.hid hza
  rw [hst.out] at d6
  obtain ⟨pv, hpv2⟩ : ∃ p, Hid (z.pv = p) := ⟨_, Lib.hid rfl⟩
  rw [hpv2.out] at HST d3
  clear hd hz hzx hk hf hF c0 c1 c2 c3 c6 c7 hda hza hf4 d0 d1 d2 d4 d5 d7 hFg hpv hb hg4
  go_wp2_with fail
  refine (HST.out _ (Below.refl _ _)).mono ?_
  rintro e w5 ⟨lv, rfl, hlo, hlb⟩
  rw [hSL.out] at hlo
  obtain ⟨la, lc, hlv, _⟩ := hlo.val
  rw [hnl.out] at hlv
  subst hlv
  have HLO := Lib.hid hlo
  have HLB := Lib.hid hlb
  have hd5 := HDA.out.keep hlb
  have HON5 := Lib.hid (show OnS F w w5 from (OnS.of HB.out).trans (((OnS.cell g _ _).weak fun b _ hb => by rw [hb]; exact HFg.out).trans (OnS.of hlb)))
  have HSZ := Lib.hid (show w1.heap.size ≤ (w1.setCell ⟨g, i * 8 + 5, none⟩ (.bool true)).heap.size from Nat.le_of_eq (World.size_setCell _ _ _).symm)
  obtain ⟨_, y2b, hg5, hf5, hF5, e0, e1, e2, e3, e4, e5, e6, e7⟩ := DI.slot hd5 (by show (E.T.set _ _).length = 8; rw [List.length_set]; exact H8.out) HZA.out
  simp only [hst.out] at e6
  have HD5 := Lib.hid hd5
  clear hlo hlb d3 d6 y2 y2a c4 c5 f5 hg
  obtain ⟨pn, pv2, pp⟩ := p
  obtain ⟨gl, cl, cul, hlv, hkl, hgl, hfl, x0, x1', x2⟩ := own_pt (own_low HLO.out) HP.out
  simp only at x0 x1' x2 hpk
  subst hpk
  rw [hnl.out] at hlv
  injection hlv with a1 a2 a3
  subst a1
  subst a3
  clear a2 hkl hfl
  simp only [HDN.out] at e7
  have q0 : (0 : Int) ≤ (dn : Int) := by omega
  have q1 : (dn : Int) < (nl : Int) := by omega
  clear e0 e1 e2 e3 e4 e5
  have hrl : r < w5.heap.size := HD5.out.bk.lt
  have hd6 := HD5.out.keep (balloc w5 (.cells #[.int .i64 (pk : Int), .int .i64 pv2, .int .i64 pp] 53))
  have hpb := Bk.new w5 #[.int .i64 (pk : Int), .int .i64 pv2, .int .i64 pp] 53
  obtain ⟨gv, capv, cuv, hvv, hkv, hgv, hfv, hFv, v0, v1, v2⟩ := hd6.vr (i := pk) (v := v) HV.out
  have y1 : (w5.alloc (.cells #[.int .i64 (pk : Int), .int .i64 pv2, .int .i64 pp] 53)).cell? ⟨r, 1, none⟩ = some vv := hd6.bk.cell 1 _ rfl
  rw [hvv] at y1 hd6
  have y1 : (w5.alloc (.cells #[.int .i64 (pk : Int), .int .i64 pv2, .int .i64 pp] 53)).cell? ⟨r, 1, none⟩ = some (.slice (some ⟨gv, 0, none⟩) E.V.length capv) := y1
  rw [hN.out] at y1
  obtain ⟨va, ve, lo⟩ := v
  have hs1 := di_vcell hd6 (k := pk) (v := ⟨va, ve, lo⟩) (v' := ⟨pv2, ve, lo⟩) (j := 0) (u := .int .i64 pv2) HV.out (by decide) rfl
  have hs2 := di_vcell hs1 (k := pk) (v := ⟨pv2, ve, lo⟩) (v' := ⟨pv2, st, lo⟩) (j := 1) (u := .int .i64 st) (set_some HV.out) (by decide) rfl
  have hs3 := di_vcell hs2 (k := pk) (v := ⟨pv2, st, lo⟩) (v' := ⟨pv2, st, -1⟩) (j := 2) (u := .int .i64 (-1)) (set_some (set_some HV.out)) (by decide) rfl
  have hng : w5.heap.size ≠ gv := fun e => by
    have := bk_typ (e ▸ hkv) hpb
    have hvt := own_blk (b := gv) hd6.vs rfl
    have h3 : gv < w5.heap.size := by
      obtain ⟨gv2, capv2, cuv2, hvv2, hkv2, hgv2, _⟩ := HD5.out.vr (i := pk) (v := ⟨va, ve, lo⟩) HV.out
      rw [hvv] at hvv2
      injection hvv2 with b1
      injection b1 with b1
      injection b1 with b1
      rw [b1]; exact hgv2
    omega
  have hpb3 := ((hpb.other hng (pk * 3) (.int .i64 pv2)).other hng (pk * 3 + 1) (.int .i64 st)).other hng (pk * 3 + 2) (.int .i64 (-1))
  have hw7 := hs3.keep (bdr _)
  obtain ⟨_, y2c, hg7, hf7, hF7, _, _, _, _, _, _, e6c, e7c⟩ := DI.slot hw7 (by show (E.T.set _ _).length = 8; rw [List.length_set]; exact H8.out) HZA.out
  simp only [hst.out, HDN.out] at e6c e7c
  have y1c : ((((w5.alloc (.cells #[.int .i64 (pk : Int), .int .i64 pv2, .int .i64 pp] 53)).setCell ⟨gv, pk * 3, none⟩ (.int .i64 pv2)).setCell ⟨gv, pk * 3 + 1, none⟩ (.int .i64 st)).setCell ⟨gv, pk * 3 + 2, none⟩ (.int .i64 (-1))).drew.cell? ⟨r, 1, none⟩ = some (.slice (some ⟨gv, 0, none⟩) E.V.length capv) := hw7.bk.cell 1 _ rfl
  rw [hN.out] at y1c
  have HC2 := Lib.hid (show ((((w5.alloc (.cells #[.int .i64 (pk : Int), .int .i64 pv2, .int .i64 pp] 53)).setCell ⟨gv, pk * 3, none⟩ (.int .i64 pv2)).setCell ⟨gv, pk * 3 + 1, none⟩ (.int .i64 st)).setCell ⟨gv, pk * 3 + 2, none⟩ (.int .i64 (-1))).drew.cell? ⟨r, 1, none⟩ = some (.slice (some ⟨gv, 0, none⟩) N capv) ∧ ((((w5.alloc (.cells #[.int .i64 (pk : Int), .int .i64 pv2, .int .i64 pp] 53)).setCell ⟨gv, pk * 3, none⟩ (.int .i64 pv2)).setCell ⟨gv, pk * 3 + 1, none⟩ (.int .i64 st)).setCell ⟨gv, pk * 3 + 2, none⟩ (.int .i64 (-1))).drew.cell? ⟨r, 2, none⟩ = some (.slice (some ⟨g, 0, none⟩) 8 cap) ∧ ((((w5.alloc (.cells #[.int .i64 (pk : Int), .int .i64 pv2, .int .i64 pp] 53)).setCell ⟨gv, pk * 3, none⟩ (.int .i64 pv2)).setCell ⟨gv, pk * 3 + 1, none⟩ (.int .i64 st)).setCell ⟨gv, pk * 3 + 2, none⟩ (.int .i64 (-1))).drew.cell? ⟨w5.heap.size, 0, none⟩ = some (.int .i64 (pk : Int)) ∧ ((((w5.alloc (.cells #[.int .i64 (pk : Int), .int .i64 pv2, .int .i64 pp] 53)).setCell ⟨gv, pk * 3, none⟩ (.int .i64 pv2)).setCell ⟨gv, pk * 3 + 1, none⟩ (.int .i64 st)).setCell ⟨gv, pk * 3 + 2, none⟩ (.int .i64 (-1))).drew.cell? ⟨w5.heap.size, 1, none⟩ = some (.int .i64 pv2) ∧ ((((w5.alloc (.cells #[.int .i64 (pk : Int), .int .i64 pv2, .int .i64 pp] 53)).setCell ⟨gv, pk * 3, none⟩ (.int .i64 pv2)).setCell ⟨gv, pk * 3 + 1, none⟩ (.int .i64 st)).setCell ⟨gv, pk * 3 + 2, none⟩ (.int .i64 (-1))).drew.cell? ⟨g, i * 8 + 6, none⟩ = some (.int .i64 st) from And.intro y1c (And.intro y2c (And.intro (hpb3.drew.cell 0 _ rfl) (And.intro (hpb3.drew.cell 1 _ rfl) e6c))))
  have hw6 := hd6.keep (bdr _)
  obtain ⟨_, y2d, _, _, _, _, _, _, _, _, _, e6d, e7d⟩ := DI.slot hw6 (by show (E.T.set _ _).length = 8; rw [List.length_set]; exact H8.out) HZA.out
  simp only [hst.out, HDN.out] at e6d e7d
  have y1d : (w5.alloc (.cells #[.int .i64 (pk : Int), .int .i64 pv2, .int .i64 pp] 53)).drew.cell? ⟨r, 1, none⟩ = some (.slice (some ⟨gv, 0, none⟩) E.V.length capv) := hw6.bk.cell 1 _ rfl
  rw [hN.out] at y1d
  have HC1 := Lib.hid (show (w5.alloc (.cells #[.int .i64 (pk : Int), .int .i64 pv2, .int .i64 pp] 53)).drew.cell? ⟨r, 1, none⟩ = some (.slice (some ⟨gv, 0, none⟩) N capv) ∧ (w5.alloc (.cells #[.int .i64 (pk : Int), .int .i64 pv2, .int .i64 pp] 53)).drew.cell? ⟨r, 2, none⟩ = some (.slice (some ⟨g, 0, none⟩) 8 cap) ∧ (w5.alloc (.cells #[.int .i64 (pk : Int), .int .i64 pv2, .int .i64 pp] 53)).drew.cell? ⟨w5.heap.size, 0, none⟩ = some (.int .i64 (pk : Int)) ∧ (w5.alloc (.cells #[.int .i64 (pk : Int), .int .i64 pv2, .int .i64 pp] 53)).drew.cell? ⟨w5.heap.size, 1, none⟩ = some (.int .i64 pv2) ∧ (w5.alloc (.cells #[.int .i64 (pk : Int), .int .i64 pv2, .int .i64 pp] 53)).drew.cell? ⟨g, i * 8 + 6, none⟩ = some (.int .i64 st) from And.intro y1d (And.intro y2d (And.intro (hpb.drew.cell 0 _ rfl) (And.intro (hpb.drew.cell 1 _ rfl) e6d))))
  have fv0 := hfv (pk * 3)
  have fv1 := hfv (pk * 3 + 1)
  have fv2 := hfv (pk * 3 + 2)
  have k0 : (0 : Int) ≤ (pk : Int) := by omega
  have k1 : (pk : Int) < (N : Int) := by omega
  have HW7 := Lib.hid hw7
  have HFv := Lib.hid hFv
  have HBA := Lib.hid (balloc w5 (.cells #[.int .i64 (pk : Int), .int .i64 pv2, .int .i64 pp] 53))
  clear hs1 hs2 hs3 hpb3 hw7 hw6 hfv hkv hd6 hpb y2c y2d e6c e6d e7c e7d y1c y1d hf7 hF7 hFv hvv hg7
  go_wp2_with fail
  go_region_held3 (fun w' => w'.cell? ⟨r, 1, none⟩ = some (.slice (some ⟨gv, 0, none⟩) N capv) ∧ w'.cell? ⟨r, 2, none⟩ = some (.slice (some ⟨g, 0, none⟩) 8 cap) ∧ w'.cell? ⟨w5.heap.size, 0, none⟩ = some (.int .i64 (pk : Int)) ∧ w'.cell? ⟨w5.heap.size, 1, none⟩ = some (.int .i64 pv2) ∧ w'.cell? ⟨g, i * 8 + 6, none⟩ = some (.int .i64 st)) (first | with_reducible exact HC1.out | with_reducible exact HC2.out | go_keep) (fail)
  have hw7 := HW7.out
  have hon7 : OnS F w ((((w5.alloc (.cells #[.int .i64 (pk : Int), .int .i64 pv2, .int .i64 pp] 53)).setCell ⟨gv, pk * 3, none⟩ (.int .i64 pv2)).setCell ⟨gv, pk * 3 + 1, none⟩ (.int .i64 st)).setCell ⟨gv, pk * 3 + 2, none⟩ (.int .i64 (-1))).drew := (HON5.out.trans (OnS.of HBA.out)).trans ((((OnS.cell gv _ _).weak fun b _ hb => by rw [hb]; exact HFv.out).trans ((OnS.cell gv _ _).weak fun b _ hb => by rw [hb]; exact HFv.out)).trans (((OnS.cell gv _ _).weak fun b _ hb => by rw [hb]; exact HFv.out).trans (OnS.of (bdr _))))
  obtain ⟨W, hW⟩ : ∃ W, ((((w5.alloc (.cells #[.int .i64 (pk : Int), .int .i64 pv2, .int .i64 pp] 53)).setCell ⟨gv, pk * 3, none⟩ (.int .i64 pv2)).setCell ⟨gv, pk * 3 + 1, none⟩ (.int .i64 st)).setCell ⟨gv, pk * 3 + 2, none⟩ (.int .i64 (-1))).drew = W := ⟨_, rfl⟩
  rw [Nat.add_zero] at hw7
  rw [hW] at hw7 hon7 ⊢
  have HONW := Lib.hid hon7
  simp only [List.set_set] at hw7
  obtain ⟨_, y2w, hgw, hfw, hFw, _, _, _, _, _, _, _, e7w⟩ := DI.slot hw7 (by show (E.T.set _ _).length = 8; rw [List.length_set]; exact H8.out) HZA.out
  have hw8 := di_cell0 hw7 { x with commits := true, done := (dn : Int) + 1 } (j := 7) (u := .int .i64 ((dn : Int) + 1)) HZA.out (by decide) rfl rfl rfl
  have hz8 := set_some (b := (⟨{ x with commits := true, done := (dn : Int) + 1 }, z.rv, z.pv⟩ : Tz)) HZA.out
  simp only [List.set_set] at hw8 hz8
  obtain ⟨_, y2v, hgv8, hfv8, hFv8, d0, d1, d2, d3, d4, d5, d6, d7⟩ := DI.slot hw8 (by show (E.T.set _ _).length = 8; rw [List.length_set]; exact H8.out) hz8
  simp only [HDN.out] at e7w
  simp only at d0 d1 d2 d3 d4 d5 d6 d7
  have f7 := hfw (i * 8 + 7)
  have HP9 := Lib.hid (di_put hw8 hz8 tx0 rfl rfl)
  have HW8 := Lib.hid hw8
  have g0 := hfv8 (i * 8)
  have g1 := hfv8 (i * 8 + 1)
  have g2 := hfv8 (i * 8 + 2)
  have g3 := hfv8 (i * 8 + 3)
  have g4 := hfv8 (i * 8 + 4)
  have g5 := hfv8 (i * 8 + 5)
  have g6 := hfv8 (i * 8 + 6)
  have g7 := hfv8 (i * 8 + 7)
  have HFW := Lib.hid hFw
  clear hw7 hw8 hz8 hfw hfv8 hFv8 hW hon7 hFw HC1 HC2 v0 v1 v2 fv0 fv1 fv2 y1 y2b e6 e7 x0 x1' hf5 hng hgv hF5
  by_cases hlt : (dn : Int) + 1 < (nl : Int)
  · have HRR := Lib.hid (HR.out.trans (if_pos hlt))
    go_wp2_with fail
    go_ret2
    rw [HRR.out]
    have hw8 := HW8.out
    rw [hst.out] at hw8
    exact ⟨rfl, HONW.out.trans ((OnS.cell g _ _).weak fun b _ hb => by rw [hb]; exact HFW.out), _, _, _, hw8⟩
  · have HRR := Lib.hid (HR.out.trans (if_neg hlt))
    have hlt' : decide ((dn : Int) + 1 < (nl : Int)) = false := decide_eq_false hlt
    go_wp2_with fail
    go_ret2
    rw [HRR.out]
    have hp9 := HP9.out
    simp only [List.set_set] at hp9
    exact ⟨rfl, (HONW.out.trans ((OnS.cell g _ _).weak fun b _ hb => by rw [hb]; exact HFW.out)).trans (on_put8 HFW.out _ _ _ _ _ _ _ _ _), _, _, _, hp9⟩
end Go.Proofs.Ytjoifodjbdbicaa.UN

/- The document's engine: locks, and the point of a commit. -/
namespace Go.Proofs.Ytjoifodjbdbicaa.UO
open Go.RowKit Go.Proofs.Ytjoifodjbdbicaa.RG Go.Proofs.Ytjoifodjbdbicaa.RB Go.Proofs.Ytjoifodjbdbicaa.RI Go.Proofs.Ytjoifodjbdbicaa.UA Go.Proofs.Ytjoifodjbdbicaa.UB Go.Proofs.Ytjoifodjbdbicaa.UC Go.Proofs.Ytjoifodjbdbicaa.UD Go.Proofs.Ytjoifodjbdbicaa.UE Go.Proofs.Ytjoifodjbdbicaa.UF Go.Proofs.Ytjoifodjbdbicaa.UG Go.Proofs.Ytjoifodjbdbicaa.UH Go.Proofs.Ytjoifodjbdbicaa.UI Go.Proofs.Ytjoifodjbdbicaa.UJ Go.Proofs.Ytjoifodjbdbicaa.UK Go.Proofs.Ytjoifodjbdbicaa.UL Go.Proofs.Ytjoifodjbdbicaa.UM Go.Proofs.Ytjoifodjbdbicaa.UN
set_option linter.unusedVariables false
set_option maxRecDepth 100000
set_option maxRecDepth 100000

/-- The clock goes on. -/
theorem di_clock {w : World} {F : Nat → Prop} {r : Nat} {E : Eg} {vv tv : Value} {Z : List Tz} (H : DI w F r E vv tv Z) (c : Int) : DI (w.setCell ⟨r, 0, none⟩ (.int .i64 c)) F r { E with clock := c } vv tv Z :=
  di_vs H (OnS.cell r 0 _) (fun b hb => .inl hb) (H.bk.set 0 _) (ownF_wr H.vs H.bk (by decide) _ _) (fun _ h => h) H.inv (fun b hb => by have := H.lt b hb; simpa using this)
set_option maxHeartbeats 6400000 in
theorem rstep_lock (w : World) (F : Nat → Prop) (r : Nat) (E : Eg) (H : DE w F r E) (m : Nat) (HW : Wf m E) (hm : m ≤ 1000000) (i : Nat) (x : Tx) (hx : E.T[i]? = some x) (his : x.is = true) (hp1 : x.parts ≤ 1) (hs : ¬ 0 < x.stamp) :
    Calls Try.prog 34 #[.pointer (some ⟨r, 0, none⟩), .int .i64 (i : Int)] w fun e w' => e = .returned (.tuple #[.int .i64 (stepR E (i : Int)).2.1, .int .i64 (stepR E (i : Int)).2.2]) ∧ OnS F w w' ∧ DE w' F r (stepR E (i : Int)).1 := by
  have hr : stepR E (i : Int) = (match firstR E.V (i : Int) (sortR x.puts 1) with
      | some (n, v) => if 0 ≤ v.lock then (setT E (i : Int) { x with commits := true }, 0, 32)
        else ({ setT E (i : Int) { x with commits := true } with V := E.V.set n.toNat { v with lock := (i : Int) } }, 1, 0)
      | none => if validL E.V x.start (i : Int) x.reads = 0 then
          (if sortR x.puts 1 = [] then (setT E (i : Int) tx0, 4, 0) else ({ setT E (i : Int) { x with commits := true, stamp := E.clock + 1 } with clock := E.clock + 1 }, 2, 0))
        else (setT E (i : Int) { x with commits := true }, 0, validL E.V x.start (i : Int) x.reads)) := by
    unfold stepR
    rw [thR_nat, hx]
    simp only
    rw [if_neg (by rw [his]; simp; omega), if_neg hs]
    rfl
  obtain ⟨R, hR⟩ : ∃ R, stepR E (i : Int) = R := ⟨_, rfl⟩
  rw [hR] at hr
  rw [hR]
  have HWE := Lib.hid (show Wf m (setT E (i : Int) { x with commits := true }) from wf_setT HW i (let h := HW.tx x (mem_of hx); ⟨h.parts, h.parts1, h.puts, h.reads, h.inr, h.inp, h.stamp⟩))
  have HVL := Lib.hid (fun w1 (h : DE w1 F r (setT E (i : Int) { x with commits := true })) => rvalidl_c w1 F r (setT E (i : Int) { x with commits := true }) h m HWE.out hm i { x with commits := true } (setT_at hx))
  have hck : 0 ≤ E.clock ∧ E.clock ≤ 1000000 := ⟨HW.ck.1, by have := HW.ck.2; omega⟩
  obtain ⟨hck0, hck1⟩ := hck
  obtain ⟨ck, hckk⟩ : ∃ c, Hid (E.clock = c) := ⟨_, Lib.hid rfl⟩
  rw [hckk.out] at hck0 hck1
  obtain ⟨vl, hvl⟩ : ∃ c, Hid (validL E.V x.start (i : Int) x.reads = c) := ⟨_, Lib.hid rfl⟩
  have HVL2 : Hid (∀ w1, DE w1 F r (setT E (i : Int) { x with commits := true }) → Calls Try.prog 67 #[.pointer (some ⟨r, 0, none⟩), .int .i64 (i : Int)] w1 fun e w' => e = .returned (.int .i64 vl) ∧ Below w1.heap.size w1 w') := Lib.hid (fun w1 h => by rw [← hvl.out]; exact HVL.out w1 h)
  clear HVL
  have HIN := Lib.hid (fun (j : Nat) (p : Pt) (h : (sortR x.puts 1)[j]? = some p) => (HW.tx x (mem_of hx)).inp p (sortR_mem (mem_of h)).1)
  obtain ⟨N, hN⟩ : ∃ N, Hid (E.V.length = N) := ⟨_, Lib.hid rfl⟩
  have HH := Lib.hid H
  have HO := Lib.hid (rhas_c w F r E H HW.th (i : Int))
  have ho : hasR E (i : Int) = true := by unfold hasR; rw [thR_nat, hx]; exact his
  rw [ho] at HO
  have HX := Lib.hid hx
  have H8 := Lib.hid HW.th
  have HWF := Lib.hid HW
  have hwx := HW.tx x (mem_of hx)
  have HWX := Lib.hid hwx
  have hi : i < 8 := by have := (List.getElem?_eq_some_iff.1 hx).1; rw [HW.th] at this; exact this
  have i0 : (0 : Int) ≤ (i : Int) := by omega
  have i1 : (i : Int) < 8 := by omega
  obtain ⟨pt, hpt⟩ : ∃ p, Hid (x.parts = p) := ⟨_, Lib.hid rfl⟩
  obtain ⟨st, hst⟩ : ∃ p, Hid (x.stamp = p) := ⟨_, Lib.hid rfl⟩
  rw [hpt.out] at hp1
  rw [hst.out] at hs
  have hp1' : decide (1 < pt) = false := decide_eq_false (by omega)
  have HPL := Lib.hid (Nat.le_trans hwx.puts hm)
  obtain ⟨SL, hSL⟩ : ∃ l, Hid (sortR x.puts 1 = l) := ⟨_, Lib.hid rfl⟩
  have hsl : SL.length ≤ 1000000 := by rw [← hSL.out]; exact Nat.le_trans (sortR_len _ _) HPL.out
  obtain ⟨nl, hnl⟩ : ∃ l, Hid (SL.length = l) := ⟨_, Lib.hid rfl⟩
  rw [hnl.out] at hsl
  rw [hSL.out] at hr HIN
  rw [hvl.out] at hr
  have HR := Lib.hid hr
  have hs' : decide (0 < st) = false := decide_eq_false hs
  clear hr hR hs
  clear H HW hx ho hwx his hp1
  go_enter Try.func34, Try.ntmps34
  go_wp2_with fail
  refine HO.out.mono ?_
  rintro e w1 ⟨rfl, hb⟩
  have HB := Lib.hid hb
  obtain ⟨vv, tv, Z, hd⟩ := HH.out.keep hb
  obtain ⟨z, hz, hzx⟩ := hd.zat HX.out
  have HZ := Lib.hid hz
  have HZX := Lib.hid hzx
  obtain ⟨g, cap, cur, rfl, hk, hg, hf, hF, c0, c1, c2, c3, c4, c5, c6, c7⟩ := hd.tx hz
  have y2 : w1.cell? ⟨r, 2, none⟩ = some (.slice (some ⟨g, 0, none⟩) E.T.length cap) := hd.bk.cell 2 _ rfl
  have hda := di_cell0 hd { z.x with commits := true } (j := 5) (u := .bool true) hz (by decide) rfl rfl rfl
  have hza := set_some (b := (⟨{ z.x with commits := true }, z.rv, z.pv⟩ : Tz)) hz
  obtain ⟨_, y2a, hg4, hf4, hFg, d0, d1, d2, d3, d4, d5, d6, d7⟩ := DI.slot hda (by show (E.T.set _ _).length = 8; rw [List.length_set]; exact H8.out) hza
  rw [H8.out] at y2
  rw [hzx, hpt.out] at c4
  have f5 := hf (i * 8 + 5)
  have HFg := Lib.hid hFg
  have hpv := (hda.rows i _ hza).2
  simp only [hzx] at hpv hda hza d3 d6 d7
  have HST := Lib.hid (fun w4 (hb : Below (w1.setCell ⟨g, i * 8 + 5, none⟩ (.bool true)).heap.size (w1.setCell ⟨g, i * 8 + 5, none⟩ (.bool true)) w4) => rsorted_c w4 Nobody z.pv x.puts (hpv.keep hb).row HPL.out 1)
  have HDA := Lib.hid hda
  have HZA := Lib.hid hza
  rw [hst.out] at d6
  obtain ⟨pv, hpv2⟩ : ∃ p, Hid (z.pv = p) := ⟨_, Lib.hid rfl⟩
  rw [hpv2.out] at HST d3
  clear hd hz hzx hk hf hF c0 c1 c2 c3 c6 c7 hda hza hf4 d0 d1 d2 d4 d5 d7 hFg hpv hb hg4
  go_wp2_with fail
  refine (HST.out _ (Below.refl _ _)).mono ?_
  rintro e w5 ⟨lv, rfl, hlo, hlb⟩
  rw [hSL.out] at hlo
  obtain ⟨la, lc, hlv, _⟩ := hlo.val
  rw [hnl.out] at hlv
  subst hlv
  have HLO := Lib.hid hlo
  have HLB := Lib.hid hlb
  have hd5 := HDA.out.keep hlb
  have HON5 := Lib.hid (show OnS F w w5 from (OnS.of HB.out).trans (((OnS.cell g _ _).weak fun b _ hb => by rw [hb]; exact HFg.out).trans (OnS.of hlb)))
  have HSZ := Lib.hid (show w1.heap.size ≤ (w1.setCell ⟨g, i * 8 + 5, none⟩ (.bool true)).heap.size from Nat.le_of_eq (World.size_setCell _ _ _).symm)
  obtain ⟨_, y2b, hg5, hf5, hF5, e0, e1, e2, e3, e4, e5, e6, e7⟩ := DI.slot hd5 (by show (E.T.set _ _).length = 8; rw [List.length_set]; exact H8.out) HZA.out
  simp only [hst.out] at e6
  have HD5 := Lib.hid hd5
  clear hlo hlb d3 d6 y2 y2a c4 c5 f5 hg
  clear e0 e1 e2 e3 e4 e5 e7
  have HDE5 := Lib.hid (show DE w5 F r (setT E (i : Int) { x with commits := true }) from ⟨_, _, _, HD5.out⟩)
  go_wp2_with fail
  go_loopg [9, 10] nl (fun gg iv kv wr => ∃ j : Nat, j + gg = nl ∧ iv = .int .i64 (j : Int) ∧ Hid (firstR E.V (i : Int) SL = firstR E.V (i : Int) (SL.drop j)) ∧ Hid (wr = w5))
  case atStart => exact ⟨0, Nat.zero_add _, rfl, Lib.hid rfl, Lib.hid rfl⟩
  case round =>
    obtain ⟨j, hj, rfl, HFI, HWR⟩ := hrel
    have hwr := HWR.out
    subst hwr
    clear HWR
    have HJ := Lib.hid hj
    by_cases hlt : j < nl
    · obtain ⟨g', rfl⟩ : ∃ g, gk = g + 1 := ⟨gk - 1, by omega⟩
      obtain ⟨p, hp⟩ := getElem?_of_lt (l := SL) (k := j) (by rw [hnl.out]; exact hlt)
      obtain ⟨gl, cl, cul, hlv, hkl, hgl, hfl, x0, x1', x2⟩ := own_pt (own_low HLO.out) hp
      rw [hnl.out] at hlv
      injection hlv with a1 a2 a3
      subst a1
      subst a3
      clear a2 hkl hfl
      have hpr := HIN.out j p hp
      obtain ⟨pk, hpk⟩ : ∃ d : Nat, p.n = (d : Int) := ⟨p.n.toNat, by omega⟩
      have hpkN : pk < E.V.length := by omega
      obtain ⟨v, hv⟩ := getElem?_of_lt hpkN
      have HFD := Lib.hid (firstR_drop (t := (i : Int)) hp (by rw [hpk, Int.toNat_natCast]; exact hv))
      obtain ⟨pn, pv2, pp⟩ := p
      simp only at hpk HFD x0
      subst hpk
      obtain ⟨gv, capv, cuv, hvv, hkv, hgv, hfv, hFv, v0, v1, v2⟩ := HD5.out.vr (i := pk) (v := v) hv
      have y1 : wr.cell? ⟨r, 1, none⟩ = some vv := HD5.out.bk.cell 1 _ rfl
      have HVV := Lib.hid hvv
      rw [hvv] at y1
      replace y1 : wr.cell? ⟨r, 1, none⟩ = some (.slice (some ⟨gv, 0, none⟩) E.V.length capv) := y1
      rw [hN.out] at y1 hpkN
      have q0 : (0 : Int) ≤ (j : Int) := by omega
      have q1 : (j : Int) < (nl : Int) := by omega
      have k0 : (0 : Int) ≤ (pk : Int) := by omega
      have k1 : (pk : Int) < (N : Int) := by omega
      have HFv := Lib.hid hFv
      have HV := Lib.hid hv
      have fv2 := hfv (pk * 3 + 2)
      obtain ⟨va, ve, lo⟩ := v
      simp only at v0 v1 v2 HFD
      clear hp hpr hv hvv hkv hfv hFv v0 v1 x1' x2
      by_cases c1 : lo = (i : Int)
      · subst c1
        have HN := Lib.hid (HFI.out.trans (HFD.out.trans (if_pos rfl)))
        go_wp2_with fail
        go_roundg g'
        case rel => exact ⟨j + 1, by have := HJ.out; omega, by go_num, HN, Lib.hid rfl⟩
        case measure => omega
      · have HN := Lib.hid (HFI.out.trans (HFD.out.trans (if_neg c1)))
        have c1' : (lo == (i : Int)) = false := by rw [beq_eq_false_iff_ne]; exact c1
        by_cases c2 : 0 ≤ lo
        · have hrr := HR.out
          rw [HN.out] at hrr
          have HRR := Lib.hid (hrr.trans (if_pos c2))
          clear hrr
          have c3 : lo ≥ 0 := c2
          go_wp2_with fail
          go_ret2
          rw [HRR.out]
          exact ⟨rfl, HON5.out, HDE5.out⟩
        · have hrr := HR.out
          rw [HN.out] at hrr
          have HRR := Lib.hid (hrr.trans (if_neg c2))
          clear hrr
          have c3 : decide (lo ≥ 0) = false := decide_eq_false c2
          have hd6 : DI (wr.setCell ⟨gv, pk * 3 + 2, none⟩ (.int .i64 (i : Int))) F r { setT E (i : Int) { x with commits := true } with V := E.V.set pk ⟨va, ve, (i : Int)⟩ } vv (.slice (some ⟨g, 0, none⟩) E.T.length cap) (Z.set i ⟨{ x with commits := true }, z.rv, z.pv⟩) := by
            have h := HD5.out
            rw [HVV.out] at h ⊢
            exact di_vcell h (v := ⟨va, ve, lo⟩) (v' := ⟨va, ve, (i : Int)⟩) (j := 2) (u := .int .i64 (i : Int)) HV.out (by decide) rfl
          have HD6 := Lib.hid hd6
          clear hd6 c2
          go_wp2_with fail
          go_ret2
          rw [HRR.out]
          exact ⟨rfl, HON5.out.trans ((OnS.cell gv _ _).weak fun b _ hb => by rw [hb]; exact HFv.out), _, _, _, HD6.out⟩
    · have hjn : j = nl := by omega
      subst hjn
      have hfn : firstR E.V (i : Int) SL = none := HFI.out.trans (by rw [List.drop_eq_nil_of_le (by rw [hnl.out]; exact Nat.le_refl _)]; rfl)
      have hrr := HR.out
      rw [hfn] at hrr
      simp only at hrr
      by_cases c1 : vl = 0
      · subst c1
        have hrr := hrr.trans (if_pos rfl)
        by_cases c2 : j = 0
        · subst c2
          have HRR := Lib.hid (hrr.trans (if_pos (List.length_eq_zero_iff.1 hnl.out)))
          clear hrr hfn
          go_wp2_with fail
          refine (HVL2.out _ HDE5.out).mono ?_
          rintro e w6 ⟨rfl, hb⟩
          have hd6 := HD5.out.keep hb
          obtain ⟨_, y2v, hgv8, hfv8, hFv8, d0, d1, d2, d3, d4, d5, d6, d7⟩ := DI.slot hd6 (by show (E.T.set _ _).length = 8; rw [List.length_set]; exact H8.out) HZA.out
          have HP9 := Lib.hid (di_put hd6 HZA.out tx0 rfl rfl)
          have HON6 := Lib.hid (HON5.out.trans (OnS.of hb))
          simp only at d0 d1 d2 d3 d4 d5 d6 d7
          have g0 := hfv8 (i * 8)
          have g1 := hfv8 (i * 8 + 1)
          have g2 := hfv8 (i * 8 + 2)
          have g3 := hfv8 (i * 8 + 3)
          have g4 := hfv8 (i * 8 + 4)
          have g5 := hfv8 (i * 8 + 5)
          have g6 := hfv8 (i * 8 + 6)
          have g7 := hfv8 (i * 8 + 7)
          have HFW := Lib.hid hFv8
          clear hb hd6 hfv8 hFv8 hf5 hF5
          go_wp2_with fail
          go_ret2
          rw [HRR.out]
          have hp9 := HP9.out
          simp only [List.set_set] at hp9
          exact ⟨rfl, HON6.out.trans (on_put8 HFW.out _ _ _ _ _ _ _ _ _), _, _, _, hp9⟩
        · have HRR := Lib.hid (hrr.trans (if_neg (fun e => c2 (by rw [← hnl.out, e]; rfl))))
          have c2' : ((j : Int) == 0) = false := by rw [beq_eq_false_iff_ne]; omega
          clear hrr hfn
          go_wp2_with fail
          refine (HVL2.out _ HDE5.out).mono ?_
          rintro e w6 ⟨rfl, hb⟩
          have hd6 := HD5.out.keep hb
          have hd7 := di_clock hd6 (ck + 1)
          obtain ⟨_, y2v, hgv8, hfv8, hFv8, d0, d1, d2, d3, d4, d5, d6, d7⟩ := DI.slot hd7 (by show (E.T.set _ _).length = 8; rw [List.length_set]; exact H8.out) HZA.out
          have y0 : w6.cell? ⟨r, 0, none⟩ = some (.int .i64 E.clock) := hd6.bk.cell 0 _ rfl
          rw [hckk.out] at y0
          have fr0 := hd6.bk.free 0
          have y0v : (w6.setCell ⟨r, 0, none⟩ (.int .i64 (ck + 1))).cell? ⟨r, 0, none⟩ = some (.int .i64 (ck + 1)) := hd7.bk.cell 0 _ rfl
          have hd8 := di_cell0 hd7 { x with commits := true, stamp := ck + 1 } (j := 6) (u := .int .i64 (ck + 1)) HZA.out (by decide) rfl rfl rfl
          have hz8 := set_some (b := (⟨{ x with commits := true, stamp := ck + 1 }, z.rv, z.pv⟩ : Tz)) HZA.out
          obtain ⟨_, y2e, _, _, _, _, _, _, _, _, _, _, _⟩ := DI.slot (hd8.keep (bdr _)) (by show ((E.T.set _ _).set _ _).length = 8; rw [List.length_set, List.length_set]; exact H8.out) hz8
          have y0e : ((w6.setCell ⟨r, 0, none⟩ (.int .i64 (ck + 1))).setCell ⟨g, i * 8 + 6, none⟩ (.int .i64 (ck + 1))).drew.cell? ⟨r, 0, none⟩ = some (.int .i64 (ck + 1)) := (hd8.keep (bdr _)).bk.cell 0 _ rfl
          have HC2 := Lib.hid (show ((w6.setCell ⟨r, 0, none⟩ (.int .i64 (ck + 1))).setCell ⟨g, i * 8 + 6, none⟩ (.int .i64 (ck + 1))).drew.cell? ⟨r, 0, none⟩ = some (.int .i64 (ck + 1)) ∧ ((w6.setCell ⟨r, 0, none⟩ (.int .i64 (ck + 1))).setCell ⟨g, i * 8 + 6, none⟩ (.int .i64 (ck + 1))).drew.cell? ⟨r, 2, none⟩ = some (.slice (some ⟨g, 0, none⟩) 8 cap) from ⟨y0e, y2e⟩)
          have y2d : (w6.setCell ⟨r, 0, none⟩ (.int .i64 (ck + 1))).drew.cell? ⟨r, 2, none⟩ = some (.slice (some ⟨g, 0, none⟩) E.T.length cap) := (hd7.keep (bdr _)).bk.cell 2 _ rfl
          rw [H8.out] at y2d
          have y0d : (w6.setCell ⟨r, 0, none⟩ (.int .i64 (ck + 1))).drew.cell? ⟨r, 0, none⟩ = some (.int .i64 (ck + 1)) := (hd7.keep (bdr _)).bk.cell 0 _ rfl
          have HC1 := Lib.hid (And.intro y0d y2d)
          have HON6 := Lib.hid (HON5.out.trans (OnS.of hb))
          have f6 := hfv8 (i * 8 + 6)
          have HFW := Lib.hid hFv8
          have HFR := Lib.hid hd6.own
          have HD8 := Lib.hid (hd8.keep (bdr _))
          simp only at d6
          clear hb hd6 hd7 hd8 hz8 hfv8 hFv8 hf5 hF5 y2e y0e y2d y0d d0 d1 d2 d3 d4 d5 d7 c2
          go_wp2_with fail
          go_region_held3 (fun w' => w'.cell? ⟨r, 0, none⟩ = some (.int .i64 (ck + 1)) ∧ w'.cell? ⟨r, 2, none⟩ = some (.slice (some ⟨g, 0, none⟩) 8 cap)) (first | with_reducible exact HC1.out | with_reducible exact HC2.out | go_keep) (fail)
          all_goals
            go_wp2_with fail
            go_ret2
            rw [HRR.out, hckk.out]
            have hp9 := HD8.out
            simp only [List.set_set] at hp9
            exact ⟨rfl, HON6.out.trans ((((OnS.cell r _ _).weak fun b _ hb => by rw [hb]; exact HFR.out).trans ((OnS.cell g _ _).weak fun b _ hb => by rw [hb]; exact HFW.out)).trans (OnS.of (bdr _))), _, _, _, hp9⟩
      · have HRR := Lib.hid (hrr.trans (if_neg c1))
        have c1' : (vl != 0) = true := by rw [bne_iff_ne]; exact c1
        clear hrr hfn
        go_wp2_with fail
        refine (HVL2.out _ HDE5.out).mono ?_
        rintro e w6 ⟨rfl, hb⟩
        have HD6 := Lib.hid (HDE5.out.keep hb)
        have HON6 := Lib.hid (HON5.out.trans (OnS.of hb))
        clear hb
        go_wp2_with fail
        go_ret2
        rw [HRR.out]
        exact ⟨rfl, HON6.out, HD6.out⟩
theorem rstep_c (w : World) (F : Nat → Prop) (r : Nat) (E : Eg) (H : DE w F r E) (m : Nat) (HW : Wf m E) (hm : m ≤ 1000000) (t : Int) :
    Calls Try.prog 34 #[.pointer (some ⟨r, 0, none⟩), .int .i64 t] w fun e w' => e = .returned (.tuple #[.int .i64 (stepR E t).2.1, .int .i64 (stepR E t).2.2]) ∧ OnS F w w' ∧ DE w' F r (stepR E t).1 := by
  have bad : ∀ (hr : stepR E t = (E, 0, 1)) (hb : hasR E t = false ∨ ∃ x, thR E t = some x ∧ 1 < x.parts), Calls Try.prog 34 #[.pointer (some ⟨r, 0, none⟩), .int .i64 t] w fun e w' => e = .returned (.tuple #[.int .i64 (stepR E t).2.1, .int .i64 (stepR E t).2.2]) ∧ OnS F w w' ∧ DE w' F r (stepR E t).1 := fun hr hb => by
    rw [hr]
    exact (rstep_bad w F r E H HW.th t hb).mono (fun e w' ⟨h1, h2⟩ => ⟨h1, OnS.of h2, H.keep h2⟩)
  rcases thR_cases E HW.th t with ⟨hn, h1⟩ | ⟨i, x, rfl, hi, hx, hth⟩
  · exact bad (by unfold stepR; rw [hn]) (.inl (by unfold hasR; rw [hn]))
  · by_cases his : x.is = true
    · by_cases hp : x.parts ≤ 1
      · by_cases hs : 0 < x.stamp
        · exact rstep_write w F r E H m HW hm i x hx his hp hs
        · exact rstep_lock w F r E H m HW hm i x hx his hp hs
      · exact bad (by unfold stepR; rw [hth]; exact if_pos (.inr (by omega))) (.inr ⟨x, hth, by omega⟩)
    · have his : x.is = false := by cases h : x.is <;> simp [h] at his ⊢
      exact bad (by unfold stepR; rw [hth]; exact if_pos (.inl his)) (.inl (by unfold hasR; rw [hth]; exact his))
end Go.Proofs.Ytjoifodjbdbicaa.UO

/- The document's engine: Words. -/
namespace Go.Proofs.Ytjoifodjbdbicaa.UP
open Go.RowKit Go.Proofs.Ytjoifodjbdbicaa.RG Go.Proofs.Ytjoifodjbdbicaa.RB Go.Proofs.Ytjoifodjbdbicaa.RI Go.Proofs.Ytjoifodjbdbicaa.UA Go.Proofs.Ytjoifodjbdbicaa.UB Go.Proofs.Ytjoifodjbdbicaa.UC Go.Proofs.Ytjoifodjbdbicaa.UD Go.Proofs.Ytjoifodjbdbicaa.UE Go.Proofs.Ytjoifodjbdbicaa.UF Go.Proofs.Ytjoifodjbdbicaa.UG Go.Proofs.Ytjoifodjbdbicaa.UH Go.Proofs.Ytjoifodjbdbicaa.UI Go.Proofs.Ytjoifodjbdbicaa.UJ Go.Proofs.Ytjoifodjbdbicaa.UK Go.Proofs.Ytjoifodjbdbicaa.UL Go.Proofs.Ytjoifodjbdbicaa.UM Go.Proofs.Ytjoifodjbdbicaa.UN Go.Proofs.Ytjoifodjbdbicaa.UO
set_option linter.unusedVariables false
set_option maxRecDepth 100000
set_option maxRecDepth 100000

theorem partsW_len (x : Tx) (hp : x.puts.length ≤ 1000) : ∀ k : Nat, (partsW x k).length ≤ k * 1000
  | 0 => Nat.le_refl _
  | k + 1 => by
    have ih := partsW_len x hp k
    have := sortR_len x.puts ((k : Int) + 1)
    unfold partsW
    rw [List.length_append, List.length_map]
    omega
theorem txW_len {m N : Nat} {x : Tx} (h : WfT m N x) (hm : m ≤ 1000) : (txW x).length ≤ 1000000 := by
  unfold txW
  split
  · have := partsW_len x (Nat.le_trans h.puts hm) x.parts.toNat
    have := h.parts
    omega
  · exact Nat.zero_le _
theorem flat_len {m N : Nat} (hm : m ≤ 1000) : ∀ (l : List Tx), (∀ x, x ∈ l → WfT m N x) → ((l.map txW).flatten).length ≤ l.length * 1000000
  | [], _ => Nat.le_refl _
  | x :: l, h => by
    have ih := flat_len hm l (fun y hy => h y (List.mem_cons_of_mem _ hy))
    have := txW_len (h x List.mem_cons_self) hm
    rw [List.map_cons, List.flatten_cons, List.length_append, List.length_cons]
    omega
theorem flat_take {l : List Tx} {t : Nat} {x : Tx} (h : l[t]? = some x) : ((l.take (t + 1)).map txW).flatten = ((l.take t).map txW).flatten ++ txW x := by
  rw [List.take_add_one, h, List.map_append, List.flatten_append]
  simp
theorem map_take {α : Type} {l : List α} (f : α → Int) {j : Nat} {x : α} (h : l[j]? = some x) : (l.take (j + 1)).map f = (l.take j).map f ++ [f x] := by
  rw [List.take_add_one, h, List.map_append]
  rfl
theorem gk_pos {pt : Int} {np k gk : Nat} (h1 : pt.toNat = np) (h2 : (k : Int) + 1 ≤ pt) (h3 : k + gk = np) : gk = gk - 1 + 1 := by omega
theorem k_all {pt : Int} {np k gk : Nat} (h1 : pt.toNat = np) (h2 : ¬ (k : Int) + 1 ≤ pt) (h3 : k + gk = np) : k = np := by omega
theorem q2_len {m : Nat} {E : Eg} {P : List Int} (hW : Wf m E) (hm : m ≤ 1000) (hP : P.length ≤ 4000) (t : Nat) : (P ++ ((E.T.take t).map txW).flatten).length ≤ 10000000 := by
  have h2 := flat_len hm (E.T.take t) (fun x hx => hW.tx x (List.mem_of_mem_take hx))
  have h3 : (E.T.take t).length ≤ 8 := by rw [List.length_take, hW.th]; exact Nat.min_le_right _ _
  have h4 : (E.T.take t).length * 1000000 ≤ 8 * 1000000 := Nat.mul_le_mul_right _ h3
  rw [List.length_append]
  omega
theorem q3_len {x : Tx} {Q : List Int} (hQ : Q.length ≤ 10000000) (hp : x.puts.length ≤ 1000) {k : Nat} (hk : k ≤ 1000) : (Q ++ partsW x k).length ≤ 20000000 := by
  have h2 := partsW_len x hp k
  have h4 : k * 1000 ≤ 1000 * 1000 := Nat.mul_le_mul_right _ hk
  rw [List.length_append]
  omega
set_option maxHeartbeats 6400000 in
theorem rwords_c (w : World) (F : Nat → Prop) (r : Nat) (E : Eg) (H : DE w F r E) (m : Nat) (HW : Wf m E) (hm : m ≤ 1000) :
    Calls Try.prog 48 #[.pointer (some ⟨r, 0, none⟩)] w fun e w' => ∃ v, e = .returned v ∧ OwnR TI w' w.heap.size Nobody v (wordsR E) ∧ Below w.heap.size w w' := by
  have HWF := Lib.hid HW
  have H8 := Lib.hid HW.th
  obtain ⟨N, hN⟩ : ∃ N, Hid (E.V.length = N) := ⟨_, Lib.hid rfl⟩
  have hN4 := HW.vs
  rw [hN.out] at hN4
  obtain ⟨vv, tv, Z, hd⟩ := H
  have HD := Lib.hid hd
  have HM := Lib.hid hm
  clear hd HW hm
  go_enter Try.func48, Try.ntmps48
  go_wp2_with fail
  go_loopg [3, 4] N (fun gg ov iv wr => ∃ j : Nat, j + gg = N ∧ iv = .int .i64 (j : Int) ∧ Hid (OwnR TI wr w.heap.size Nobody ov ((E.V.take j).map (·.val))) ∧ Hid (Below w.heap.size w wr))
  case atStart => exact ⟨0, Nat.zero_add _, rfl, Lib.hid (OwnR.nil _ _ _), Lib.hid (Below.refl _ _)⟩
  case round =>
    obtain ⟨j, hj, rfl, HO, HB⟩ := hrel
    have HJ := Lib.hid hj
    have hd := HD.out.keep HB.out
    obtain ⟨va, vc, hvv, _⟩ := hd.vs.val
    have y1 : wr.cell? ⟨r, 1, none⟩ = some vv := hd.bk.cell 1 _ rfl
    rw [hvv, hN.out] at y1
    obtain ⟨P, hP⟩ : ∃ P, Hid ((E.V.take j).map (·.val) = P) := ⟨_, Lib.hid rfl⟩
    rw [hP.out] at HO
    obtain ⟨oa, oc, hov, _⟩ := HO.out.val
    have HPL := Lib.hid (show P.length ≤ 4000 from by rw [← hP.out, List.length_map, List.length_take]; omega)
    by_cases hlt : j < N
    · obtain ⟨g', rfl⟩ : ∃ g, gk = g + 1 := ⟨gk - 1, by omega⟩
      obtain ⟨v, hv⟩ := getElem?_of_lt (l := E.V) (k := j) (by rw [hN.out]; exact hlt)
      obtain ⟨gv, capv, cuv, hvv2, hkv, hgv, hfv, hFv, v0, v1, v2⟩ := hd.vr hv
      rw [hvv, hN.out] at hvv2
      injection hvv2 with e1 e2 e3
      subst e1
      subst e3
      clear e2
      have HNX := Lib.hid (map_take (·.val) hv)
      rw [hP.out] at HNX
      obtain ⟨x0, x1, x2⟩ := v
      simp only at v0 HNX
      have j0 : (0 : Int) ≤ (j : Int) := by omega
      have j1 : (j : Int) < (N : Int) := by omega
      have HBA := Lib.hid (balloc wr (.cells #[.int .i64 x0] 3))
      have HOA := Lib.hid (HO.out.keep HBA.out)
      subst hov
      have HR := Lib.hid (show RowR TI (wr.alloc (.cells #[.int .i64 x0] 3)) (fun b => Nobody b ∧ (Value.slice oa P.length oc).ownBlock ≠ some b) (.slice (some ⟨wr.heap.size, 0, none⟩) 1 1) [x0] from rowR_new (q := []) #[.int .i64 x0] 3 rfl rfl)
      have HLN := Lib.hid (show P.length + [x0].length ≤ 100000000000 from by have := HPL.out; simp; omega)
      have HXA := Lib.hid (bnext HB.out HBA.out)
      have HBS := Lib.hid HXA.out.size
      clear hd hv hvv hkv hfv hFv v1 v2
      go_wp2_with (at_builtin; go_loud (refine wpList_row TI (wr.alloc (.cells #[.int .i64 x0] 3)) rfl (.tmp 18) (.tmp 27) rfl w.heap.size Nobody (.slice oa P.length oc) (.slice (some ⟨wr.heap.size, 0, none⟩) 1 1) P [x0] rfl rfl HOA.out HR.out HLN.out HBS.out ?_); intro ao6 n6 cap6 w6 hO6 hn6 hg6 ha6; clear hn6; have HO6 := Lib.hid hO6; have HX6 := Lib.hid (HXA.out.trans (bgrown hg6 (fun b hb => (HOA.out.own hb).1) HBS.out)); clear hO6 hg6 ha6)
      go_roundg g'
      case rel => exact ⟨j + 1, by have := HJ.out; omega, by go_num, by rw [HNX.out]; exact HO6, HX6⟩
      case measure => omega
    · have hjn : j = N := by omega
      subst hjn
      rw [List.take_of_length_le (by rw [hN.out]; exact Nat.le_refl _)] at hP
      subst hov
      have HBX := Lib.hid HB.out
      have HOX := Lib.hid HO.out
      clear hd hvv
      go_wp2_with fail
      rename World => w2
      go_loopg [3, 5, 6, 7, 8] 8 (fun gg ov tv kv lv iv w3 => ∃ t : Nat, t + gg = 8 ∧ tv = .int .i64 (t : Int) ∧ Hid (OwnR TI w3 w.heap.size Nobody ov (P ++ ((E.T.take t).map txW).flatten)) ∧ Hid (Below w.heap.size w w3))
      case atStart => exact ⟨0, Nat.zero_add _, rfl, by show Hid (OwnR TI _ w.heap.size Nobody _ (P ++ [])); rw [List.append_nil]; exact HOX, HBX⟩
      case round =>
        obtain ⟨t, ht, rfl, HO2, HB2⟩ := hrel
        have HT := Lib.hid ht
        obtain ⟨Q2, hQ2⟩ : ∃ Q, Hid (P ++ ((E.T.take t).map txW).flatten = Q) := ⟨_, Lib.hid rfl⟩
        rw [hQ2.out] at HO2
        have HQL := Lib.hid (show Q2.length ≤ 10000000 from by rw [← hQ2.out]; exact q2_len HWF.out HM.out HPL.out t)
        by_cases hlt2 : t < 8
        · obtain ⟨g', rfl⟩ : ∃ g, gk = g + 1 := ⟨gk - 1, by omega⟩
          obtain ⟨x, hx⟩ := getElem?_of_lt (l := E.T) (k := t) (by rw [H8.out]; exact hlt2)
          have HX := Lib.hid hx
          have HFT := Lib.hid (flat_take hx)
          have hwx := HWF.out.tx x (mem_of hx)
          obtain ⟨np, hnp⟩ : ∃ np, Hid (x.parts.toNat = np) := ⟨_, Lib.hid rfl⟩
          have hnpm : np ≤ 1000 := by have := hwx.parts; have := HM.out; rw [← hnp.out]; omega
          have t0 : (0 : Int) ≤ (t : Int) := by omega
          have t1 : (t : Int) < 8 := by omega
          clear hx
          go_wp2_with fail
          rename World => w4
          go_loopg [3, 6, 7, 8] np (fun gg ov kv lv iv w5 => ∃ k : Nat, k + gg = np ∧ kv = .int .i64 ((k : Int) + 1) ∧ Hid (x.is = false → k = 0) ∧ Hid (OwnR TI w5 w.heap.size Nobody ov (Q2 ++ partsW x k)) ∧ Hid (Below w.heap.size w w5))
          case atStart => exact ⟨0, Nat.zero_add _, rfl, Lib.hid (fun _ => rfl), by show Hid (OwnR TI _ w.heap.size Nobody _ (Q2 ++ [])); rw [List.append_nil]; exact HO2, HB2⟩
          case round =>
            obtain ⟨k, hk, rfl, HK0, HO3, HB3⟩ := hrel
            have HK := Lib.hid hk
            have hd := HD.out.keep HB3.out
            obtain ⟨z, hz, hzx⟩ := hd.zat HX.out
            obtain ⟨g, cap, cur, htv, hkk, hg, hf, hF, c0, c1, c2, c3, c4, c5, c6, c7⟩ := hd.tx hz
            have y2 : wr.cell? ⟨r, 2, none⟩ = some tv := hd.bk.cell 2 _ rfl
            rw [htv, H8.out] at y2
            rw [hzx] at c0 c4
            obtain ⟨b, hb⟩ : ∃ b, Hid (x.is = b) := ⟨_, Lib.hid rfl⟩
            obtain ⟨pt, hpt⟩ : ∃ b, Hid (x.parts = b) := ⟨_, Lib.hid rfl⟩
            rw [hb.out] at c0
            rw [hpt.out] at c4
            have HPV := Lib.hid (hd.rows t z hz).2
            rw [hzx] at HPV
            obtain ⟨pv, hpv⟩ : ∃ p, Hid (z.pv = p) := ⟨_, Lib.hid rfl⟩
            rw [hpv.out] at HPV c3
            clear hd hz hzx htv hkk hf hF c1 c2 c5 c6 c7
            by_cases hgo : (k : Int) + 1 ≤ pt ∧ b = true
            · obtain ⟨q1, rfl⟩ := hgo
              obtain ⟨g2, rfl⟩ : ∃ g, gk = g + 1 := ⟨gk - 1, gk_pos (hpt.out ▸ hnp.out) q1 HK.out⟩
              have HST := Lib.hid (rsorted_c wr Nobody pv x.puts HPV.out.row (Nat.le_trans (Nat.le_trans hwx.puts HM.out) (by decide)) ((k : Int) + 1))
              obtain ⟨SL, hSL⟩ : ∃ l, Hid (sortR x.puts ((k : Int) + 1) = l) := ⟨_, Lib.hid rfl⟩
              rw [hSL.out] at HST
              have hsl : SL.length ≤ 1000 := by rw [← hSL.out]; exact Nat.le_trans (sortR_len _ _) (Nat.le_trans hwx.puts HM.out)
              obtain ⟨ns, hns⟩ : ∃ l, Hid (SL.length = l) := ⟨_, Lib.hid rfl⟩
              rw [hns.out] at hsl
              obtain ⟨Q3, hQ3⟩ : ∃ Q, Hid (Q2 ++ partsW x k = Q) := ⟨_, Lib.hid rfl⟩
              rw [hQ3.out] at HO3
              have HQ3 := Lib.hid (show Q3.length ≤ 20000000 from by rw [← hQ3.out]; exact q3_len HQL.out (Nat.le_trans hwx.puts HM.out) (by omega))
              have HPN := Lib.hid (show Q2 ++ partsW x (k + 1) = Q3 ++ SL.map (·.v) from by rw [← hQ3.out, ← hSL.out, List.append_assoc]; rfl)
              go_wp2_with fail
              refine HST.out.mono ?_
              rintro e w6 ⟨lv, rfl, hlo, hlb⟩
              obtain ⟨la, lc, hlv, _⟩ := hlo.val
              rw [hns.out] at hlv
              subst hlv
              have HLO := Lib.hid hlo
              have HB6 := Lib.hid (bnext HB3.out hlb)
              have HO6 := Lib.hid (HO3.out.keep hlb)
              have HLB := Lib.hid hlb
              have HAP := Lib.hid (show ∀ b, (Value.slice la ns lc).ownBlock = some b → wr.heap.size ≤ b from fun b e => (hlo.own e).1)
              clear hlo hlb
              go_wp2_with fail
              rename World => w7
              go_loopg [3, 8] ns (fun gg ov iv w8 => ∃ i : Nat, i + gg = ns ∧ iv = .int .i64 (i : Int) ∧ Hid (OwnR TI w8 w.heap.size Nobody ov (Q3 ++ (SL.take i).map (·.v))) ∧ Hid (OwnR TPt w8 wr.heap.size Nobody (.slice la ns lc) SL) ∧ Hid (Below w.heap.size w w8))
              case atStart => exact ⟨0, Nat.zero_add _, rfl, by rw [List.take_zero, List.map_nil, List.append_nil]; exact HO6, HLO, HB6⟩
              case round =>
                obtain ⟨i, hi, rfl, HO8, HL8, HB8⟩ := hrel
                have HI := Lib.hid hi
                obtain ⟨Q4, hQ4⟩ : ∃ Q, Hid (Q3 ++ (SL.take i).map (·.v) = Q) := ⟨_, Lib.hid rfl⟩
                rw [hQ4.out] at HO8
                have HQ4 := Lib.hid (show Q4.length ≤ 30000000 from by
                  have h1 := HQ3.out
                  rw [← hQ4.out, List.length_append, List.length_map, List.length_take]
                  have : min i SL.length ≤ SL.length := Nat.min_le_right _ _
                  have h3 := hns.out
                  omega)
                obtain ⟨oa2, oc2, hov2, _⟩ := HO8.out.val
                subst hov2
                by_cases hlt3 : i < ns
                · obtain ⟨g3, rfl⟩ : ∃ g, gk = g + 1 := ⟨gk - 1, by omega⟩
                  obtain ⟨p, hp⟩ := getElem?_of_lt (l := SL) (k := i) (by rw [hns.out]; exact hlt3)
                  obtain ⟨gp, cp, cu, hpv3, hkp, hgp, hfp, x0, x1, x2⟩ := own_pt (own_low HL8.out) hp
                  rw [hns.out] at hpv3
                  injection hpv3 with e1 e2 e3
                  subst e1
                  subst e3
                  clear e2
                  have HNX := Lib.hid (show Q3 ++ (SL.take (i + 1)).map (·.v) = Q4 ++ [p.v] from by rw [map_take (·.v) hp, ← List.append_assoc, hQ4.out])
                  obtain ⟨pn, pv2, pp⟩ := p
                  simp only at x0 x1 x2 HNX
                  have i0 : (0 : Int) ≤ (i : Int) := by omega
                  have i1 : (i : Int) < (ns : Int) := by omega
                  have HBA := Lib.hid (balloc wr (.cells #[.int .i64 pv2] 3))
                  have HOA := Lib.hid (HO8.out.keep HBA.out)
                  have HLA := Lib.hid (HL8.out.keep HBA.out)
                  have HR := Lib.hid (show RowR TI (wr.alloc (.cells #[.int .i64 pv2] 3)) (fun b => Nobody b ∧ (Value.slice oa2 Q4.length oc2).ownBlock ≠ some b) (.slice (some ⟨wr.heap.size, 0, none⟩) 1 1) [pv2] from rowR_new (q := []) #[.int .i64 pv2] 3 rfl rfl)
                  have HLN := Lib.hid (show Q4.length + [pv2].length ≤ 100000000000 from by have := HQ4.out; simp; omega)
                  have HXA := Lib.hid (bnext HB8.out HBA.out)
                  have HBS := Lib.hid HXA.out.size
                  clear hp hkp hfp x0 x2
                  go_wp2_with (at_builtin; go_loud (refine wpList_row TI (wr.alloc (.cells #[.int .i64 pv2] 3)) rfl (.tmp 71) (.tmp 77) rfl w.heap.size Nobody (.slice oa2 Q4.length oc2) (.slice (some ⟨wr.heap.size, 0, none⟩) 1 1) Q4 [pv2] rfl rfl HOA.out HR.out HLN.out HBS.out ?_); intro ao6 n6 cap6 w6 hO6 hn6 hg6 ha6; clear hn6; have HO6' := Lib.hid hO6; have HX6 := Lib.hid (HXA.out.trans (bgrown hg6 (fun b hb => (HOA.out.own hb).1) HBS.out)); have HL6 := Lib.hid (ownF_on HLA.out (ons_grown hg6) (fun b e e2 => own_diff HLA.out HOA.out (by decide) e e2)); clear hO6 hg6 ha6)
                  go_roundg g3
                  case rel => exact ⟨i + 1, by have := HI.out; omega, by go_num, by rw [HNX.out]; exact HO6', HL6, HX6⟩
                  case measure => omega
                · have hin : i = ns := by omega
                  subst hin
                  have HE := Lib.hid (show Q4 = Q2 ++ partsW x (k + 1) from by rw [HPN.out, ← hQ4.out, List.take_of_length_le (by rw [hns.out]; exact Nat.le_refl _)])
                  go_wp2_with fail
                  go_roundg g2
                  case rel => exact ⟨k + 1, by have := HK.out; omega, by go_num, Lib.hid (fun e => by rw [hb.out] at e; cases e), by rw [← HE.out]; exact HO8, HB8⟩
                  case measure => omega
            · have HTX := Lib.hid (show Q2 ++ partsW x k = Q2 ++ txW x from by
                cases b with
                | false =>
                  have hk0 := HK0.out hb.out
                  subst hk0
                  unfold txW
                  rw [hb.out]
                  rfl
                | true =>
                  have h1 : ¬ (k : Int) + 1 ≤ pt := fun h => hgo ⟨h, rfl⟩
                  have hkn : k = np := k_all (hpt.out ▸ hnp.out) h1 HK.out
                  unfold txW
                  rw [hb.out, if_pos rfl, hnp.out, hkn])
              obtain ⟨oa2, oc2, hov2, _⟩ := HO3.out.val
              subst hov2
              have hgo2 : (decide ((k : Int) + 1 ≤ pt) = false) ∨ ((k : Int) + 1 ≤ pt ∧ b = false) := by
                by_cases h : (k : Int) + 1 ≤ pt
                · exact .inr ⟨h, by cases b; rfl; exact absurd ⟨h, rfl⟩ hgo⟩
                · exact .inl (decide_eq_false h)
              clear hgo
              rcases hgo2 with hgo2 | ⟨hgo2, rfl⟩
              all_goals
                go_wp2_with fail
                go_roundg g'
                case rel => exact ⟨t + 1, by have := HT.out; omega, by go_num, by rw [HFT.out, ← List.append_assoc, hQ2.out, ← HTX.out]; exact HO3, HB3⟩
                case measure => omega
        · have hin : t = 8 := by omega
          subst hin
          have HE := Lib.hid (show Q2 = wordsR E from by
            rw [← hQ2.out, List.take_of_length_le (by rw [H8.out]; exact Nat.le_refl _), ← hP.out]
            rfl)
          go_wp2_with fail
          go_ret
          exact ⟨_, rfl, by rw [← HE.out]; exact HO2.out, HB2.out⟩
end Go.Proofs.Ytjoifodjbdbicaa.UP
