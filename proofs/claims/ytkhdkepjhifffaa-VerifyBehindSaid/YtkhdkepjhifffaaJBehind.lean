/- VerifyBehind: the walk. -/
import Derived.Test.YtkhdkepjhifffaaVX
import Derived.Test.YtkhdkepjhifffaaVW
import Derived.Test.YtkhdkepjhifffaaPE
import Derived.Test.YtkhdkepjhifffaaWC
import Derived.Test.YtkhdkepjhifffaaWE
namespace Go.Proofs.Ytkhdkepjhifffaa.verifyBehind
open Go.RowKit Go.Proofs.Ytkhdkepjhifffaa.RG Go.Proofs.Ytkhdkepjhifffaa.KA Go.Proofs.Ytkhdkepjhifffaa.KB Go.Proofs.Ytkhdkepjhifffaa.KC Go.Proofs.Ytkhdkepjhifffaa.KH Go.Proofs.Ytkhdkepjhifffaa.KI Go.Proofs.Ytkhdkepjhifffaa.PE Go.Proofs.Ytkhdkepjhifffaa.VA Go.Proofs.Ytkhdkepjhifffaa.VO Go.Proofs.Ytkhdkepjhifffaa.VP Go.Proofs.Ytkhdkepjhifffaa.VX
set_option linter.unusedVariables false
set_option maxRecDepth 100000
set_option maxRecDepth 100000

open Go.Proofs.Ytkhdkepjhifffaa.WA Go.Proofs.Ytkhdkepjhifffaa.WC Go.Proofs.Ytkhdkepjhifffaa.WE
set_option maxHeartbeats 32000000 in
theorem less (w : World) (c : Cd) (fv iv tv : Value) (h : HasC w (fun _ => True) c fv iv tv) (hl : c.funs.length ≤ maxLen ∧ c.ints.length ≤ maxLen ∧ c.texts.length ≤ maxLen ∧ ∀ f, f ∈ c.funs → f.code.length ≤ maxLen) (n : Int) (p0 : -9223372036854775808 ≤ n) (p1 : n ≤ 9223372036854775807) (at_ : Int) (q0 : -9223372036854775808 ≤ at_) (q1 : at_ ≤ 9223372036854775807) (i : In) (hat : at_ < 0) :
    Calls Try.prog 7 #[.agg #[fv, iv, tv, .int .i64 c.lets], .int .i64 n, .int .i64 at_, .agg #[.int .i64 i.op, .int .i64 i.a, .int .i64 i.b]] w fun e w' => e = .returned (.bool true) ∧ Below w.heap.size w w' := by
  obtain ⟨fo, fc, rfl, hfc⟩ := h.funs.val
  obtain ⟨io, ic, rfl, hic⟩ := h.ints.val
  obtain ⟨to_, tc, rfl, htc⟩ := h.texts.val
  obtain ⟨LT, hLT⟩ : ∃ x, Hid (c.lets = x) := ⟨_, Lib.hid rfl⟩
  obtain ⟨X, hX⟩ : ∃ X, Hid (w.heap.size = X) := ⟨_, Lib.hid rfl⟩
  have HCUT := Lib.hid (fun w' (hb : Below w.heap.size w w') => Go.Proofs.Ytkhdkepjhifffaa.WB.cutg_c c _ _ _ w' _ (h.keep hb) hl)
  have hs := few c
  obtain ⟨n1, hn1⟩ : ∃ x, Hid (c.funs.length = x) := ⟨_, Lib.hid rfl⟩
  obtain ⟨n2, hn2⟩ : ∃ x, Hid (c.ints.length = x) := ⟨_, Lib.hid rfl⟩
  obtain ⟨n3, hn3⟩ : ∃ x, Hid (c.texts.length = x) := ⟨_, Lib.hid rfl⟩
  rw [hn1.out, hn2.out, hn3.out] at HCUT ⊢
  unfold Go.Proofs.Ytkhdkepjhifffaa.WB.CutG at HCUT
  rw [hLT.out] at HCUT ⊢
  have HK := Lib.hid ((new_at w #[.slice fo n1 fc, .slice io n2 ic, .slice to_ n3 tc, .int .i64 LT] 27 hX.out).alloc (.cells #[.int .i64 i.op, .int .i64 i.a, .int .i64 i.b] 45))
  have HI := Lib.hid (new_at (w.alloc (.cells #[.slice fo n1 fc, .slice io n2 ic, .slice to_ n3 tc, .int .i64 LT] 27)) #[.int .i64 i.op, .int .i64 i.a, .int .i64 i.b] 45 (show _ = X + 1 by simp [hX.out]))
  have HX := Lib.hid (bnext (balloc w (.cells #[.slice fo n1 fc, .slice io n2 ic, .slice to_ n3 tc, .int .i64 LT] 27)) (balloc _ (.cells #[.int .i64 i.op, .int .i64 i.a, .int .i64 i.b] 45)))
  clear h hl hfc hic htc hn1 hn2 hn3
  go_enter Try.func7, Try.ntmps7
  go_wp2_with fail
  refine (HCUT.out _ HX.out).mono ?_
  rintro e w2 ⟨f2, i2, t2, GS, rfl, hg2, hb2⟩
  have ho2 := hg2.o
  clear HCUT
  obtain ⟨fa, fc2, ef, _⟩ := ho2.funs.val
  obtain ⟨ia, ic2, ei, _⟩ := ho2.ints.val
  obtain ⟨ta, tc2, et, _⟩ := ho2.texts.val
  obtain ⟨NF, hNF⟩ : ∃ x, (cutCd c).funs.length = x := ⟨_, rfl⟩
  obtain ⟨NI, hNI⟩ : ∃ x, (cutCd c).ints.length = x := ⟨_, rfl⟩
  obtain ⟨NT, hNT⟩ : ∃ x, (cutCd c).texts.length = x := ⟨_, rfl⟩
  rw [hNF] at ef
  rw [hNI] at ei
  rw [hNT] at et
  subst ef ei et
  have HN := Lib.hid (And.intro hNF (And.intro hNI hNT))
  clear hNF hNI hNT
  have hk2 := HK.out.keep hb2
  have hX1 : X < ((w.alloc (.cells #[.slice fo n1 fc, .slice io n2 ic, .slice to_ n3 tc, .int .i64 LT] 27)).alloc (.cells #[.int .i64 i.op, .int .i64 i.a, .int .i64 i.b] 45)).heap.size := by simp [hX.out]; omega
  have HIA := Lib.hid (((((HI.out.keep hb2).other (show X + 1 ≠ X by omega) 0 (.slice fa NF fc2)).other (show X + 1 ≠ X by omega) 1 (.slice ia NI ic2)).other (show X + 1 ≠ X by omega) 2 (.slice ta NT tc2)).other (show X + 1 ≠ X by omega) 3 (.int .i64 LT))
  have HKA := Lib.hid (put4 (a' := .slice fa NF fc2) (b' := .slice ia NI ic2) (c' := .slice ta NT tc2) (d' := .int .i64 LT) hk2)
  have HGA := Lib.hid ((((hg2.other hX1 0 (.slice fa NF fc2)).other hX1 1 (.slice ia NI ic2)).other hX1 2 (.slice ta NT tc2)).other hX1 3 (.int .i64 LT))
  have hxx := bnext HX.out hb2
  have HXA := Lib.hid (show Below w.heap.size w ((((w2.setCell ⟨X, 0, none⟩ (.slice fa NF fc2)).setCell ⟨X, 1, none⟩ (.slice ia NI ic2)).setCell ⟨X, 2, none⟩ (.slice ta NT tc2)).setCell ⟨X, 3, none⟩ (.int .i64 LT)) from (((hxx.setCell (p := ⟨X, 0, none⟩) (by have := hX.out; show w.heap.size ≤ X; omega) _).setCell (p := ⟨X, 1, none⟩) (by have := hX.out; show w.heap.size ≤ X; omega) _).setCell (p := ⟨X, 2, none⟩) (by have := hX.out; show w.heap.size ≤ X; omega) _).setCell (p := ⟨X, 3, none⟩) (by have := hX.out; show w.heap.size ≤ X; omega) _)
  have c0 := hk2.cell 0 _ rfl
  have c1 := hk2.cell 1 _ rfl
  have c2 := hk2.cell 2 _ rfl
  have c3 := hk2.cell 3 _ rfl
  have f0 := hk2.free 0
  have f1 := hk2.free 1
  have f2' := hk2.free 2
  have f3 := hk2.free 3
  have lX := hk2.lt
  have j0 := HIA.out.cell 0 _ rfl
  have j1 := HIA.out.cell 1 _ rfl
  have j2 := HIA.out.cell 2 _ rfl
  clear hk2 hX1 hxx ho2 hg2 hb2
  rw [hX.out]
  go_wp2_with fail
  have HS := Lib.hid hs
  clear hs c0 c1 c2 c3 f0 f1 f2' f3 lX j0 j1 j2
  generalize hWA : World.setCell _ _ _ = WA at HKA HIA HGA HXA ⊢
  clear hWA
  have hlt0 : (cutCd c).lets = LT := hLT.out
  refine (instr_c i WA).mono ?_
  rintro e w3 ⟨rfl, hb3⟩
  obtain ⟨MB, hMB⟩ : ∃ x, Hid (insOk i = x) := ⟨_, Lib.hid rfl⟩
  rw [hMB.out]
  have HX3 := Lib.hid (bnext HXA.out hb3)
  have HK3 := Lib.hid (HKA.out.keep hb3)
  have hg3 := HGA.out.keep hb3
  obtain ⟨B, hB⟩ : ∃ B, Hid (X + 1 + 1 = B) := ⟨_, Lib.hid rfl⟩
  rw [World.size_alloc, World.size_alloc, hX.out, hB.out] at hg3
  have HG3 := Lib.hid hg3
  have HXB := Lib.hid (show X < B from by have := hB.out; omega)
  have HWB := Lib.hid (show w.heap.size ≤ X ∧ w.heap.size ≤ B from by have := hX.out; have := hB.out; omega)
  have HI3 := Lib.hid (HIA.out.keep hb3)
  have HP := pdepths_n (cutCd c) _ _ _ n w3 _ HG3.out.o.has HS.out
  rw [hlt0] at HP
  have HPC := Lib.hid HP
  clear HP hb3 hg3 HKA HIA HXA HGA
  have k0 := HK3.out.cell 0 _ rfl
  have k1 := HK3.out.cell 1 _ rfl
  have k2 := HK3.out.cell 2 _ rfl
  have k3 := HK3.out.cell 3 _ rfl
  go_wp2_with fail
  refine HPC.out.mono ?_
  rintro e w4 ⟨hb4, v, L, rfl, hrow, hdo, hdep⟩
  have HX4 := Lib.hid (bnext HX3.out hb4)
  have HK4 := Lib.hid (HK3.out.keep hb4)
  have HI4 := Lib.hid (HI3.out.keep hb4)
  have HG4 := Lib.hid (HG3.out.keep hb4)
  have HS34 := Lib.hid hb4.size
  have HR4 := Lib.hid hrow
  have HDO := Lib.hid hdo
  have HD4 := Lib.hid hdep
  have HL4 := Lib.hid (dep_len hdep (few_code c))
  obtain ⟨da, dc, rfl, _⟩ := hrow.val
  obtain ⟨ND, hND⟩ : ∃ x, Hid (L.length = x) := ⟨_, Lib.hid rfl⟩
  rw [hND.out] at HR4 HL4 HDO ⊢
  clear hb4 hrow hdo hdep k0 k1 k2 k3 HPC HK3 HI3
  cases MB
  · skip
    go_wp2_with (go_at_call 19; refine (Go.Proofs.Ytkhdkepjhifffaa.VW.lives_c _).mono ?_; rintro e w9 ⟨rfl, hb9⟩; have HX9 := Lib.hid (bnext HX4.out hb9); clear hb9)
    go_ret
    exact ⟨rfl, HX9.out⟩
  · rcases (show ND = 0 ∨ ND ≠ 0 by omega) with z0 | z0
    · have t1 : ((ND : Int) == 0) = true := by rw [beq_iff_eq]; omega
      clear z0
      go_wp2_with (go_at_call 19; refine (Go.Proofs.Ytkhdkepjhifffaa.VW.lives_c _).mono ?_; rintro e w9 ⟨rfl, hb9⟩; have HX9 := Lib.hid (bnext HX4.out hb9); clear hb9)
      go_ret
      exact ⟨rfl, HX9.out⟩
    · have t1 : ((ND : Int) == 0) = false := by rw [beq_eq_false_iff_ne]; omega
      have t2 : ¬ (ND : Int) = 0 := by omega
      rcases HD4.out with ⟨_, e⟩ | ⟨m, f, rfl, hm, hf, ⟨A, hA, eL⟩ | ⟨_, e⟩⟩
      · exact absurd (by rw [← hND.out, e]; rfl) z0
      · have HM := Lib.hid hm
        have HF := Lib.hid hf
        have HA := Lib.hid hA
        have HLA := Lib.hid eL
        obtain ⟨k, hkx, hk⟩ : ∃ k : Nat, (-(at_ + 1)).tmod (ND : Int) = (k : Int) ∧ k < ND := ⟨((-(at_ + 1)).tmod (ND : Int)).toNat, by rw [Int.tmod_eq_emod_of_nonneg (by omega)]; have h1 := Int.emod_nonneg (-(at_ + 1)) t2; have h2 := Int.emod_lt_of_pos (-(at_ + 1)) (show (0 : Int) < (ND : Int) by omega); omega⟩
        obtain ⟨d, hd⟩ := getElem?_of_lt (l := L) (k := k) (by rw [hND.out]; exact hk)
        obtain ⟨bb, off, cap, hve, _, hblt, hcells⟩ := HR4.out.open_ (by intro e; rw [e] at hd; simp at hd)
        rw [hND.out] at hve
        cases hve
        obtain ⟨q, hL, _⟩ := hcells k d hd
        have x0 : w4.cell? ⟨bb, off + k, none⟩ = some (.int .i64 d) := by have := hL 0 _ rfl; simpa [TI, Ty.flat] using this
        have i1 : (0 : Int) ≤ (k : Int) := by omega
        have i2 : (k : Int) < (ND : Int) := by omega
        have HKD := Lib.hid hd
        clear hm hf hA eL z0 hcells hL hd hblt
        rcases (show d ≥ 0 ∨ ¬ d ≥ 0 by omega) with hdz | hdz
        · skip
          go_wp2_with (go_at_call 19; refine (Go.Proofs.Ytkhdkepjhifffaa.VW.lives_c _).mono ?_; rintro e w9 ⟨rfl, hb9⟩; have HX9 := Lib.hid (bnext HX4.out hb9); clear hb9)
          go_ret
          exact ⟨rfl, HX9.out⟩
        · have HDZ := Lib.hid (show d < 0 by omega)
          have HP := pcode_n (cutCd c) _ _ _ w4 _ HG4.out.o.has HS.out
          rw [hlt0] at HP
          obtain ⟨r, hr⟩ : ∃ r, codeN (cutCd c) = r := ⟨_, rfl⟩
          rw [hr] at HP
          have HRN := Lib.hid hr
          have HPC := Lib.hid HP
          clear HP hr
          have k0 := HK4.out.cell 0 _ rfl
          have k1 := HK4.out.cell 1 _ rfl
          have k2 := HK4.out.cell 2 _ rfl
          have k3 := HK4.out.cell 3 _ rfl
          go_wp2_with fail
          refine HPC.out.mono ?_
          rintro e w5 ⟨rfl, hb5⟩
          try rw [hkx]
          have HX5 := Lib.hid (bnext HX4.out hb5)
          have HK5 := Lib.hid (HK4.out.keep hb5)
          have HI5 := Lib.hid (HI4.out.keep hb5)
          have HG5 := Lib.hid (HG4.out.keep hb5)
          have HR5 := Lib.hid (HR4.out.keep hb5)
          obtain ⟨g, hg⟩ := HG3.out.at HF.out
          have hNA : f.code.length = ND := by
            rw [← hND.out, HLA.out, List.length_map]
            cases HA.out with
            | yes h1 _ _ => exact h1.symm
          have hc0 : f.code ≠ [] := by intro e; rw [e] at hNA; simp at hNA; omega
          obtain ⟨old, hold⟩ := getElem?_of_lt (l := f.code) (k := k) (by rw [hNA]; exact hk)
          obtain ⟨fb, fo2, ccap, fcap, hfv, hcc, hgB, _, hcw, hfg⟩ := HG5.out.cells hg hc0
          obtain ⟨_, _, _, _, _, _, _, hglt, _, _⟩ := HG3.out.cells hg hc0
          injection hfv with e1 e2 e3
          subst e1
          subst e2
          obtain ⟨NG, hNG⟩ : ∃ x, Hid (GS.length = x) := ⟨_, Lib.hid rfl⟩
          have hmN : m < NG := by rw [← hNG.out]; exact (List.getElem?_eq_some_iff.1 hg).1
          rw [hNG.out] at HK5 HG5 ⊢
          rw [hNA] at hcc hcw
          have HXG := Lib.hid (show X ≠ g ∧ X + 1 ≠ g ∧ w.heap.size ≤ g from by have := hB.out; have := HWB.out; omega)
          have i3 : (0 : Int) ≤ (m : Int) := by omega
          have i4 : (m : Int) < (NG : Int) := by omega
          obtain ⟨u0, hu0, hz0⟩ := hcw (k * 3) (by omega)
          obtain ⟨u1, hu1, hz1⟩ := hcw (k * 3 + 1) (by omega)
          obtain ⟨u2, hu2, hz2⟩ := hcw (k * 3 + 2) (by omega)
          have HG6 := Lib.hid (HG5.out.ins (i := i) hg hold)
          have HK6 := Lib.hid (show Bk (put3 w5 g (k * 3) i) X _ _ from ((HK5.out.other HXG.out.1 (k * 3) (.int .i64 i.op)).other HXG.out.1 (k * 3 + 1) (.int .i64 i.a)).other HXG.out.1 (k * 3 + 2) (.int .i64 i.b))
          have HX6 := Lib.hid (show Below w.heap.size w (put3 w5 g (k * 3) i) from ((HX5.out.setCell (p := ⟨g, k * 3, none⟩) HXG.out.2.2 (.int .i64 i.op)).setCell (p := ⟨g, k * 3 + 1, none⟩) HXG.out.2.2 (.int .i64 i.a)).setCell (p := ⟨g, k * 3 + 2, none⟩) HXG.out.2.2 (.int .i64 i.b))
          have hbg : bb ≠ g := by have := HDO.out bb rfl; omega
          have HR6 := Lib.hid (show RowR TI (put3 w5 g (k * 3) i) (fun _ => False) _ L from row_wr (row_wr (row_wr HR5.out (x := g) (fun b e => by cases e; exact hbg) (k * 3) (.int .i64 i.op)) (x := g) (fun b e => by cases e; exact hbg) (k * 3 + 1) (.int .i64 i.a)) (x := g) (fun b e => by cases e; exact hbg) (k * 3 + 2) (.int .i64 i.b))
          have HBH := Lib.hid (behind (k := k) (i := i) (d := d) HM.out HF.out HA.out (by rw [← HLA.out]; exact HKD.out) HDZ.out hMB.out)
          have l5 := HK5.out.lt
          have lI5 := HI5.out.lt
          clear hb5 k0 k1 k2 k3 HPC hold hcw e3 hg hc0 hglt hNA hgB x0 hbg hmN
          have k0 := HK5.out.cell 0 _ rfl
          have k1 := HK5.out.cell 1 _ rfl
          have k2 := HK5.out.cell 2 _ rfl
          have k3 := HK5.out.cell 3 _ rfl
          have j0 := HI5.out.cell 0 _ rfl
          have j1 := HI5.out.cell 1 _ rfl
          have j2 := HI5.out.cell 2 _ rfl
          have HC1 := Lib.hid (show w5.drew.cell? ⟨X, 0, none⟩ = some (.slice (some ⟨fb, fo2, none⟩) NG fc2) ∧ w5.drew.cell? ⟨fb, fo2 + m * 4 + 3, none⟩ = some (.slice (some ⟨g, 0, none⟩) ND ccap) ∧ w5.drew.cell? ⟨X + 1, 0, none⟩ = some (.int .i64 i.op) ∧ w5.drew.cell? ⟨X + 1, 1, none⟩ = some (.int .i64 i.a) ∧ w5.drew.cell? ⟨X + 1, 2, none⟩ = some (.int .i64 i.b) from ⟨k0, hcc, j0, j1, j2⟩)
          have HC2 := Lib.hid (show ((((w5.setCell ⟨g, k * 3, none⟩ (.int .i64 i.op)).setCell ⟨g, k * 3 + 1, none⟩ (.int .i64 i.a)).setCell ⟨g, k * 3 + 2, none⟩ (.int .i64 i.b)).drew).cell? ⟨X, 0, none⟩ = some (.slice (some ⟨fb, fo2, none⟩) NG fc2) ∧ ((((w5.setCell ⟨g, k * 3, none⟩ (.int .i64 i.op)).setCell ⟨g, k * 3 + 1, none⟩ (.int .i64 i.a)).setCell ⟨g, k * 3 + 2, none⟩ (.int .i64 i.b)).drew).cell? ⟨fb, fo2 + m * 4 + 3, none⟩ = some (.slice (some ⟨g, 0, none⟩) ND ccap) ∧ ((((w5.setCell ⟨g, k * 3, none⟩ (.int .i64 i.op)).setCell ⟨g, k * 3 + 1, none⟩ (.int .i64 i.a)).setCell ⟨g, k * 3 + 2, none⟩ (.int .i64 i.b)).drew).cell? ⟨X + 1, 0, none⟩ = some (.int .i64 i.op) ∧ ((((w5.setCell ⟨g, k * 3, none⟩ (.int .i64 i.op)).setCell ⟨g, k * 3 + 1, none⟩ (.int .i64 i.a)).setCell ⟨g, k * 3 + 2, none⟩ (.int .i64 i.b)).drew).cell? ⟨X + 1, 1, none⟩ = some (.int .i64 i.a) ∧ ((((w5.setCell ⟨g, k * 3, none⟩ (.int .i64 i.op)).setCell ⟨g, k * 3 + 1, none⟩ (.int .i64 i.a)).setCell ⟨g, k * 3 + 2, none⟩ (.int .i64 i.b)).drew).cell? ⟨X + 1, 2, none⟩ = some (.int .i64 i.b) from by
            have hi6 : Bk (put3 w5 g (k * 3) i) (X + 1) _ _ := ((HI5.out.other HXG.out.2.1 (k * 3) (.int .i64 i.op)).other HXG.out.2.1 (k * 3 + 1) (.int .i64 i.a)).other HXG.out.2.1 (k * 3 + 2) (.int .i64 i.b)
            have hf6 : (put3 w5 g (k * 3) i).cell? ⟨fb, fo2 + m * 4 + 3, none⟩ = some (.slice (some ⟨g, 0, none⟩) ND ccap) := by
              rw [World.cell?_of_block ((bo3 w5 g (k * 3) i).block fb (World.block_lt_of_cell? _ _ hcc) hfg)]
              exact hcc
            exact ⟨HK6.out.cell 0 _ rfl, hf6, hi6.cell 0 _ rfl, hi6.cell 1 _ rfl, hi6.cell 2 _ rfl⟩)
          clear hfg
          go_wp2_with fail
          go_region_held3 (fun w' => w'.cell? ⟨X, 0, none⟩ = some (.slice (some ⟨fb, fo2, none⟩) NG fc2) ∧ w'.cell? ⟨fb, fo2 + m * 4 + 3, none⟩ = some (.slice (some ⟨g, 0, none⟩) ND ccap) ∧ w'.cell? ⟨X + 1, 0, none⟩ = some (.int .i64 i.op) ∧ w'.cell? ⟨X + 1, 1, none⟩ = some (.int .i64 i.a) ∧ w'.cell? ⟨X + 1, 2, none⟩ = some (.int .i64 i.b)) (first | with_reducible exact HC1.out | with_reducible exact HC2.out | go_keep) (fail)
          obtain ⟨W7, hW7⟩ : ∃ W, W = ((((w5.setCell ⟨g, k * 3, none⟩ (.int .i64 i.op)).setCell ⟨g, k * 3 + 1, none⟩ (.int .i64 i.a)).setCell ⟨g, k * 3 + 2, none⟩ (.int .i64 i.b)).drew) := ⟨_, rfl⟩
          have HG7 := Lib.hid (show HasG W7 B _ _ _ _ _ from by rw [hW7]; exact HG6.out.keep (bdr _))
          have HK7 := Lib.hid (show Bk W7 X _ _ from by rw [hW7]; exact HK6.out)
          have HX7 := Lib.hid (show Below w.heap.size w W7 from by rw [hW7]; exact bnext HX6.out (bdr _))
          have HR7 := Lib.hid (show RowR TI W7 (fun _ => False) _ L from by rw [hW7]; exact HR6.out.keep (bdr _))
          rw [← hW7]
          clear hW7 HG6 HK6 HX6 HR6 HC1 HC2 k0 k1 k2 k3 j0 j1 j2 hcc hu0 hu1 hu2 hz0 hz1 hz2 l5 lI5 HK5 HI5 HG5 HR5
          have hlt7 : (withF (cutCd c) m (withI f k i)).lets = LT := hlt0
          have HS7 := Lib.hid (few_with (f' := withI f k i) (few c) HF.out (by unfold withI; simp))
          have HP7 := pdepths_n (withF (cutCd c) m (withI f k i)) _ _ _ (m : Int) W7 _ HG7.out.o.has HS7.out
          rw [hlt7] at HP7
          have HPC := Lib.hid HP7
          clear HP7
          have k0 := HK7.out.cell 0 _ rfl
          have k1 := HK7.out.cell 1 _ rfl
          have k2 := HK7.out.cell 2 _ rfl
          have k3 := HK7.out.cell 3 _ rfl
          go_wp2_with fail
          refine HPC.out.mono ?_
          rintro e w8 ⟨hb8, v8, L8, rfl, hrow8, _, hdep8⟩
          have hLL : L8 = L := by rw [HLA.out]; exact hdep8.one HBH.out.1
          subst hLL
          have HX8 := Lib.hid (bnext HX7.out hb8)
          have HK8 := Lib.hid (HK7.out.keep hb8)
          have HG8 := Lib.hid (HG7.out.keep hb8)
          have HR8 := Lib.hid (HR7.out.keep hb8)
          have HR9 := Lib.hid hrow8
          have HLL := Lib.hid (show L8.length ≤ 1000 from by rw [hND.out]; exact HL4.out)
          clear hb8 hrow8 hdep8 k0 k1 k2 k3 HPC HX7 HK7 HG7 HR7
          go_wp2_with fail
          refine (Go.Proofs.Ytkhdkepjhifffaa.VW.same_yes _ _ L8 _ _ _ HR9.out HR8.out HLL.out).mono ?_
          rintro e w9 ⟨rfl, hb9⟩
          have HX9 := Lib.hid (bnext HX8.out hb9)
          have HK9 := Lib.hid (HK8.out.keep hb9)
          have HG9 := Lib.hid (HG8.out.keep hb9)
          have HP9 := pcode_n (withF (cutCd c) m (withI f k i)) _ _ _ w9 _ HG9.out.o.has HS7.out
          rw [hlt7, HBH.out.2, HRN.out] at HP9
          have HPC := Lib.hid HP9
          clear HP9 hb9 HX8 HK8 HG8 HR8 HR9
          have he : (r == r) = true := by simp
          have k0 := HK9.out.cell 0 _ rfl
          have k1 := HK9.out.cell 1 _ rfl
          have k2 := HK9.out.cell 2 _ rfl
          have k3 := HK9.out.cell 3 _ rfl
          go_wp2_with fail
          refine HPC.out.mono ?_
          rintro e wA ⟨rfl, hbA⟩
          have HXA := Lib.hid (bnext HX9.out hbA)
          clear hbA k0 k1 k2 k3 HX9 HK9 HG9 HPC
          go_wp2_with (go_at_call 19; refine (Go.Proofs.Ytkhdkepjhifffaa.VW.lives_c _).mono ?_; rintro e w9 ⟨rfl, hb9⟩; have HXZ := Lib.hid (bnext HXA.out hb9); clear hb9)
          go_ret
          exact ⟨rfl, HXZ.out⟩
      · exact absurd (by rw [← hND.out, e]; rfl) z0
set_option maxHeartbeats 32000000 in
theorem more (w : World) (c : Cd) (fv iv tv : Value) (h : HasC w (fun _ => True) c fv iv tv) (hl : c.funs.length ≤ maxLen ∧ c.ints.length ≤ maxLen ∧ c.texts.length ≤ maxLen ∧ ∀ f, f ∈ c.funs → f.code.length ≤ maxLen) (n : Int) (p0 : -9223372036854775808 ≤ n) (p1 : n ≤ 9223372036854775807) (at_ : Int) (q0 : -9223372036854775808 ≤ at_) (q1 : at_ ≤ 9223372036854775807) (i : In) (hat : ¬ at_ < 0) :
    Calls Try.prog 7 #[.agg #[fv, iv, tv, .int .i64 c.lets], .int .i64 n, .int .i64 at_, .agg #[.int .i64 i.op, .int .i64 i.a, .int .i64 i.b]] w fun e w' => e = .returned (.bool true) ∧ Below w.heap.size w w' := by
  obtain ⟨fo, fc, rfl, hfc⟩ := h.funs.val
  obtain ⟨io, ic, rfl, hic⟩ := h.ints.val
  obtain ⟨to_, tc, rfl, htc⟩ := h.texts.val
  obtain ⟨LT, hLT⟩ : ∃ x, Hid (c.lets = x) := ⟨_, Lib.hid rfl⟩
  obtain ⟨X, hX⟩ : ∃ X, Hid (w.heap.size = X) := ⟨_, Lib.hid rfl⟩
  have HCUT := Lib.hid (fun w' (hb : Below w.heap.size w w') => Go.Proofs.Ytkhdkepjhifffaa.WB.cutg_c c _ _ _ w' _ (h.keep hb) hl)
  have hs := few c
  obtain ⟨n1, hn1⟩ : ∃ x, Hid (c.funs.length = x) := ⟨_, Lib.hid rfl⟩
  obtain ⟨n2, hn2⟩ : ∃ x, Hid (c.ints.length = x) := ⟨_, Lib.hid rfl⟩
  obtain ⟨n3, hn3⟩ : ∃ x, Hid (c.texts.length = x) := ⟨_, Lib.hid rfl⟩
  rw [hn1.out, hn2.out, hn3.out] at HCUT ⊢
  unfold Go.Proofs.Ytkhdkepjhifffaa.WB.CutG at HCUT
  rw [hLT.out] at HCUT ⊢
  have HK := Lib.hid ((new_at w #[.slice fo n1 fc, .slice io n2 ic, .slice to_ n3 tc, .int .i64 LT] 27 hX.out).alloc (.cells #[.int .i64 i.op, .int .i64 i.a, .int .i64 i.b] 45))
  have HI := Lib.hid (new_at (w.alloc (.cells #[.slice fo n1 fc, .slice io n2 ic, .slice to_ n3 tc, .int .i64 LT] 27)) #[.int .i64 i.op, .int .i64 i.a, .int .i64 i.b] 45 (show _ = X + 1 by simp [hX.out]))
  have HX := Lib.hid (bnext (balloc w (.cells #[.slice fo n1 fc, .slice io n2 ic, .slice to_ n3 tc, .int .i64 LT] 27)) (balloc _ (.cells #[.int .i64 i.op, .int .i64 i.a, .int .i64 i.b] 45)))
  clear h hl hfc hic htc hn1 hn2 hn3
  go_enter Try.func7, Try.ntmps7
  go_wp2_with fail
  refine (HCUT.out _ HX.out).mono ?_
  rintro e w2 ⟨f2, i2, t2, GS, rfl, hg2, hb2⟩
  have ho2 := hg2.o
  clear HCUT
  obtain ⟨fa, fc2, ef, _⟩ := ho2.funs.val
  obtain ⟨ia, ic2, ei, _⟩ := ho2.ints.val
  obtain ⟨ta, tc2, et, _⟩ := ho2.texts.val
  obtain ⟨NF, hNF⟩ : ∃ x, (cutCd c).funs.length = x := ⟨_, rfl⟩
  obtain ⟨NI, hNI⟩ : ∃ x, (cutCd c).ints.length = x := ⟨_, rfl⟩
  obtain ⟨NT, hNT⟩ : ∃ x, (cutCd c).texts.length = x := ⟨_, rfl⟩
  rw [hNF] at ef
  rw [hNI] at ei
  rw [hNT] at et
  subst ef ei et
  have HN := Lib.hid (And.intro hNF (And.intro hNI hNT))
  clear hNF hNI hNT
  have hk2 := HK.out.keep hb2
  have hX1 : X < ((w.alloc (.cells #[.slice fo n1 fc, .slice io n2 ic, .slice to_ n3 tc, .int .i64 LT] 27)).alloc (.cells #[.int .i64 i.op, .int .i64 i.a, .int .i64 i.b] 45)).heap.size := by simp [hX.out]; omega
  have HIA := Lib.hid (((((HI.out.keep hb2).other (show X + 1 ≠ X by omega) 0 (.slice fa NF fc2)).other (show X + 1 ≠ X by omega) 1 (.slice ia NI ic2)).other (show X + 1 ≠ X by omega) 2 (.slice ta NT tc2)).other (show X + 1 ≠ X by omega) 3 (.int .i64 LT))
  have HKA := Lib.hid (put4 (a' := .slice fa NF fc2) (b' := .slice ia NI ic2) (c' := .slice ta NT tc2) (d' := .int .i64 LT) hk2)
  have HGA := Lib.hid ((((hg2.other hX1 0 (.slice fa NF fc2)).other hX1 1 (.slice ia NI ic2)).other hX1 2 (.slice ta NT tc2)).other hX1 3 (.int .i64 LT))
  have hxx := bnext HX.out hb2
  have HXA := Lib.hid (show Below w.heap.size w ((((w2.setCell ⟨X, 0, none⟩ (.slice fa NF fc2)).setCell ⟨X, 1, none⟩ (.slice ia NI ic2)).setCell ⟨X, 2, none⟩ (.slice ta NT tc2)).setCell ⟨X, 3, none⟩ (.int .i64 LT)) from (((hxx.setCell (p := ⟨X, 0, none⟩) (by have := hX.out; show w.heap.size ≤ X; omega) _).setCell (p := ⟨X, 1, none⟩) (by have := hX.out; show w.heap.size ≤ X; omega) _).setCell (p := ⟨X, 2, none⟩) (by have := hX.out; show w.heap.size ≤ X; omega) _).setCell (p := ⟨X, 3, none⟩) (by have := hX.out; show w.heap.size ≤ X; omega) _)
  have c0 := hk2.cell 0 _ rfl
  have c1 := hk2.cell 1 _ rfl
  have c2 := hk2.cell 2 _ rfl
  have c3 := hk2.cell 3 _ rfl
  have f0 := hk2.free 0
  have f1 := hk2.free 1
  have f2' := hk2.free 2
  have f3 := hk2.free 3
  have lX := hk2.lt
  have j0 := HIA.out.cell 0 _ rfl
  have j1 := HIA.out.cell 1 _ rfl
  have j2 := HIA.out.cell 2 _ rfl
  clear hk2 hX1 hxx ho2 hg2 hb2
  rw [hX.out]
  go_wp2_with fail
  have HS := Lib.hid hs
  clear hs c0 c1 c2 c3 f0 f1 f2' f3 lX j0 j1 j2
  generalize hWA : World.setCell _ _ _ = WA at HKA HIA HGA HXA ⊢
  clear hWA
  have hlt0 : (cutCd c).lets = LT := hLT.out
  refine (instr_c i WA).mono ?_
  rintro e w3 ⟨rfl, hb3⟩
  obtain ⟨MB, hMB⟩ : ∃ x, Hid (insOk i = x) := ⟨_, Lib.hid rfl⟩
  rw [hMB.out]
  have HX3 := Lib.hid (bnext HXA.out hb3)
  have HK3 := Lib.hid (HKA.out.keep hb3)
  have hg3 := HGA.out.keep hb3
  obtain ⟨B, hB⟩ : ∃ B, Hid (X + 1 + 1 = B) := ⟨_, Lib.hid rfl⟩
  rw [World.size_alloc, World.size_alloc, hX.out, hB.out] at hg3
  have HG3 := Lib.hid hg3
  have HXB := Lib.hid (show X < B from by have := hB.out; omega)
  have HWB := Lib.hid (show w.heap.size ≤ X ∧ w.heap.size ≤ B from by have := hX.out; have := hB.out; omega)
  have HI3 := Lib.hid (HIA.out.keep hb3)
  have HP := pdepths_n (cutCd c) _ _ _ n w3 _ HG3.out.o.has HS.out
  rw [hlt0] at HP
  have HPC := Lib.hid HP
  clear HP hb3 hg3 HKA HIA HXA HGA
  have k0 := HK3.out.cell 0 _ rfl
  have k1 := HK3.out.cell 1 _ rfl
  have k2 := HK3.out.cell 2 _ rfl
  have k3 := HK3.out.cell 3 _ rfl
  go_wp2_with fail
  refine HPC.out.mono ?_
  rintro e w4 ⟨hb4, v, L, rfl, hrow, hdo, hdep⟩
  have HX4 := Lib.hid (bnext HX3.out hb4)
  have HK4 := Lib.hid (HK3.out.keep hb4)
  have HI4 := Lib.hid (HI3.out.keep hb4)
  have HG4 := Lib.hid (HG3.out.keep hb4)
  have HS34 := Lib.hid hb4.size
  have HR4 := Lib.hid hrow
  have HDO := Lib.hid hdo
  have HD4 := Lib.hid hdep
  have HL4 := Lib.hid (dep_len hdep (few_code c))
  obtain ⟨da, dc, rfl, _⟩ := hrow.val
  obtain ⟨ND, hND⟩ : ∃ x, Hid (L.length = x) := ⟨_, Lib.hid rfl⟩
  rw [hND.out] at HR4 HL4 HDO ⊢
  clear hb4 hrow hdo hdep k0 k1 k2 k3 HPC HK3 HI3
  cases MB
  · skip
    go_wp2_with (go_at_call 19; refine (Go.Proofs.Ytkhdkepjhifffaa.VW.lives_c _).mono ?_; rintro e w9 ⟨rfl, hb9⟩; have HX9 := Lib.hid (bnext HX4.out hb9); clear hb9)
    go_ret
    exact ⟨rfl, HX9.out⟩
  · rcases (show ND = 0 ∨ ND ≠ 0 by omega) with z0 | z0
    · have t1 : ((ND : Int) == 0) = true := by rw [beq_iff_eq]; omega
      clear z0
      go_wp2_with (go_at_call 19; refine (Go.Proofs.Ytkhdkepjhifffaa.VW.lives_c _).mono ?_; rintro e w9 ⟨rfl, hb9⟩; have HX9 := Lib.hid (bnext HX4.out hb9); clear hb9)
      go_ret
      exact ⟨rfl, HX9.out⟩
    · have t1 : ((ND : Int) == 0) = false := by rw [beq_eq_false_iff_ne]; omega
      have t2 : ¬ (ND : Int) = 0 := by omega
      rcases HD4.out with ⟨_, e⟩ | ⟨m, f, rfl, hm, hf, ⟨A, hA, eL⟩ | ⟨_, e⟩⟩
      · exact absurd (by rw [← hND.out, e]; rfl) z0
      · have HM := Lib.hid hm
        have HF := Lib.hid hf
        have HA := Lib.hid hA
        have HLA := Lib.hid eL
        obtain ⟨k, hkx, hk⟩ : ∃ k : Nat, at_ % (ND : Int) = (k : Int) ∧ k < ND := ⟨(at_ % (ND : Int)).toNat, by have h1 := Int.emod_nonneg at_ t2; have h2 := Int.emod_lt_of_pos at_ (show (0 : Int) < (ND : Int) by omega); omega⟩
        obtain ⟨d, hd⟩ := getElem?_of_lt (l := L) (k := k) (by rw [hND.out]; exact hk)
        obtain ⟨bb, off, cap, hve, _, hblt, hcells⟩ := HR4.out.open_ (by intro e; rw [e] at hd; simp at hd)
        rw [hND.out] at hve
        cases hve
        obtain ⟨q, hL, _⟩ := hcells k d hd
        have x0 : w4.cell? ⟨bb, off + k, none⟩ = some (.int .i64 d) := by have := hL 0 _ rfl; simpa [TI, Ty.flat] using this
        have i1 : (0 : Int) ≤ (k : Int) := by omega
        have i2 : (k : Int) < (ND : Int) := by omega
        have HKD := Lib.hid hd
        clear hm hf hA eL z0 hcells hL hd hblt
        rcases (show d ≥ 0 ∨ ¬ d ≥ 0 by omega) with hdz | hdz
        · skip
          go_wp2_with (go_at_call 19; refine (Go.Proofs.Ytkhdkepjhifffaa.VW.lives_c _).mono ?_; rintro e w9 ⟨rfl, hb9⟩; have HX9 := Lib.hid (bnext HX4.out hb9); clear hb9)
          go_ret
          exact ⟨rfl, HX9.out⟩
        · have HDZ := Lib.hid (show d < 0 by omega)
          have HP := pcode_n (cutCd c) _ _ _ w4 _ HG4.out.o.has HS.out
          rw [hlt0] at HP
          obtain ⟨r, hr⟩ : ∃ r, codeN (cutCd c) = r := ⟨_, rfl⟩
          rw [hr] at HP
          have HRN := Lib.hid hr
          have HPC := Lib.hid HP
          clear HP hr
          have k0 := HK4.out.cell 0 _ rfl
          have k1 := HK4.out.cell 1 _ rfl
          have k2 := HK4.out.cell 2 _ rfl
          have k3 := HK4.out.cell 3 _ rfl
          go_wp2_with fail
          refine HPC.out.mono ?_
          rintro e w5 ⟨rfl, hb5⟩
          try rw [hkx]
          have HX5 := Lib.hid (bnext HX4.out hb5)
          have HK5 := Lib.hid (HK4.out.keep hb5)
          have HI5 := Lib.hid (HI4.out.keep hb5)
          have HG5 := Lib.hid (HG4.out.keep hb5)
          have HR5 := Lib.hid (HR4.out.keep hb5)
          obtain ⟨g, hg⟩ := HG3.out.at HF.out
          have hNA : f.code.length = ND := by
            rw [← hND.out, HLA.out, List.length_map]
            cases HA.out with
            | yes h1 _ _ => exact h1.symm
          have hc0 : f.code ≠ [] := by intro e; rw [e] at hNA; simp at hNA; omega
          obtain ⟨old, hold⟩ := getElem?_of_lt (l := f.code) (k := k) (by rw [hNA]; exact hk)
          obtain ⟨fb, fo2, ccap, fcap, hfv, hcc, hgB, _, hcw, hfg⟩ := HG5.out.cells hg hc0
          obtain ⟨_, _, _, _, _, _, _, hglt, _, _⟩ := HG3.out.cells hg hc0
          injection hfv with e1 e2 e3
          subst e1
          subst e2
          obtain ⟨NG, hNG⟩ : ∃ x, Hid (GS.length = x) := ⟨_, Lib.hid rfl⟩
          have hmN : m < NG := by rw [← hNG.out]; exact (List.getElem?_eq_some_iff.1 hg).1
          rw [hNG.out] at HK5 HG5 ⊢
          rw [hNA] at hcc hcw
          have HXG := Lib.hid (show X ≠ g ∧ X + 1 ≠ g ∧ w.heap.size ≤ g from by have := hB.out; have := HWB.out; omega)
          have i3 : (0 : Int) ≤ (m : Int) := by omega
          have i4 : (m : Int) < (NG : Int) := by omega
          obtain ⟨u0, hu0, hz0⟩ := hcw (k * 3) (by omega)
          obtain ⟨u1, hu1, hz1⟩ := hcw (k * 3 + 1) (by omega)
          obtain ⟨u2, hu2, hz2⟩ := hcw (k * 3 + 2) (by omega)
          have HG6 := Lib.hid (HG5.out.ins (i := i) hg hold)
          have HK6 := Lib.hid (show Bk (put3 w5 g (k * 3) i) X _ _ from ((HK5.out.other HXG.out.1 (k * 3) (.int .i64 i.op)).other HXG.out.1 (k * 3 + 1) (.int .i64 i.a)).other HXG.out.1 (k * 3 + 2) (.int .i64 i.b))
          have HX6 := Lib.hid (show Below w.heap.size w (put3 w5 g (k * 3) i) from ((HX5.out.setCell (p := ⟨g, k * 3, none⟩) HXG.out.2.2 (.int .i64 i.op)).setCell (p := ⟨g, k * 3 + 1, none⟩) HXG.out.2.2 (.int .i64 i.a)).setCell (p := ⟨g, k * 3 + 2, none⟩) HXG.out.2.2 (.int .i64 i.b))
          have hbg : bb ≠ g := by have := HDO.out bb rfl; omega
          have HR6 := Lib.hid (show RowR TI (put3 w5 g (k * 3) i) (fun _ => False) _ L from row_wr (row_wr (row_wr HR5.out (x := g) (fun b e => by cases e; exact hbg) (k * 3) (.int .i64 i.op)) (x := g) (fun b e => by cases e; exact hbg) (k * 3 + 1) (.int .i64 i.a)) (x := g) (fun b e => by cases e; exact hbg) (k * 3 + 2) (.int .i64 i.b))
          have HBH := Lib.hid (behind (k := k) (i := i) (d := d) HM.out HF.out HA.out (by rw [← HLA.out]; exact HKD.out) HDZ.out hMB.out)
          have l5 := HK5.out.lt
          have lI5 := HI5.out.lt
          clear hb5 k0 k1 k2 k3 HPC hold hcw e3 hg hc0 hglt hNA hgB x0 hbg hmN
          have k0 := HK5.out.cell 0 _ rfl
          have k1 := HK5.out.cell 1 _ rfl
          have k2 := HK5.out.cell 2 _ rfl
          have k3 := HK5.out.cell 3 _ rfl
          have j0 := HI5.out.cell 0 _ rfl
          have j1 := HI5.out.cell 1 _ rfl
          have j2 := HI5.out.cell 2 _ rfl
          have HC1 := Lib.hid (show w5.drew.cell? ⟨X, 0, none⟩ = some (.slice (some ⟨fb, fo2, none⟩) NG fc2) ∧ w5.drew.cell? ⟨fb, fo2 + m * 4 + 3, none⟩ = some (.slice (some ⟨g, 0, none⟩) ND ccap) ∧ w5.drew.cell? ⟨X + 1, 0, none⟩ = some (.int .i64 i.op) ∧ w5.drew.cell? ⟨X + 1, 1, none⟩ = some (.int .i64 i.a) ∧ w5.drew.cell? ⟨X + 1, 2, none⟩ = some (.int .i64 i.b) from ⟨k0, hcc, j0, j1, j2⟩)
          have HC2 := Lib.hid (show ((((w5.setCell ⟨g, k * 3, none⟩ (.int .i64 i.op)).setCell ⟨g, k * 3 + 1, none⟩ (.int .i64 i.a)).setCell ⟨g, k * 3 + 2, none⟩ (.int .i64 i.b)).drew).cell? ⟨X, 0, none⟩ = some (.slice (some ⟨fb, fo2, none⟩) NG fc2) ∧ ((((w5.setCell ⟨g, k * 3, none⟩ (.int .i64 i.op)).setCell ⟨g, k * 3 + 1, none⟩ (.int .i64 i.a)).setCell ⟨g, k * 3 + 2, none⟩ (.int .i64 i.b)).drew).cell? ⟨fb, fo2 + m * 4 + 3, none⟩ = some (.slice (some ⟨g, 0, none⟩) ND ccap) ∧ ((((w5.setCell ⟨g, k * 3, none⟩ (.int .i64 i.op)).setCell ⟨g, k * 3 + 1, none⟩ (.int .i64 i.a)).setCell ⟨g, k * 3 + 2, none⟩ (.int .i64 i.b)).drew).cell? ⟨X + 1, 0, none⟩ = some (.int .i64 i.op) ∧ ((((w5.setCell ⟨g, k * 3, none⟩ (.int .i64 i.op)).setCell ⟨g, k * 3 + 1, none⟩ (.int .i64 i.a)).setCell ⟨g, k * 3 + 2, none⟩ (.int .i64 i.b)).drew).cell? ⟨X + 1, 1, none⟩ = some (.int .i64 i.a) ∧ ((((w5.setCell ⟨g, k * 3, none⟩ (.int .i64 i.op)).setCell ⟨g, k * 3 + 1, none⟩ (.int .i64 i.a)).setCell ⟨g, k * 3 + 2, none⟩ (.int .i64 i.b)).drew).cell? ⟨X + 1, 2, none⟩ = some (.int .i64 i.b) from by
            have hi6 : Bk (put3 w5 g (k * 3) i) (X + 1) _ _ := ((HI5.out.other HXG.out.2.1 (k * 3) (.int .i64 i.op)).other HXG.out.2.1 (k * 3 + 1) (.int .i64 i.a)).other HXG.out.2.1 (k * 3 + 2) (.int .i64 i.b)
            have hf6 : (put3 w5 g (k * 3) i).cell? ⟨fb, fo2 + m * 4 + 3, none⟩ = some (.slice (some ⟨g, 0, none⟩) ND ccap) := by
              rw [World.cell?_of_block ((bo3 w5 g (k * 3) i).block fb (World.block_lt_of_cell? _ _ hcc) hfg)]
              exact hcc
            exact ⟨HK6.out.cell 0 _ rfl, hf6, hi6.cell 0 _ rfl, hi6.cell 1 _ rfl, hi6.cell 2 _ rfl⟩)
          clear hfg
          go_wp2_with fail
          go_region_held3 (fun w' => w'.cell? ⟨X, 0, none⟩ = some (.slice (some ⟨fb, fo2, none⟩) NG fc2) ∧ w'.cell? ⟨fb, fo2 + m * 4 + 3, none⟩ = some (.slice (some ⟨g, 0, none⟩) ND ccap) ∧ w'.cell? ⟨X + 1, 0, none⟩ = some (.int .i64 i.op) ∧ w'.cell? ⟨X + 1, 1, none⟩ = some (.int .i64 i.a) ∧ w'.cell? ⟨X + 1, 2, none⟩ = some (.int .i64 i.b)) (first | with_reducible exact HC1.out | with_reducible exact HC2.out | go_keep) (fail)
          obtain ⟨W7, hW7⟩ : ∃ W, W = ((((w5.setCell ⟨g, k * 3, none⟩ (.int .i64 i.op)).setCell ⟨g, k * 3 + 1, none⟩ (.int .i64 i.a)).setCell ⟨g, k * 3 + 2, none⟩ (.int .i64 i.b)).drew) := ⟨_, rfl⟩
          have HG7 := Lib.hid (show HasG W7 B _ _ _ _ _ from by rw [hW7]; exact HG6.out.keep (bdr _))
          have HK7 := Lib.hid (show Bk W7 X _ _ from by rw [hW7]; exact HK6.out)
          have HX7 := Lib.hid (show Below w.heap.size w W7 from by rw [hW7]; exact bnext HX6.out (bdr _))
          have HR7 := Lib.hid (show RowR TI W7 (fun _ => False) _ L from by rw [hW7]; exact HR6.out.keep (bdr _))
          rw [← hW7]
          clear hW7 HG6 HK6 HX6 HR6 HC1 HC2 k0 k1 k2 k3 j0 j1 j2 hcc hu0 hu1 hu2 hz0 hz1 hz2 l5 lI5 HK5 HI5 HG5 HR5
          have hlt7 : (withF (cutCd c) m (withI f k i)).lets = LT := hlt0
          have HS7 := Lib.hid (few_with (f' := withI f k i) (few c) HF.out (by unfold withI; simp))
          have HP7 := pdepths_n (withF (cutCd c) m (withI f k i)) _ _ _ (m : Int) W7 _ HG7.out.o.has HS7.out
          rw [hlt7] at HP7
          have HPC := Lib.hid HP7
          clear HP7
          have k0 := HK7.out.cell 0 _ rfl
          have k1 := HK7.out.cell 1 _ rfl
          have k2 := HK7.out.cell 2 _ rfl
          have k3 := HK7.out.cell 3 _ rfl
          go_wp2_with fail
          refine HPC.out.mono ?_
          rintro e w8 ⟨hb8, v8, L8, rfl, hrow8, _, hdep8⟩
          have hLL : L8 = L := by rw [HLA.out]; exact hdep8.one HBH.out.1
          subst hLL
          have HX8 := Lib.hid (bnext HX7.out hb8)
          have HK8 := Lib.hid (HK7.out.keep hb8)
          have HG8 := Lib.hid (HG7.out.keep hb8)
          have HR8 := Lib.hid (HR7.out.keep hb8)
          have HR9 := Lib.hid hrow8
          have HLL := Lib.hid (show L8.length ≤ 1000 from by rw [hND.out]; exact HL4.out)
          clear hb8 hrow8 hdep8 k0 k1 k2 k3 HPC HX7 HK7 HG7 HR7
          go_wp2_with fail
          refine (Go.Proofs.Ytkhdkepjhifffaa.VW.same_yes _ _ L8 _ _ _ HR9.out HR8.out HLL.out).mono ?_
          rintro e w9 ⟨rfl, hb9⟩
          have HX9 := Lib.hid (bnext HX8.out hb9)
          have HK9 := Lib.hid (HK8.out.keep hb9)
          have HG9 := Lib.hid (HG8.out.keep hb9)
          have HP9 := pcode_n (withF (cutCd c) m (withI f k i)) _ _ _ w9 _ HG9.out.o.has HS7.out
          rw [hlt7, HBH.out.2, HRN.out] at HP9
          have HPC := Lib.hid HP9
          clear HP9 hb9 HX8 HK8 HG8 HR8 HR9
          have he : (r == r) = true := by simp
          have k0 := HK9.out.cell 0 _ rfl
          have k1 := HK9.out.cell 1 _ rfl
          have k2 := HK9.out.cell 2 _ rfl
          have k3 := HK9.out.cell 3 _ rfl
          go_wp2_with fail
          refine HPC.out.mono ?_
          rintro e wA ⟨rfl, hbA⟩
          have HXA := Lib.hid (bnext HX9.out hbA)
          clear hbA k0 k1 k2 k3 HX9 HK9 HG9 HPC
          go_wp2_with (go_at_call 19; refine (Go.Proofs.Ytkhdkepjhifffaa.VW.lives_c _).mono ?_; rintro e w9 ⟨rfl, hb9⟩; have HXZ := Lib.hid (bnext HXA.out hb9); clear hb9)
          go_ret
          exact ⟨rfl, HXZ.out⟩
      · exact absurd (by rw [← hND.out, e]; rfl) z0
theorem walk (w : World) (c : Cd) (fv iv tv : Value) (h : HasC w (fun _ => True) c fv iv tv) (hl : c.funs.length ≤ maxLen ∧ c.ints.length ≤ maxLen ∧ c.texts.length ≤ maxLen ∧ ∀ f, f ∈ c.funs → f.code.length ≤ maxLen) (n : Int) (p0 : -9223372036854775808 ≤ n) (p1 : n ≤ 9223372036854775807) (at_ : Int) (q0 : -9223372036854775808 ≤ at_) (q1 : at_ ≤ 9223372036854775807) (i : In) :
    Calls Try.prog 7 #[.agg #[fv, iv, tv, .int .i64 c.lets], .int .i64 n, .int .i64 at_, .agg #[.int .i64 i.op, .int .i64 i.a, .int .i64 i.b]] w fun e w' => e = .returned (.bool true) ∧ Below w.heap.size w w' := by
  by_cases hat : at_ < 0
  · exact less w c fv iv tv h hl n p0 p1 at_ q0 q1 i hat
  · exact more w c fv iv tv h hl n p0 p1 at_ q0 q1 i hat
end Go.Proofs.Ytkhdkepjhifffaa.verifyBehind
