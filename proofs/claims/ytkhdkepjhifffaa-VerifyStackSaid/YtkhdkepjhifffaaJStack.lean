/- VerifyStack: the walk. -/
import Derived.Test.YtkhdkepjhifffaaVX
import Derived.Test.YtkhdkepjhifffaaVW
import Derived.Test.YtkhdkepjhifffaaPE
import Derived.Test.YtkhdkepjhifffaaWC
namespace Go.Proofs.Ytkhdkepjhifffaa.verifyStack
open Go.RowKit Go.Proofs.Ytkhdkepjhifffaa.RG Go.Proofs.Ytkhdkepjhifffaa.KA Go.Proofs.Ytkhdkepjhifffaa.KB Go.Proofs.Ytkhdkepjhifffaa.KC Go.Proofs.Ytkhdkepjhifffaa.KH Go.Proofs.Ytkhdkepjhifffaa.KI Go.Proofs.Ytkhdkepjhifffaa.PE Go.Proofs.Ytkhdkepjhifffaa.VA Go.Proofs.Ytkhdkepjhifffaa.VO Go.Proofs.Ytkhdkepjhifffaa.VP Go.Proofs.Ytkhdkepjhifffaa.VX
set_option linter.unusedVariables false
set_option maxRecDepth 100000
set_option maxRecDepth 100000

open Go.Proofs.Ytkhdkepjhifffaa.WA Go.Proofs.Ytkhdkepjhifffaa.WC
set_option maxHeartbeats 32000000 in
theorem walk (w : World) (c : Cd) (fv iv tv : Value) (h : HasC w (fun _ => True) c fv iv tv) (hl : c.funs.length ≤ maxLen ∧ c.ints.length ≤ maxLen ∧ c.texts.length ≤ maxLen ∧ ∀ f, f ∈ c.funs → f.code.length ≤ maxLen) (n : Int) (p0 : -9223372036854775808 ≤ n) (p1 : n ≤ 9223372036854775807) :
    Calls Try.prog 8 #[.agg #[fv, iv, tv, .int .i64 c.lets], .int .i64 n] w fun e w' => e = .returned (.bool true) ∧ Below w.heap.size w w' := by
  obtain ⟨fo, fc, rfl, hfc⟩ := h.funs.val
  obtain ⟨io, ic, rfl, hic⟩ := h.ints.val
  obtain ⟨to_, tc, rfl, htc⟩ := h.texts.val
  obtain ⟨LT, hLT⟩ : ∃ x, Hid (c.lets = x) := ⟨_, Lib.hid rfl⟩
  obtain ⟨X, hX⟩ : ∃ X, Hid (w.heap.size = X) := ⟨_, Lib.hid rfl⟩
  have HCUT := Lib.hid (fun w' (hb : Below w.heap.size w w') => Go.Proofs.Ytkhdkepjhifffaa.WB.cutg_c c _ _ _ w' _ (h.keep hb) hl)
  have hs := few c
  obtain ⟨n1, hn1⟩ : ∃ x, Hid (c.funs.length = x) := ⟨_, Lib.hid rfl⟩
  obtain ⟨n2, hn2⟩ : ∃ x, Hid (c.ints.length = x) := ⟨_, Lib.hid rfl⟩
  obtain ⟨n3, hn3⟩ : ∃ x, Hid (c.texts.length = x) := ⟨_, Lib.hid rfl⟩
  rw [hn1.out, hn2.out, hn3.out] at HCUT ⊢
  unfold Go.Proofs.Ytkhdkepjhifffaa.WB.CutG at HCUT
  rw [hLT.out] at HCUT ⊢
  have HK := Lib.hid (new_at w #[.slice fo n1 fc, .slice io n2 ic, .slice to_ n3 tc, .int .i64 LT] 27 hX.out)
  have HX := Lib.hid (balloc w (.cells #[.slice fo n1 fc, .slice io n2 ic, .slice to_ n3 tc, .int .i64 LT] 27))
  clear h hl hfc hic htc hn1 hn2 hn3
  go_enter Try.func8, Try.ntmps8
  go_wp2_with fail
  refine (HCUT.out _ HX.out).mono ?_
  rintro e w2 ⟨f2, i2, t2, GS, rfl, hg2, hb2⟩
  have ho2 := hg2.o
  clear HCUT
  obtain ⟨fa, fc2, ef, _⟩ := ho2.funs.val
  obtain ⟨ia, ic2, ei, _⟩ := ho2.ints.val
  obtain ⟨ta, tc2, et, _⟩ := ho2.texts.val
  obtain ⟨NF, hNF⟩ : ∃ x, (cutCd c).funs.length = x := ⟨_, rfl⟩
  obtain ⟨NI, hNI⟩ : ∃ x, (cutCd c).ints.length = x := ⟨_, rfl⟩
  obtain ⟨NT, hNT⟩ : ∃ x, (cutCd c).texts.length = x := ⟨_, rfl⟩
  rw [hNF] at ef
  rw [hNI] at ei
  rw [hNT] at et
  subst ef ei et
  have HN := Lib.hid (And.intro hNF (And.intro hNI hNT))
  clear hNF hNI hNT
  have hk2 := HK.out.keep hb2
  have hX1 : X < (w.alloc (.cells #[.slice fo n1 fc, .slice io n2 ic, .slice to_ n3 tc, .int .i64 LT] 27)).heap.size := by simp [hX.out]
  have HKA := Lib.hid (put4 (a' := .slice fa NF fc2) (b' := .slice ia NI ic2) (c' := .slice ta NT tc2) (d' := .int .i64 LT) hk2)
  have HGA := Lib.hid ((((hg2.other hX1 0 (.slice fa NF fc2)).other hX1 1 (.slice ia NI ic2)).other hX1 2 (.slice ta NT tc2)).other hX1 3 (.int .i64 LT))
  have hxx := bnext HX.out hb2
  have HXA := Lib.hid (show Below w.heap.size w ((((w2.setCell ⟨X, 0, none⟩ (.slice fa NF fc2)).setCell ⟨X, 1, none⟩ (.slice ia NI ic2)).setCell ⟨X, 2, none⟩ (.slice ta NT tc2)).setCell ⟨X, 3, none⟩ (.int .i64 LT)) from (((hxx.setCell (p := ⟨X, 0, none⟩) (by have := hX.out; show w.heap.size ≤ X; omega) _).setCell (p := ⟨X, 1, none⟩) (by have := hX.out; show w.heap.size ≤ X; omega) _).setCell (p := ⟨X, 2, none⟩) (by have := hX.out; show w.heap.size ≤ X; omega) _).setCell (p := ⟨X, 3, none⟩) (by have := hX.out; show w.heap.size ≤ X; omega) _)
  have c0 := hk2.cell 0 _ rfl
  have c1 := hk2.cell 1 _ rfl
  have c2 := hk2.cell 2 _ rfl
  have c3 := hk2.cell 3 _ rfl
  have f0 := hk2.free 0
  have f1 := hk2.free 1
  have f2' := hk2.free 2
  have f3 := hk2.free 3
  have lX := hk2.lt
  clear hk2 hX1 hxx ho2 hg2 hb2
  rw [hX.out]
  go_wp2_with fail
  have HS := Lib.hid hs
  clear hs c0 c1 c2 c3 f0 f1 f2' f3 lX
  generalize hWA : World.setCell _ _ _ = WA at HKA HGA HXA ⊢
  clear hWA
  have hlt0 : (cutCd c).lets = LT := hLT.out
  clear p0 p1
  have HP := pdepths_n (cutCd c) _ _ _ 0 WA _ HGA.out.o.has HS.out
  rw [hlt0] at HP
  have HPC := Lib.hid HP
  clear HP
  have k0 := HKA.out.cell 0 _ rfl
  have k1 := HKA.out.cell 1 _ rfl
  have k2 := HKA.out.cell 2 _ rfl
  have k3 := HKA.out.cell 3 _ rfl
  go_wp2_with fail
  refine HPC.out.mono ?_
  rintro e w3 ⟨hb3, v, L, rfl, hrow, hdo, hdep⟩
  have HFW := Lib.hid (fun b e => (HGA.out.funs.own (b := b) e).2)
  have HX3 := Lib.hid (bnext HXA.out hb3)
  have HK3 := Lib.hid (HKA.out.keep hb3)
  have HG3 := Lib.hid (HGA.out.keep hb3)
  have HR3 := Lib.hid hrow
  have HD3 := Lib.hid hdep
  have HL3 := Lib.hid (dep_len hdep (few_code c))
  obtain ⟨da, dc, rfl, _⟩ := hrow.val
  obtain ⟨ND, hND⟩ : ∃ x, Hid (L.length = x) := ⟨_, Lib.hid rfl⟩
  rw [hND.out] at HR3 HL3 hdo ⊢
  have HDO := Lib.hid hdo
  clear hb3 hrow hdo hdep k0 k1 k2 k3 HPC HGA HKA HXA
  have hcs : ND = 0 ∨ (ND ≠ 0 ∧ n < 1) ∨ (ND ≠ 0 ∧ 1 ≤ n ∧ 60 < n) ∨ (ND ≠ 0 ∧ 1 ≤ n ∧ n ≤ 60) := by omega
  rcases hcs with q1 | ⟨q1, q2⟩ | ⟨q1, q2, q3⟩ | ⟨q1, q2, q3⟩
  · have t1 : ((ND : Int) == 0) = true := by rw [beq_iff_eq]; omega
    clear q1
    go_wp2_with (go_at_call 19; refine (Go.Proofs.Ytkhdkepjhifffaa.VW.lives_c _).mono ?_; rintro e w9 ⟨rfl, hb9⟩; have HX9 := Lib.hid (bnext HX3.out hb9); clear hb9)
    go_ret
    exact ⟨rfl, HX9.out⟩
  · have t1 : ((ND : Int) == 0) = false := by rw [beq_eq_false_iff_ne]; omega
    clear q1
    go_wp2_with (go_at_call 19; refine (Go.Proofs.Ytkhdkepjhifffaa.VW.lives_c _).mono ?_; rintro e w9 ⟨rfl, hb9⟩; have HX9 := Lib.hid (bnext HX3.out hb9); clear hb9)
    go_ret
    exact ⟨rfl, HX9.out⟩
  · have t1 : ((ND : Int) == 0) = false := by rw [beq_eq_false_iff_ne]; omega
    have t2 : ¬ n < 1 := by omega
    have t3 : n > 60 := by omega
    clear q1
    go_wp2_with (go_at_call 19; refine (Go.Proofs.Ytkhdkepjhifffaa.VW.lives_c _).mono ?_; rintro e w9 ⟨rfl, hb9⟩; have HX9 := Lib.hid (bnext HX3.out hb9); clear hb9)
    go_ret
    exact ⟨rfl, HX9.out⟩
  · have t1 : ((ND : Int) == 0) = false := by rw [beq_eq_false_iff_ne]; omega
    have t2 : ¬ n < 1 := by omega
    have t3 : ¬ n > 60 := by omega
    have hne : L ≠ [] := by intro e; have := hND.out; rw [e] at this; simp at this; omega
    obtain ⟨f, A, hf, hmay, hans, hLA⟩ := dep_fun (n := 0) HD3.out hne
    obtain ⟨b, hb⟩ := HG3.out.at hf
    obtain ⟨g, cap, ev, hBg, hgl⟩ := own_open HG3.out.funs (by intro e; rw [e] at hb; simp at hb)
    injection ev with e1 e2 e3
    subst e1
    clear e3 cap
    have hNF : 0 < NF := by rw [e2]; exact (List.getElem?_eq_some_iff.1 hb).1
    obtain ⟨u, hu, hfr⟩ := own_cell HG3.out.funs (k := 2) (by rw [← e2]; show 2 < NF * 4; omega)
    have HXg := Lib.hid (show X ≠ g from by have := hX.out; simp at hBg; omega)
    have hG4 := HG3.out.stack hb n
    rw [show 0 * 4 + 2 = 2 from rfl] at hG4
    have HG4 := Lib.hid hG4
    have HK4 := Lib.hid (HK3.out.other HXg.out 2 (.int .i64 n))
    have HX4 := Lib.hid (HX3.out.setCell (p := ⟨g, 2, none⟩) (by have := hX.out; simp at hBg; show w.heap.size ≤ g; omega) (.int .i64 n))
    have HF := Lib.hid hf
    have HS4 := Lib.hid (few_with (f' := ⟨f.kept, f.locals, n, f.code⟩) (few c) hf rfl)
    have HLC4 := Lib.hid (few_code_with (f' := ⟨f.kept, f.locals, n, f.code⟩) (few_code c) hf rfl)
    have HR4 := Lib.hid (HR3.out)
    have i0 : (0 : Int) < (NF : Int) := by omega
    have hlt4 : (withF (cutCd c) 0 ⟨f.kept, f.locals, n, f.code⟩).lets = LT := hlt0
    have k0 := HK3.out.cell 0 _ rfl
    have k1 := HK3.out.cell 1 _ rfl
    have k2 := HK3.out.cell 2 _ rfl
    have k3 := HK3.out.cell 3 _ rfl
    have x0 := HK4.out.cell 0 _ rfl
    have x1 := HK4.out.cell 1 _ rfl
    have x2 := HK4.out.cell 2 _ rfl
    have x3 := HK4.out.cell 3 _ rfl
    clear q1 hne hans hLA hmay hb e2 hBg hG4 hf HG3
    go_wp2_with fail
    have hD4 := Go.Proofs.Ytkhdkepjhifffaa.VT.ddepths_c (withF (cutCd c) 0 ⟨f.kept, f.locals, n, f.code⟩) _ _ _ 0 _ _ HG4.out.o.has HS4.out
    rw [hlt4] at hD4
    refine hD4.mono ?_
    clear hD4
    rintro e w5 ⟨hb5, v5, L5, rfl, hrow5, _, hdep5⟩
    have HX5 := Lib.hid (bnext HX4.out hb5)
    have HK5 := Lib.hid (HK4.out.keep hb5)
    have HG5 := Lib.hid (HG4.out.keep hb5)
    have HR5 := Lib.hid (RowR.keep (row_wr HR3.out (x := g) (fun b e => by have h1 := HDO.out b e; have h2 := HFW.out g rfl; omega) 2 (.int .i64 n)) hb5)
    have HD5 := Lib.hid hdep5
    have HRE5 := Lib.hid hrow5
    obtain ⟨ea, ec, rfl, _⟩ := hrow5.val
    clear hb5 hrow5 hdep5 x0 x1 x2 x3 k0 k1 k2 k3 HX4 HK4 HG4
    have k0 := HK5.out.cell 0 _ rfl
    have k1 := HK5.out.cell 1 _ rfl
    have k2 := HK5.out.cell 2 _ rfl
    have k3 := HK5.out.cell 3 _ rfl
    go_wp2_with fail
    have hD5 := pdepths_n (withF (cutCd c) 0 ⟨f.kept, f.locals, n, f.code⟩) _ _ _ 0 w5 _ HG5.out.o.has HS4.out
    rw [hlt4] at hD5
    refine hD5.mono ?_
    clear hD5
    rintro e w6 ⟨hb6, v6, L6, rfl, hrow6, _, hdep6⟩
    obtain rfl := HD5.out.one hdep6
    have HX6 := Lib.hid (bnext HX5.out hb6)
    have HR6 := Lib.hid (HR5.out.keep hb6)
    obtain ⟨na, nc, rfl, _⟩ := hrow6.val
    obtain ⟨NE, hNE⟩ : ∃ x, Hid (L5.length = x) := ⟨_, Lib.hid rfl⟩
    rw [hNE.out]
    clear hb6 hrow6 hdep6 k0 k1 k2 k3 HX5 HK5 HG5 HR5 HRE5
    have HMM := Lib.hid (fun (h0 : L5 ≠ []) => dep_most HD3.out HD5.out HF.out (withF_at HF.out) (goes_stack HF.out rfl rfl rfl) (show (0 : Int) ≤ n by omega) h0)
    have HN5 := Lib.hid (show NE ≠ 0 → ∀ d, d ∈ L → d ≤ n from fun h0 => HMM.out (fun e => h0 (by rw [← hNE.out, e]; rfl)))
    clear HMM HD3 HD5
    go_wp2_with fail
    go_loopg [8, 9] ND (fun g mv iv wr => ∃ (i : Nat) (m : Int), i + g = ND ∧ iv = .int .i64 (i : Int) ∧ mv = .int .i64 m ∧ Hid (NE ≠ 0 → m ≤ n) ∧ Hid (Below w.heap.size w wr) ∧ Hid (RowR TI wr (fun _ => False) (.slice da ND dc) L))
    case atStart => exact ⟨0, 0, Nat.zero_add _, rfl, rfl, Lib.hid (fun _ => by omega), HX6, HR6⟩
    case round =>
      clear HX6 HR6
      obtain ⟨i, m, hi, rfl, rfl, HM, HX, HR⟩ := hrel
      by_cases hlt : i < ND
      · obtain ⟨g', rfl⟩ : ∃ g, gk = g + 1 := ⟨gk - 1, by omega⟩
        obtain ⟨d, hd⟩ := getElem?_of_lt (l := L) (k := i) (by rw [hND.out]; exact hlt)
        obtain ⟨bb, off, cap, hve, _, hblt, hcells⟩ := HR.out.open_ (by intro e; rw [e] at hd; simp at hd)
        rw [hND.out] at hve
        cases hve
        obtain ⟨q, hL, _⟩ := hcells i d hd
        have x0 : wr.cell? ⟨bb, off + i, none⟩ = some (.int .i64 d) := by have := hL 0 _ rfl; simpa [TI, Ty.flat] using this
        have i1 : (0 : Int) ≤ (i : Int) := by omega
        have i2 : (i : Int) < (ND : Int) := by omega
        have i3 : ND ≤ 1000 := HL3.out
        have HDM := Lib.hid (fun h => HN5.out h d (List.mem_of_getElem? hd))
        clear hcells hL hd hblt
        by_cases hgt : d > m
        · go_wp2_with fail
          go_roundg g'
          case rel => exact ⟨i + 1, d, by omega, by go_num, rfl, HDM, HX, HR⟩
          case measure => omega
        · go_wp2_with fail
          go_roundg g'
          case rel => exact ⟨i + 1, m, by omega, by go_num, rfl, HM, HX, HR⟩
          case measure => omega
      · have hc5 : NE = 0 ∨ NE ≠ 0 := by omega
        rcases hc5 with h5 | h5
        · have j1 : ¬ (NE : Int) > 0 := by omega
          clear h5
          rcases (show n < m ∨ ¬ n < m by omega) with hnm | hnm
          · skip
            go_wp2_with (go_at_call 19; refine (Go.Proofs.Ytkhdkepjhifffaa.VW.lives_c _).mono ?_; rintro e w9 ⟨rfl, hb9⟩; have HX9 := Lib.hid (bnext HX.out hb9); clear hb9)
            go_ret
            exact ⟨rfl, HX9.out⟩
          · skip
            go_wp2_with (go_at_call 19; refine (Go.Proofs.Ytkhdkepjhifffaa.VW.lives_c _).mono ?_; rintro e w9 ⟨rfl, hb9⟩; have HX9 := Lib.hid (bnext HX.out hb9); clear hb9)
            go_ret
            exact ⟨rfl, HX9.out⟩
        · have j1 : (NE : Int) > 0 := by omega
          have j2 : ¬ n < m := by have := HM.out h5; omega
          clear h5
          go_wp2_with (go_at_call 19; refine (Go.Proofs.Ytkhdkepjhifffaa.VW.lives_c _).mono ?_; rintro e w9 ⟨rfl, hb9⟩; have HX9 := Lib.hid (bnext HX.out hb9); clear hb9)
          go_ret
          exact ⟨rfl, HX9.out⟩
end Go.Proofs.Ytkhdkepjhifffaa.verifyStack
