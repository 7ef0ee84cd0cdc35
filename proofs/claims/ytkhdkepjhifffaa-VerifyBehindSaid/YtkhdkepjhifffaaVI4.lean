/- The document's step, some of the instructions. -/
import Derived.Test.YtkhdkepjhifffaaVF
import Derived.Test.YtkhdkepjhifffaaVG
import Derived.Test.YtkhdkepjhifffaaVH
import Derived.Test.YtkhdkepjhifffaaVI
import Derived.Deep.Cut
import Derived.Deep.DeepCutAuto
namespace Go.Proofs.Ytkhdkepjhifffaa.VI
open Go.RowKit Go.Proofs.Ytkhdkepjhifffaa.RG Go.Proofs.Ytkhdkepjhifffaa.RB Go.Proofs.Ytkhdkepjhifffaa.KA Go.Proofs.Ytkhdkepjhifffaa.KB Go.Proofs.Ytkhdkepjhifffaa.KH Go.Proofs.Ytkhdkepjhifffaa.VA Go.Proofs.Ytkhdkepjhifffaa.VB Go.Proofs.Ytkhdkepjhifffaa.VC Go.Proofs.Ytkhdkepjhifffaa.VD Go.Proofs.Ytkhdkepjhifffaa.VE Go.Proofs.Ytkhdkepjhifffaa.VF Go.Proofs.Ytkhdkepjhifffaa.VG Go.Proofs.Ytkhdkepjhifffaa.VH
set_option linter.unusedVariables false
set_option maxRecDepth 100000
set_option maxRecDepth 100000

set_option maxHeartbeats 16000000 in
theorem step_bad (w0 w : World) (b N : Nat) (S S0 : Nat → Prop) (A : Row) (c : Cd) (fv iv tv : Value) (n at_ : Nat) (f : Bd) (op : Int) (an bn : Nat) (s : Sx) (h0 : HasC w0 S0 c fv iv tv) (hB : Below w0.heap.size w0 w) (hz : Sz c) (hf : c.funs[n]? = some f) (hi : f.code[at_]? = some ⟨op, an, bn⟩) (hfl : f.code.length = N) (hN : N ≤ 1000) (hA : A[at_]? = some (some s)) (len : A.length = N) (h : RowB TZ w S b (A.map rawD)) (hS1 : ∀ y, S y → y ≠ b) (hS2 : ∀ y, w.heap.size ≤ y → S y) (hd0 : 0 ≤ s.dep) (hd1 : s.dep ≤ f.stack) (hst : f.stack ≤ 60) (gd : ∀ (a : Nat) (s : Sx), A[a]? = some (some s) → s.ms.length ≤ 900000) (hab : an ≤ 65535 ∧ bn ≤ 65535) (hbs : 0 ≤ base s ∧ base s ≤ 100000) (hop : 1 ≤ op ∧ op ≤ 33) (hg : ¬ (rightB c n f ⟨op, an, bn⟩ = true ∧ base s ≤ s.dep - takesN ⟨op, (an : Int), (bn : Int)⟩)) :
    Calls Try.prog 63 #[.agg #[fv, iv, tv, .int .i64 c.lets], .int .i64 (n : Int), .int .i64 (at_ : Int), .slice (some ⟨b, 0, none⟩) N N] w (StepRes f.stack (goes c n f at_ s) A S b w) := by
  obtain ⟨D, ms⟩ := s
  have hl : ms.length ≤ 900000 := gd at_ _ hA
  have hn := (List.getElem?_eq_some_iff.1 hf).1
  have hat := (List.getElem?_eq_some_iff.1 hi).1
  obtain ⟨io, ic, rfl, _⟩ := h0.ints.val
  obtain ⟨to_, tc, rfl, _⟩ := h0.texts.val
  obtain ⟨fb, fo, fc, rfl, _, hfb, hcell⟩ := h0.funs.open_ (by intro e; rw [e] at hn; simp at hn)
  obtain ⟨q, hL, hq⟩ := hcell n f hf
  obtain ⟨qv, rfl, hrow⟩ := hasBd_row hq
  obtain ⟨cb, coff, cc, rfl, _, hcb, hcd⟩ := hrow.open_ (by intro e; rw [e] at hat; simp at hat)
  obtain ⟨q2, hLi, _⟩ := hcd at_ _ hi
  obtain ⟨q3, hLs, hq3⟩ := h.at (at_map rawD hA)
  obtain ⟨sv, qs3, rfl, hsr⟩ := hq3
  have HMS0 : RowM TD w S sv ms := ⟨sv, qs3, rfl, hsr⟩
  obtain ⟨so, sc, rfl, _⟩ := HMS0.val
  have HF := Lib.hid hf
  have HI0 := Lib.hid hi
  have HEF := Lib.hid (fun w' (hb : Below w.heap.size w w') => effect_c c _ _ _ n f ⟨op, an, bn⟩ w' S0 (h0.keep (hB.trans (hb.mono hB.size))) hf hz hop (by show (0 : Int) ≤ (an : Int); omega) (by show (0 : Int) ≤ (bn : Int); omega))
  unfold EffRes at HEF
  have hTKb := takes_le ⟨op, (an : Int), (bn : Int)⟩ (by show (0 : Int) ≤ (bn : Int) ∧ (bn : Int) ≤ 65535; omega)
  have hPTb := puts_le (op : Int)
  obtain ⟨TK, hTK⟩ : ∃ x, Hid (takesN ⟨op, (an : Int), (bn : Int)⟩ = x) := ⟨_, Lib.hid rfl⟩
  obtain ⟨PT, hPT⟩ : ∃ x, Hid (putsN op = x) := ⟨_, Lib.hid rfl⟩
  rw [hTK.out] at HEF hTKb hg
  rw [hPT.out] at HEF hPTb
  have HLM0 : Hid (ms.length ≤ 900000) := Lib.hid hl
  have HGO : Hid (goes c n f at_ ⟨D, ms⟩ = none) := Lib.hid (by unfold goes; rw [hi]; simp only; rw [if_neg (by rw [hTK.out]; exact hg)])
  obtain ⟨RR, hRR⟩ : ∃ x, rightB c n f ⟨op, (an : Int), (bn : Int)⟩ = x := ⟨_, rfl⟩
  rw [hRR] at HEF hg
  have hgb := hg
  clear hg hRR
  obtain ⟨ke, lo, st, code⟩ := f
  simp only at hfl hd0 hd1 hst hrow hL hat hcd ⊢
  rw [hfl] at hL
  obtain ⟨NF, hNF⟩ : ∃ x, Hid (c.funs.length = x) := ⟨_, Lib.hid rfl⟩
  obtain ⟨NI, hNI⟩ : ∃ x, Hid (c.ints.length = x) := ⟨_, Lib.hid rfl⟩
  obtain ⟨NT, hNT⟩ : ∃ x, Hid (c.texts.length = x) := ⟨_, Lib.hid rfl⟩
  obtain ⟨LT, hLT⟩ : ∃ x, Hid (c.lets = x) := ⟨_, Lib.hid rfl⟩
  have h1 := hz.funs
  rw [hNF.out] at hn h1 HEF ⊢
  rw [hNI.out] at HEF ⊢
  rw [hNT.out] at HEF ⊢
  rw [hLT.out] at HEF ⊢
  have hMNe : (rawD (some ⟨D, ms⟩)).2.ms.length = ms.length := rfl
  obtain ⟨MN, hMN⟩ : ∃ x, Hid (ms.length = x) := ⟨_, Lib.hid rfl⟩
  rw [hMN.out] at HMS0 hl hLs
  have HL := Lib.hid hl
  have HLEN := Lib.hid len
  have HS1 := Lib.hid hS1
  have HS2 := Lib.hid hS2
  have HGD := Lib.hid gd
  have HRB0 := Lib.hid h
  have HMS := Lib.hid HMS0
  have HAA := Lib.hid hA
  have a1 := balloc w (.cells #[.slice (some ⟨fb, fo, none⟩) NF fc, .slice io NI ic, .slice to_ NT tc, .int .i64 LT] 27)
  have a2 := bnext a1 (balloc _ (.cells #[.int .i64 ke, .int .i64 lo, .int .i64 st, .slice (some ⟨cb, coff, none⟩) N cc] 49))
  have a3 := bnext a2 (balloc _ (.cells #[.int .i64 op, .int .i64 (an : Int), .int .i64 (bn : Int)] 45))
  have HX := Lib.hid (bnext a3 (balloc _ (.cells #[.bool true, .int .i64 D, .slice so MN sc] 75)))
  have m1 := (hL.keep hB hfb).keep a1 (Nat.lt_of_lt_of_le hfb hB.size)
  have m2 := (hLi.keep hB hcb).keep a2 (Nat.lt_of_lt_of_le hcb hB.size)
  have m3 := hLs.keep a3 h.lt
  have y0 : (w.alloc (.cells #[.slice (some ⟨fb, fo, none⟩) NF fc, .slice io NI ic, .slice to_ NT tc, .int .i64 LT] 27)).cell? ⟨fb, fo + n * 4, none⟩ = some (.int .i64 ke) := m1 0 _ rfl
  have y1 : (w.alloc (.cells #[.slice (some ⟨fb, fo, none⟩) NF fc, .slice io NI ic, .slice to_ NT tc, .int .i64 LT] 27)).cell? ⟨fb, fo + n * 4 + 1, none⟩ = some (.int .i64 lo) := m1 1 _ rfl
  have y2 : (w.alloc (.cells #[.slice (some ⟨fb, fo, none⟩) NF fc, .slice io NI ic, .slice to_ NT tc, .int .i64 LT] 27)).cell? ⟨fb, fo + n * 4 + 2, none⟩ = some (.int .i64 st) := m1 2 _ rfl
  have y3 : (w.alloc (.cells #[.slice (some ⟨fb, fo, none⟩) NF fc, .slice io NI ic, .slice to_ NT tc, .int .i64 LT] 27)).cell? ⟨fb, fo + n * 4 + 3, none⟩ = some (.slice (some ⟨cb, coff, none⟩) N cc) := m1 3 _ rfl
  have z0 : ((w.alloc (.cells #[.slice (some ⟨fb, fo, none⟩) NF fc, .slice io NI ic, .slice to_ NT tc, .int .i64 LT] 27)).alloc (.cells #[.int .i64 ke, .int .i64 lo, .int .i64 st, .slice (some ⟨cb, coff, none⟩) N cc] 49)).cell? ⟨cb, coff + at_ * 3, none⟩ = some (.int .i64 op) := m2 0 _ rfl
  have z1 : ((w.alloc (.cells #[.slice (some ⟨fb, fo, none⟩) NF fc, .slice io NI ic, .slice to_ NT tc, .int .i64 LT] 27)).alloc (.cells #[.int .i64 ke, .int .i64 lo, .int .i64 st, .slice (some ⟨cb, coff, none⟩) N cc] 49)).cell? ⟨cb, coff + at_ * 3 + 1, none⟩ = some (.int .i64 (an : Int)) := m2 1 _ rfl
  have z2 : ((w.alloc (.cells #[.slice (some ⟨fb, fo, none⟩) NF fc, .slice io NI ic, .slice to_ NT tc, .int .i64 LT] 27)).alloc (.cells #[.int .i64 ke, .int .i64 lo, .int .i64 st, .slice (some ⟨cb, coff, none⟩) N cc] 49)).cell? ⟨cb, coff + at_ * 3 + 2, none⟩ = some (.int .i64 (bn : Int)) := m2 2 _ rfl
  have x0 : (((w.alloc (.cells #[.slice (some ⟨fb, fo, none⟩) NF fc, .slice io NI ic, .slice to_ NT tc, .int .i64 LT] 27)).alloc (.cells #[.int .i64 ke, .int .i64 lo, .int .i64 st, .slice (some ⟨cb, coff, none⟩) N cc] 49)).alloc (.cells #[.int .i64 op, .int .i64 (an : Int), .int .i64 (bn : Int)] 45)).cell? ⟨b, at_ * 3, none⟩ = some (.bool true) := m3 0 _ rfl
  have x1 : (((w.alloc (.cells #[.slice (some ⟨fb, fo, none⟩) NF fc, .slice io NI ic, .slice to_ NT tc, .int .i64 LT] 27)).alloc (.cells #[.int .i64 ke, .int .i64 lo, .int .i64 st, .slice (some ⟨cb, coff, none⟩) N cc] 49)).alloc (.cells #[.int .i64 op, .int .i64 (an : Int), .int .i64 (bn : Int)] 45)).cell? ⟨b, at_ * 3 + 1, none⟩ = some (.int .i64 D) := m3 1 _ rfl
  have x2 : (((w.alloc (.cells #[.slice (some ⟨fb, fo, none⟩) NF fc, .slice io NI ic, .slice to_ NT tc, .int .i64 LT] 27)).alloc (.cells #[.int .i64 ke, .int .i64 lo, .int .i64 st, .slice (some ⟨cb, coff, none⟩) N cc] 49)).alloc (.cells #[.int .i64 op, .int .i64 (an : Int), .int .i64 (bn : Int)] 45)).cell? ⟨b, at_ * 3 + 2, none⟩ = some (.slice so MN sc) := m3 2 _ rfl
  have KC := ((Bk.new w #[.slice (some ⟨fb, fo, none⟩) NF fc, .slice io NI ic, .slice to_ NT tc, .int .i64 LT] 27).alloc (.cells #[.int .i64 ke, .int .i64 lo, .int .i64 st, .slice (some ⟨cb, coff, none⟩) N cc] 49)).alloc (.cells #[.int .i64 op, .int .i64 (an : Int), .int .i64 (bn : Int)] 45) |>.alloc (.cells #[.bool true, .int .i64 D, .slice so MN sc] 75)
  have KF := ((Bk.new (w.alloc (.cells #[.slice (some ⟨fb, fo, none⟩) NF fc, .slice io NI ic, .slice to_ NT tc, .int .i64 LT] 27)) #[.int .i64 ke, .int .i64 lo, .int .i64 st, .slice (some ⟨cb, coff, none⟩) N cc] 49).alloc (.cells #[.int .i64 op, .int .i64 (an : Int), .int .i64 (bn : Int)] 45)).alloc (.cells #[.bool true, .int .i64 D, .slice so MN sc] 75)
  have KI := (Bk.new ((w.alloc (.cells #[.slice (some ⟨fb, fo, none⟩) NF fc, .slice io NI ic, .slice to_ NT tc, .int .i64 LT] 27)).alloc (.cells #[.int .i64 ke, .int .i64 lo, .int .i64 st, .slice (some ⟨cb, coff, none⟩) N cc] 49)) #[.int .i64 op, .int .i64 (an : Int), .int .i64 (bn : Int)] 45).alloc (.cells #[.bool true, .int .i64 D, .slice so MN sc] 75)
  have KS := Bk.new (((w.alloc (.cells #[.slice (some ⟨fb, fo, none⟩) NF fc, .slice io NI ic, .slice to_ NT tc, .int .i64 LT] 27)).alloc (.cells #[.int .i64 ke, .int .i64 lo, .int .i64 st, .slice (some ⟨cb, coff, none⟩) N cc] 49)).alloc (.cells #[.int .i64 op, .int .i64 (an : Int), .int .i64 (bn : Int)] 45)) #[.bool true, .int .i64 D, .slice so MN sc] 75
  rw [World.size_alloc] at KF
  rw [World.size_alloc, World.size_alloc] at KI
  rw [World.size_alloc, World.size_alloc, World.size_alloc] at KS
  have KC := Lib.hid KC
  have KF := Lib.hid KF
  have KI := Lib.hid KI
  have KS := Lib.hid KS
  have i0 : (0 : Int) ≤ (n : Int) := by omega
  have i1 : (n : Int) < (NF : Int) := by omega
  have i2 : (0 : Int) ≤ (at_ : Int) := by omega
  have i3 : (at_ : Int) < (N : Int) := by omega
  have HBLT := Lib.hid h.lt
  clear h0 hcell hL hq hrow hcd hLi hLs hsr a1 a2 a3 m1 m2 m3 h hS1 hS2 gd len hA hf hi hfl hz hB hat hMNe HMS0 hn hcb hfb
  have hcs : (ms = [] ∧ MN = 0) ∨ (∃ M m, ms[M]? = some m ∧ ms.getLast? = some m ∧ MN = M + 1) := by
    by_cases h0 : ms = []
    · exact .inl ⟨h0, by rw [← hMN.out, h0]; rfl⟩
    · obtain ⟨M, hM⟩ : ∃ M, ms.length = M + 1 := ⟨ms.length - 1, by have := List.length_pos_iff.2 h0; omega⟩
      obtain ⟨m, h1, h2⟩ := last_at hM
      exact .inr ⟨M, m, h1, h2, by rw [← hMN.out, hM]⟩
  have HBS := Lib.hid (show base ⟨D, ms⟩ = base ⟨D, ms⟩ from rfl)
  obtain ⟨BS, hBS⟩ : ∃ x, Hid (base ⟨D, ms⟩ = x) := ⟨_, Lib.hid rfl⟩
  rw [hBS.out] at hbs hgb
  rcases hcs with ⟨hnil, hM0⟩ | ⟨M, m, hmM, hmL, hM1⟩
  · have hb0 : BS = 0 := by rw [← hBS.out]; exact base_nil hnil
    have HNL := Lib.hid hnil
    subst hb0 hM0
    clear hnil
    go_enter Try.func63, Try.ntmps63
    go_upto_region 4 with fail
    have hmk : True := trivial
    have hmk2 : True := trivial
    all_goals skip
    obtain ⟨UU, hUU⟩ : ∃ x : Nat, Hid (x = 0) := ⟨0, Lib.hid rfl⟩
    obtain ⟨X, hX⟩ : ∃ X, Hid (w.heap.size = X) := ⟨_, Lib.hid rfl⟩
    rw [hX.out] at KC KF KI KS
    rw [hX.out]
    generalize World.alloc (World.alloc (World.alloc (World.alloc w _) _) _) _ = W at HX KC KF KI KS ⊢
    have c0 := KC.out.cell 0 (.slice (some ⟨fb, fo, none⟩) NF fc) rfl
    have c1 := KC.out.cell 1 (.slice io NI ic) rfl
    have c2 := KC.out.cell 2 (.slice to_ NT tc) rfl
    have c3 := KC.out.cell 3 (.int .i64 LT) rfl
    have d0 := KI.out.cell 0 (.int .i64 op) rfl
    have d1 := KI.out.cell 1 (.int .i64 (an : Int)) rfl
    have d2 := KI.out.cell 2 (.int .i64 (bn : Int)) rfl
    go_wp2_with fail
    refine (HEF.out W HX.out).mono ?_
    rintro e w4 ⟨rfl, hb4⟩
    clear c0 c1 c2 c3 d0 d1 d2 HEF
    have HX4 := Lib.hid (bnext HX.out hb4)
    have HLT4 := Lib.hid (KS.out.keep hb4).lt
    replace KC := Lib.hid (KC.out.keep hb4)
    replace KF := Lib.hid (KF.out.keep hb4)
    replace KI := Lib.hid (KI.out.keep hb4)
    replace KS := Lib.hid (KS.out.keep hb4)
    clear hb4 HX
    have s1 := KS.out.cell 1 (.int .i64 D) rfl
    have s2 := KS.out.cell 2 (.slice so 0 sc) rfl
    have f2 := KF.out.cell 2 (.int .i64 st) rfl

    have HRES := Lib.hid (show StepRes st (goes c n ⟨ke, lo, st, code⟩ at_ ⟨D, ms⟩) A S b w (.returned (.bool false)) w4 from .inr ⟨.inl HGO.out, rfl, Bo.of HX4.out⟩)
    cases hR : RR
    · rw [hR] at hgb
      subst hR
      go_wp2_with fail
      go_ret
      exact HRES.out
    · subst hR
      have hw1 : IntKind.i64.wrap (D - TK) = D - TK := IntWalk.i64_in _ (by omega)
      have hlt : D - TK < 0 := by
        rcases Int.lt_or_le (D - TK) 0 with h | h
        · exact h
        · exact absurd ⟨rfl, h⟩ hgb
      clear hgb hw1
      go_wp2_with fail
      go_ret
      exact HRES.out

  · have hb0 : BS = m.dep := by rw [← hBS.out]; exact base_last hmL
    subst hb0 hM1
    have hne : ms ≠ [] := by intro e; rw [e] at hmM; simp at hmM
    obtain ⟨mb, mo, mc, hmv, _, hmb, hmc⟩ := HMS.out.row.open_ hne
    rw [hMN.out] at hmv
    cases hmv
    obtain ⟨qm, hLm, _⟩ := hmc M m hmM
    have HLM := Lib.hid hLm
    have HNE := Lib.hid hne
    have HLAST := Lib.hid hmL
    have HMC := Lib.hid hmc
    have HMM := Lib.hid hmM
    have HMB := Lib.hid hmb
    clear hmc hmM hmL hne hLm hmb
    go_enter Try.func63, Try.ntmps63
    go_upto_region 4 with fail
    obtain ⟨X, hX⟩ : ∃ X, Hid (w.heap.size = X) := ⟨_, Lib.hid rfl⟩
    rw [hX.out] at KC KF KI KS
    rw [hX.out]
    generalize World.alloc (World.alloc (World.alloc (World.alloc w _) _) _) _ = W at HX KC KF KI KS ⊢
    have c0 := KC.out.cell 0 (.slice (some ⟨fb, fo, none⟩) NF fc) rfl
    have c1 := KC.out.cell 1 (.slice io NI ic) rfl
    have c2 := KC.out.cell 2 (.slice to_ NT tc) rfl
    have c3 := KC.out.cell 3 (.int .i64 LT) rfl
    have d0 := KI.out.cell 0 (.int .i64 op) rfl
    have d1 := KI.out.cell 1 (.int .i64 (an : Int)) rfl
    have d2 := KI.out.cell 2 (.int .i64 (bn : Int)) rfl
    go_wp2_with fail
    refine (HEF.out W HX.out).mono ?_
    rintro e w4 ⟨rfl, hb4⟩
    clear c0 c1 c2 c3 d0 d1 d2 HEF
    have HX4 := Lib.hid (bnext HX.out hb4)
    have HLT4 := Lib.hid (KS.out.keep hb4).lt
    replace KC := Lib.hid (KC.out.keep hb4)
    replace KF := Lib.hid (KF.out.keep hb4)
    replace KI := Lib.hid (KI.out.keep hb4)
    replace KS := Lib.hid (KS.out.keep hb4)
    clear hb4 HX
    have s1 := KS.out.cell 1 (.int .i64 D) rfl
    have s2 := KS.out.cell 2 (.slice (some ⟨mb, mo, none⟩) (M + 1) sc) rfl
    have f2 := KF.out.cell 2 (.int .i64 st) rfl
    have w0 : w4.cell? ⟨mb, mo + M * 2 + 1, none⟩ = some (.int .i64 m.dep) := (HX4.out.cell (p := ⟨mb, mo + M * 2 + 1, none⟩) HMB.out).trans (HLM.out 1 _ rfl)
    have j0 : (0 : Int) ≤ (M : Int) := by omega
    have j1 : (M : Int) < (M : Int) + 1 := by omega

    have HRES := Lib.hid (show StepRes st (goes c n ⟨ke, lo, st, code⟩ at_ ⟨D, ms⟩) A S b w (.returned (.bool false)) w4 from .inr ⟨.inl HGO.out, rfl, Bo.of HX4.out⟩)
    cases hR : RR
    · rw [hR] at hgb
      subst hR
      go_wp2_with fail
      go_ret
      exact HRES.out
    · subst hR
      have hw1 : IntKind.i64.wrap (D - TK) = D - TK := IntWalk.i64_in _ (by omega)
      have hlt : D - TK < m.dep := by
        rcases Int.lt_or_le (D - TK) m.dep with h | h
        · exact h
        · exact absurd ⟨rfl, h⟩ hgb
      clear hgb hw1
      go_wp2_with fail
      go_ret
      exact HRES.out

end Go.Proofs.Ytkhdkepjhifffaa.VI
