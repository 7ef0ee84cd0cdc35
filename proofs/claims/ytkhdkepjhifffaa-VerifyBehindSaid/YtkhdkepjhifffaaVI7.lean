/- The document's step, some of the instructions. -/
import Derived.Test.YtkhdkepjhifffaaVF
import Derived.Test.YtkhdkepjhifffaaVG
import Derived.Test.YtkhdkepjhifffaaVH
import Derived.Test.YtkhdkepjhifffaaVI
import Derived.Deep.Cut
import Derived.Deep.DeepCutAuto
namespace Go.Proofs.Ytkhdkepjhifffaa.VI
open Go.RowKit Go.Proofs.Ytkhdkepjhifffaa.RG Go.Proofs.Ytkhdkepjhifffaa.RB Go.Proofs.Ytkhdkepjhifffaa.KA Go.Proofs.Ytkhdkepjhifffaa.KB Go.Proofs.Ytkhdkepjhifffaa.KH Go.Proofs.Ytkhdkepjhifffaa.VA Go.Proofs.Ytkhdkepjhifffaa.VB Go.Proofs.Ytkhdkepjhifffaa.VC Go.Proofs.Ytkhdkepjhifffaa.VD Go.Proofs.Ytkhdkepjhifffaa.VE Go.Proofs.Ytkhdkepjhifffaa.VF Go.Proofs.Ytkhdkepjhifffaa.VG Go.Proofs.Ytkhdkepjhifffaa.VH
set_option linter.unusedVariables false
set_option maxRecDepth 100000
set_option maxRecDepth 100000

set_option maxHeartbeats 16000000 in
theorem step_26 (w0 w : World) (b N : Nat) (S S0 : Nat → Prop) (A : Row) (c : Cd) (fv iv tv : Value) (n at_ : Nat) (f : Bd) (an bn : Nat) (s : Sx) (h0 : HasC w0 S0 c fv iv tv) (hB : Below w0.heap.size w0 w) (hz : Sz c) (hf : c.funs[n]? = some f) (hi : f.code[at_]? = some ⟨26, an, bn⟩) (hfl : f.code.length = N) (hN : N ≤ 1000) (hA : A[at_]? = some (some s)) (len : A.length = N) (h : RowB TZ w S b (A.map rawD)) (hS1 : ∀ y, S y → y ≠ b) (hS2 : ∀ y, w.heap.size ≤ y → S y) (hd0 : 0 ≤ s.dep) (hd1 : s.dep ≤ f.stack) (hst : f.stack ≤ 60) (gd : ∀ (a : Nat) (s : Sx), A[a]? = some (some s) → s.ms.length ≤ 900000) (hab : an ≤ 65535 ∧ bn ≤ 65535) (hbs : 0 ≤ base s ∧ base s ≤ 100000) (hg : rightB c n f ⟨26, an, bn⟩ = true) (hg2 : base s ≤ s.dep - takesN ⟨26, (an : Int), (bn : Int)⟩) :
    Calls Try.prog 63 #[.agg #[fv, iv, tv, .int .i64 c.lets], .int .i64 (n : Int), .int .i64 (at_ : Int), .slice (some ⟨b, 0, none⟩) N N] w (StepRes f.stack (goes c n f at_ s) A S b w) := by
  obtain ⟨D, ms⟩ := s
  have hl : ms.length ≤ 900000 := gd at_ _ hA
  have hn := (List.getElem?_eq_some_iff.1 hf).1
  have hat := (List.getElem?_eq_some_iff.1 hi).1
  obtain ⟨io, ic, rfl, _⟩ := h0.ints.val
  obtain ⟨to_, tc, rfl, _⟩ := h0.texts.val
  obtain ⟨fb, fo, fc, rfl, _, hfb, hcell⟩ := h0.funs.open_ (by intro e; rw [e] at hn; simp at hn)
  obtain ⟨q, hL, hq⟩ := hcell n f hf
  obtain ⟨qv, rfl, hrow⟩ := hasBd_row hq
  obtain ⟨cb, coff, cc, rfl, _, hcb, hcd⟩ := hrow.open_ (by intro e; rw [e] at hat; simp at hat)
  obtain ⟨q2, hLi, _⟩ := hcd at_ _ hi
  obtain ⟨q3, hLs, hq3⟩ := h.at (at_map rawD hA)
  obtain ⟨sv, qs3, rfl, hsr⟩ := hq3
  have HMS0 : RowM TD w S sv ms := ⟨sv, qs3, rfl, hsr⟩
  obtain ⟨so, sc, rfl, _⟩ := HMS0.val
  have HF := Lib.hid hf
  have HI0 := Lib.hid hi
  have HEF := Lib.hid (fun w' (hb : Below w.heap.size w w') => effect_c c _ _ _ n f ⟨26, an, bn⟩ w' S0 (h0.keep (hB.trans (hb.mono hB.size))) hf hz ⟨(by decide : (1 : Int) ≤ 26), (by decide : (26 : Int) ≤ 33)⟩ (by show (0 : Int) ≤ (an : Int); omega) (by show (0 : Int) ≤ (bn : Int); omega))
  unfold EffRes at HEF
  have hTKb := takes_le ⟨26, (an : Int), (bn : Int)⟩ (by show (0 : Int) ≤ (bn : Int) ∧ (bn : Int) ≤ 65535; omega)
  have hPTb := puts_le (26 : Int)
  obtain ⟨TK, hTK⟩ : ∃ x, Hid (takesN ⟨26, (an : Int), (bn : Int)⟩ = x) := ⟨_, Lib.hid rfl⟩
  obtain ⟨PT, hPT⟩ : ∃ x, Hid (putsN 26 = x) := ⟨_, Lib.hid rfl⟩
  rw [hTK.out] at HEF hTKb hg2
  rw [hPT.out] at HEF hPTb
  have HLM0 : Hid (ms.length ≤ 900000) := Lib.hid hl
  have HGO := Lib.hid (show goes c n f at_ ⟨D, ms⟩ = if ms.any (fun m => m.kind == 26) then none else some [(at_ + 1, ⟨D - TK + PT, ms ++ [⟨26, D⟩]⟩)] from by
    have e1 : TK = 0 := by rw [← hTK.out]; simp [takesN]
    have e2 : PT = 0 := by rw [← hPT.out]; decide
    have e : D - TK + PT = D := by omega
    rw [goes_good hi hg hg2 hTK.out hPT.out, leaves_26, e]; rfl)
  rw [hg] at HEF
  obtain ⟨ke, lo, st, code⟩ := f
  simp only at hfl hd0 hd1 hst hrow hL hat hcd ⊢
  rw [hfl] at hL
  obtain ⟨NF, hNF⟩ : ∃ x, Hid (c.funs.length = x) := ⟨_, Lib.hid rfl⟩
  obtain ⟨NI, hNI⟩ : ∃ x, Hid (c.ints.length = x) := ⟨_, Lib.hid rfl⟩
  obtain ⟨NT, hNT⟩ : ∃ x, Hid (c.texts.length = x) := ⟨_, Lib.hid rfl⟩
  obtain ⟨LT, hLT⟩ : ∃ x, Hid (c.lets = x) := ⟨_, Lib.hid rfl⟩
  have h1 := hz.funs
  rw [hNF.out] at hn h1 HEF ⊢
  rw [hNI.out] at HEF ⊢
  rw [hNT.out] at HEF ⊢
  rw [hLT.out] at HEF ⊢
  have hMNe : (rawD (some ⟨D, ms⟩)).2.ms.length = ms.length := rfl
  obtain ⟨MN, hMN⟩ : ∃ x, Hid (ms.length = x) := ⟨_, Lib.hid rfl⟩
  rw [hMN.out] at HMS0 hl hLs
  have HL := Lib.hid hl
  have HLEN := Lib.hid len
  have HS1 := Lib.hid hS1
  have HS2 := Lib.hid hS2
  have HGD := Lib.hid gd
  have HRB0 := Lib.hid h
  have HMS := Lib.hid HMS0
  have HAA := Lib.hid hA
  have a1 := balloc w (.cells #[.slice (some ⟨fb, fo, none⟩) NF fc, .slice io NI ic, .slice to_ NT tc, .int .i64 LT] 27)
  have a2 := bnext a1 (balloc _ (.cells #[.int .i64 ke, .int .i64 lo, .int .i64 st, .slice (some ⟨cb, coff, none⟩) N cc] 49))
  have a3 := bnext a2 (balloc _ (.cells #[.int .i64 26, .int .i64 (an : Int), .int .i64 (bn : Int)] 45))
  have HX := Lib.hid (bnext a3 (balloc _ (.cells #[.bool true, .int .i64 D, .slice so MN sc] 75)))
  have m1 := (hL.keep hB hfb).keep a1 (Nat.lt_of_lt_of_le hfb hB.size)
  have m2 := (hLi.keep hB hcb).keep a2 (Nat.lt_of_lt_of_le hcb hB.size)
  have m3 := hLs.keep a3 h.lt
  have y0 : (w.alloc (.cells #[.slice (some ⟨fb, fo, none⟩) NF fc, .slice io NI ic, .slice to_ NT tc, .int .i64 LT] 27)).cell? ⟨fb, fo + n * 4, none⟩ = some (.int .i64 ke) := m1 0 _ rfl
  have y1 : (w.alloc (.cells #[.slice (some ⟨fb, fo, none⟩) NF fc, .slice io NI ic, .slice to_ NT tc, .int .i64 LT] 27)).cell? ⟨fb, fo + n * 4 + 1, none⟩ = some (.int .i64 lo) := m1 1 _ rfl
  have y2 : (w.alloc (.cells #[.slice (some ⟨fb, fo, none⟩) NF fc, .slice io NI ic, .slice to_ NT tc, .int .i64 LT] 27)).cell? ⟨fb, fo + n * 4 + 2, none⟩ = some (.int .i64 st) := m1 2 _ rfl
  have y3 : (w.alloc (.cells #[.slice (some ⟨fb, fo, none⟩) NF fc, .slice io NI ic, .slice to_ NT tc, .int .i64 LT] 27)).cell? ⟨fb, fo + n * 4 + 3, none⟩ = some (.slice (some ⟨cb, coff, none⟩) N cc) := m1 3 _ rfl
  have z0 : ((w.alloc (.cells #[.slice (some ⟨fb, fo, none⟩) NF fc, .slice io NI ic, .slice to_ NT tc, .int .i64 LT] 27)).alloc (.cells #[.int .i64 ke, .int .i64 lo, .int .i64 st, .slice (some ⟨cb, coff, none⟩) N cc] 49)).cell? ⟨cb, coff + at_ * 3, none⟩ = some (.int .i64 26) := m2 0 _ rfl
  have z1 : ((w.alloc (.cells #[.slice (some ⟨fb, fo, none⟩) NF fc, .slice io NI ic, .slice to_ NT tc, .int .i64 LT] 27)).alloc (.cells #[.int .i64 ke, .int .i64 lo, .int .i64 st, .slice (some ⟨cb, coff, none⟩) N cc] 49)).cell? ⟨cb, coff + at_ * 3 + 1, none⟩ = some (.int .i64 (an : Int)) := m2 1 _ rfl
  have z2 : ((w.alloc (.cells #[.slice (some ⟨fb, fo, none⟩) NF fc, .slice io NI ic, .slice to_ NT tc, .int .i64 LT] 27)).alloc (.cells #[.int .i64 ke, .int .i64 lo, .int .i64 st, .slice (some ⟨cb, coff, none⟩) N cc] 49)).cell? ⟨cb, coff + at_ * 3 + 2, none⟩ = some (.int .i64 (bn : Int)) := m2 2 _ rfl
  have x0 : (((w.alloc (.cells #[.slice (some ⟨fb, fo, none⟩) NF fc, .slice io NI ic, .slice to_ NT tc, .int .i64 LT] 27)).alloc (.cells #[.int .i64 ke, .int .i64 lo, .int .i64 st, .slice (some ⟨cb, coff, none⟩) N cc] 49)).alloc (.cells #[.int .i64 26, .int .i64 (an : Int), .int .i64 (bn : Int)] 45)).cell? ⟨b, at_ * 3, none⟩ = some (.bool true) := m3 0 _ rfl
  have x1 : (((w.alloc (.cells #[.slice (some ⟨fb, fo, none⟩) NF fc, .slice io NI ic, .slice to_ NT tc, .int .i64 LT] 27)).alloc (.cells #[.int .i64 ke, .int .i64 lo, .int .i64 st, .slice (some ⟨cb, coff, none⟩) N cc] 49)).alloc (.cells #[.int .i64 26, .int .i64 (an : Int), .int .i64 (bn : Int)] 45)).cell? ⟨b, at_ * 3 + 1, none⟩ = some (.int .i64 D) := m3 1 _ rfl
  have x2 : (((w.alloc (.cells #[.slice (some ⟨fb, fo, none⟩) NF fc, .slice io NI ic, .slice to_ NT tc, .int .i64 LT] 27)).alloc (.cells #[.int .i64 ke, .int .i64 lo, .int .i64 st, .slice (some ⟨cb, coff, none⟩) N cc] 49)).alloc (.cells #[.int .i64 26, .int .i64 (an : Int), .int .i64 (bn : Int)] 45)).cell? ⟨b, at_ * 3 + 2, none⟩ = some (.slice so MN sc) := m3 2 _ rfl
  have KC := ((Bk.new w #[.slice (some ⟨fb, fo, none⟩) NF fc, .slice io NI ic, .slice to_ NT tc, .int .i64 LT] 27).alloc (.cells #[.int .i64 ke, .int .i64 lo, .int .i64 st, .slice (some ⟨cb, coff, none⟩) N cc] 49)).alloc (.cells #[.int .i64 26, .int .i64 (an : Int), .int .i64 (bn : Int)] 45) |>.alloc (.cells #[.bool true, .int .i64 D, .slice so MN sc] 75)
  have KF := ((Bk.new (w.alloc (.cells #[.slice (some ⟨fb, fo, none⟩) NF fc, .slice io NI ic, .slice to_ NT tc, .int .i64 LT] 27)) #[.int .i64 ke, .int .i64 lo, .int .i64 st, .slice (some ⟨cb, coff, none⟩) N cc] 49).alloc (.cells #[.int .i64 26, .int .i64 (an : Int), .int .i64 (bn : Int)] 45)).alloc (.cells #[.bool true, .int .i64 D, .slice so MN sc] 75)
  have KI := (Bk.new ((w.alloc (.cells #[.slice (some ⟨fb, fo, none⟩) NF fc, .slice io NI ic, .slice to_ NT tc, .int .i64 LT] 27)).alloc (.cells #[.int .i64 ke, .int .i64 lo, .int .i64 st, .slice (some ⟨cb, coff, none⟩) N cc] 49)) #[.int .i64 26, .int .i64 (an : Int), .int .i64 (bn : Int)] 45).alloc (.cells #[.bool true, .int .i64 D, .slice so MN sc] 75)
  have KS := Bk.new (((w.alloc (.cells #[.slice (some ⟨fb, fo, none⟩) NF fc, .slice io NI ic, .slice to_ NT tc, .int .i64 LT] 27)).alloc (.cells #[.int .i64 ke, .int .i64 lo, .int .i64 st, .slice (some ⟨cb, coff, none⟩) N cc] 49)).alloc (.cells #[.int .i64 26, .int .i64 (an : Int), .int .i64 (bn : Int)] 45)) #[.bool true, .int .i64 D, .slice so MN sc] 75
  rw [World.size_alloc] at KF
  rw [World.size_alloc, World.size_alloc] at KI
  rw [World.size_alloc, World.size_alloc, World.size_alloc] at KS
  have KC := Lib.hid KC
  have KF := Lib.hid KF
  have KI := Lib.hid KI
  have KS := Lib.hid KS
  have i0 : (0 : Int) ≤ (n : Int) := by omega
  have i1 : (n : Int) < (NF : Int) := by omega
  have i2 : (0 : Int) ≤ (at_ : Int) := by omega
  have i3 : (at_ : Int) < (N : Int) := by omega
  have HBLT := Lib.hid h.lt
  clear h0 hcell hL hq hrow hcd hLi hLs hsr a1 a2 a3 m1 m2 m3 h hS1 hS2 gd len hA hf hi hfl hz hB hat hMNe HMS0 hn hcb hfb
  have hcs : (ms = [] ∧ MN = 0) ∨ (∃ M m, ms[M]? = some m ∧ ms.getLast? = some m ∧ MN = M + 1) := by
    by_cases h0 : ms = []
    · exact .inl ⟨h0, by rw [← hMN.out, h0]; rfl⟩
    · obtain ⟨M, hM⟩ : ∃ M, ms.length = M + 1 := ⟨ms.length - 1, by have := List.length_pos_iff.2 h0; omega⟩
      obtain ⟨m, h1, h2⟩ := last_at hM
      exact .inr ⟨M, m, h1, h2, by rw [← hMN.out, hM]⟩
  have HBS := Lib.hid (show base ⟨D, ms⟩ = base ⟨D, ms⟩ from rfl)
  obtain ⟨BS, hBS⟩ : ∃ x, Hid (base ⟨D, ms⟩ = x) := ⟨_, Lib.hid rfl⟩
  rw [hBS.out] at hbs hg2
  rcases hcs with ⟨hnil, hM0⟩ | ⟨M, m, hmM, hmL, hM1⟩
  · have hb0 : BS = 0 := by rw [← hBS.out]; exact base_nil hnil
    have HNL := Lib.hid hnil
    subst hb0 hM0
    clear hnil
    go_enter Try.func63, Try.ntmps63
    go_upto_region 4 with fail
    have hmk : True := trivial
    have hmk2 : True := trivial
    all_goals skip
    obtain ⟨UU, hUU⟩ : ∃ x : Nat, Hid (x = 0) := ⟨0, Lib.hid rfl⟩
    obtain ⟨X, hX⟩ : ∃ X, Hid (w.heap.size = X) := ⟨_, Lib.hid rfl⟩
    rw [hX.out] at KC KF KI KS
    rw [hX.out]
    generalize World.alloc (World.alloc (World.alloc (World.alloc w _) _) _) _ = W at HX KC KF KI KS ⊢
    have c0 := KC.out.cell 0 (.slice (some ⟨fb, fo, none⟩) NF fc) rfl
    have c1 := KC.out.cell 1 (.slice io NI ic) rfl
    have c2 := KC.out.cell 2 (.slice to_ NT tc) rfl
    have c3 := KC.out.cell 3 (.int .i64 LT) rfl
    have d0 := KI.out.cell 0 (.int .i64 26) rfl
    have d1 := KI.out.cell 1 (.int .i64 (an : Int)) rfl
    have d2 := KI.out.cell 2 (.int .i64 (bn : Int)) rfl
    go_wp2_with fail
    refine (HEF.out W HX.out).mono ?_
    rintro e w4 ⟨rfl, hb4⟩
    clear c0 c1 c2 c3 d0 d1 d2 HEF
    have HX4 := Lib.hid (bnext HX.out hb4)
    have HLT4 := Lib.hid (KS.out.keep hb4).lt
    replace KC := Lib.hid (KC.out.keep hb4)
    replace KF := Lib.hid (KF.out.keep hb4)
    replace KI := Lib.hid (KI.out.keep hb4)
    replace KS := Lib.hid (KS.out.keep hb4)
    clear hb4 HX
    have s1 := KS.out.cell 1 (.int .i64 D) rfl
    have s2 := KS.out.cell 2 (.slice so 0 sc) rfl
    have f2 := KF.out.cell 2 (.int .i64 st) rfl

    have HNX : Hid (X + 1 + 1 + 1 < w4.heap.size) := Lib.hid HLT4
    go_upto_region 10 with fail
    go_cut [16] from 76 to 85 (fun s16 wc => CutT w4 (D - TK + PT) ms s16 wc)
    case first =>
      have hw1 : IntKind.i64.wrap (D - TK) = D - TK := IntWalk.i64_in _ (by omega)
      have hw2 : IntKind.i64.wrap (D - TK + PT) = D - TK + PT := IntWalk.i64_in _ (by omega)
      have HKZ := Lib.hid (KS.out.alloc (.cells #[.bool false, .int .i64 0, .slice none 0 0] 75))
      have HBZ := Lib.hid ((balloc w4 (.cells #[.bool false, .int .i64 0, .slice none 0 0] 75)).trans ((bdr _).mono (balloc w4 (.cells #[.bool false, .int .i64 0, .slice none 0 0] 75)).size))
      have HTZ := Lib.hid (Bk.new w4 #[.bool false, .int .i64 0, .slice none 0 0] 75)
      have u1 := HKZ.out.cell 1 (.int .i64 D) rfl
      have u2 := HKZ.out.cell 2 (.slice so 0 sc) rfl
      go_region_held3 (fun w' => w'.cell? ⟨X + 1 + 1 + 1, 1, none⟩ = some (.int .i64 D) ∧ w'.cell? ⟨X + 1 + 1 + 1, 2, none⟩ = some (.slice so 0 sc)) (first | with_reducible exact HH6.out | with_reducible exact HH7.out | exact ⟨(HH9.out _ _ _).cell 1 _ rfl, (HH9.out _ _ _).cell 2 _ rfl⟩ | go_keep)
        (first
          | (go_at_call 73; (with_reducible refine (own_c (.slice so 0 sc) ms w4.drew S ((HMS.out.mv (Mv.low HX4.out)).row.keep (bdr _)) (Nat.le_trans HLM0.out (by decide))).mono ?_); rintro e w5 ⟨ao5, n5, cap5, rfl, ho5, hb5⟩; have HO5 := Lib.hid ho5; have HB5 := Lib.hid ((bdr w4).trans (hb5.mono (Nat.le_refl _))); have HH6 := Lib.hid (And.intro ((KS.out.keep HB5.out).cell 1 (.int .i64 D) rfl) ((KS.out.keep HB5.out).cell 2 (.slice so 0 sc) rfl)); have HH7 := Lib.hid (And.intro ((((KS.out.keep HB5.out).alloc (.cells #[.bool false, .int .i64 (D - TK + PT), .slice ao5 n5 cap5] 75))).cell 1 (.int .i64 D) rfl) ((((KS.out.keep HB5.out).alloc (.cells #[.bool false, .int .i64 (D - TK + PT), .slice ao5 n5 cap5] 75))).cell 2 (.slice so 0 sc) rfl)); have HCT : Hid (CutT w4 (D - TK + PT) ms (.pointer (some ⟨w5.heap.size, 0, none⟩)) (w5.alloc (.cells #[.bool false, .int .i64 (D - TK + PT), .slice ao5 n5 cap5] 75))) := Lib.hid ⟨_, ao5, n5, cap5, rfl, Bk.new w5 _ _, bnext HB5.out (balloc w5 _), HB5.out.size, ownR_low (HO5.out.keep (balloc w5 _)) (Nat.le_refl _) (fun _ h => h), fun g hg => by have := (HO5.out.own hg).2; omega⟩; clear ho5 hb5)
          | (go_at_call 73; (with_reducible refine (own_c (.slice so 0 sc) ms (w4.alloc (.cells #[.bool false, .int .i64 0, .slice none 0 0] 75)).drew S ((HMS.out.mv (Mv.low HX4.out)).row.keep HBZ.out) (Nat.le_trans HLM0.out (by decide))).mono ?_); rintro e w5 ⟨ao5, n5, cap5, rfl, ho5, hb5⟩; have HO5 := Lib.hid ho5; have HB5 := Lib.hid (hb5 : Below (w4.alloc (.cells #[.bool false, .int .i64 0, .slice none 0 0] 75)).heap.size _ w5); have HT5 := Lib.hid (((HTZ.out).drew).keep hb5); have HK5 := Lib.hid (((HKZ.out).drew).keep hb5); have HH6 := Lib.hid (And.intro (HK5.out.cell 1 (.int .i64 D) rfl) (HK5.out.cell 2 (.slice so 0 sc) rfl)); have HH9 := Lib.hid (fun v0 v1 v2 => ((HK5.out.other (b' := w4.heap.size) (Nat.ne_of_lt HNX.out) 0 v0).other (b' := w4.heap.size) (Nat.ne_of_lt HNX.out) 1 v1).other (b' := w4.heap.size) (Nat.ne_of_lt HNX.out) 2 v2); have q0 := HT5.out.cell 0 (.bool false) rfl; have q1 := HT5.out.cell 1 (.int .i64 0) rfl; have q2 := HT5.out.cell 2 (.slice none 0 0) rfl; have p0 := HT5.out.free 0; have p1 := HT5.out.free 1; have p2 := HT5.out.free 2; have p3 := HT5.out.lt; have HCT : Hid (CutT w4 (D - TK + PT) ms (.pointer (some ⟨w4.heap.size, 0, none⟩)) (((w5.setCell ⟨w4.heap.size, 0, none⟩ (.bool false)).setCell ⟨w4.heap.size, 1, none⟩ (.int .i64 (D - TK + PT))).setCell ⟨w4.heap.size, 2, none⟩ (.slice ao5 n5 cap5))) := Lib.hid (cutT_set HT5.out (HBZ.out.trans (hb5.mono (balloc w4 (.cells #[.bool false, .int .i64 0, .slice none 0 0] 75)).size)) HO5.out); clear ho5 hb5))
      all_goals
        go_wp2_with fail
        go_meet
        case rel => exact HCT.out
    case rest =>
    obtain ⟨T, ao5, n5, cap5, rfl, KT0, bb, hTb, HO60, hgT⟩ := hcut
    have KT := Lib.hid KT0
    have HX6 := Lib.hid (bnext HX4.out bb)
    have HRB6 := Lib.hid ((HRB0.out.keep HX4.out).keep bb)
    have HMS6 := Lib.hid ((HMS.out.mv (Mv.low HX4.out)).mv (Mv.low bb))
    have HO6 := Lib.hid HO60
    have HMT := Lib.hid ((RowM.own HO6.out (fun b h => h.elim)).mv (Mv.weak _ fun y hy _ => HS2.out y (Nat.le_trans HX4.out.size hy)))
    replace KF := Lib.hid (KF.out.keep bb)
    replace KI := Lib.hid (KI.out.keep bb)
    replace KS := Lib.hid (KS.out.keep bb)
    have HXS : Hid (w.heap.size = X ∧ X + 1 + 1 + 1 < w4.heap.size) := Lib.hid ⟨hX.out, HNX.out⟩
    have HTL := Lib.hid KT0.lt
    have HGT := Lib.hid hgT
    clear KT0 bb HO60 hgT s1 s2 f2
    have HBT : Hid (b ≠ T ∧ b < wc.heap.size ∧ b ≠ X + 1 ∧ b ≠ X + 1 + 1 ∧ b ≠ X + 1 + 1 + 1 ∧ w4.heap.size ≤ T) := Lib.hid (by have := HBLT.out; have := HXS.out; have := HTL.out; omega)
    have HS26 : Hid (∀ y, wc.heap.size ≤ y → S y) := Lib.hid (fun y hy => HS2.out y (Nat.le_trans HX6.out.size hy))
    have t0 := KT.out.cell 0 (.bool false) rfl
    have t1 := KT.out.cell 1 (.int .i64 (D - TK + PT)) rfl
    have t2 := KT.out.cell 2 (.slice ao5 n5 cap5) rfl
    have d0 := KI.out.cell 0 (.int .i64 26) rfl
    have d1 := KI.out.cell 1 (.int .i64 (an : Int)) rfl
    have d2 := KI.out.cell 2 (.int .i64 (bn : Int)) rfl
    have s0 := KS.out.cell 0 (.bool true) rfl
    have s1 := KS.out.cell 1 (.int .i64 D) rfl
    have s2 := KS.out.cell 2 (.slice so 0 sc) rfl
    have f2 := KF.out.cell 2 (.int .i64 st) rfl
    have hmv7 : Mv w wc S (fun y => S y ∧ (y < w4.heap.size ∨ wc.heap.size ≤ y)) := ⟨HX6.out.size, fun y hy lt => ⟨⟨hy, .inl (Nat.lt_of_lt_of_le lt HX4.out.size)⟩, HX6.out.block y lt⟩⟩
    have HRB7S := Lib.hid (HRB0.out.mv hmv7 (HX6.out.block b HBLT.out))
    have HMS7 := Lib.hid (HMS.out.mv hmv7)
    have HNO7 : Hid (∀ y, ((fun y => S y ∧ (y < w4.heap.size ∨ wc.heap.size ≤ y))) y → y ≠ T ∧ (Value.slice ao5 n5 cap5).ownBlock ≠ some y) := Lib.hid (fun y hy => ⟨fun e => by have := HTL.out; have := HBT.out.2.2.2.2.2; rcases hy.2 with h | h <;> omega, fun e => by have := HO6.out.own e; rcases hy.2 with h | h <;> omega⟩)
    have HVB : Hid ((Value.slice ao5 n5 cap5).ownBlock ≠ some b) := Lib.hid (fun e => by have := (HO6.out.own e).1; have := HBLT.out; have := HX4.out.size; omega)
    clear hmv7
    go_wp2_with fail
    go_loopg [21] 0 (fun g jv wr => ∃ i : Nat, i + g = 0 ∧ jv = .int .i64 (i : Int) ∧ wc = wr ∧ Hid ((ms.take i).any (fun m => m.kind == 26) = false))
    case atStart => exact ⟨0, Nat.zero_add _, rfl, rfl, Lib.hid rfl⟩
    case round =>
      obtain ⟨i, hin, rfl, rfl, HE⟩ := hrel
      by_cases hlt : i < 0
      · exact absurd hlt (by omega)
      · have HGO1 : Hid (goes c n ⟨ke, lo, st, code⟩ at_ ⟨D, ms⟩ = some [(at_ + 1, ⟨D - TK + PT, ms ++ [⟨26, D⟩]⟩)]) := Lib.hid (by
          have := HE.out
          rw [List.take_of_length_le (by rw [hMN.out]; omega)] at this
          rw [HGO.out, if_neg (by rw [this]; simp)])
        have KTW := KT
        have KFW := KF
        have KIW := KI
        have KSW := KS
        have HOW := HO6
        have HTLW := HTL
        have HRBW := HRB7S
        clear d0 d1 d2 s0 s1 t0 t1 t2 f2
        have HOA := Lib.hid (HOW.out.keep (balloc wc (.cells #[.int .i64 26, .int .i64 D] 108)))
        have HRN : Hid (RowR TD (wc.alloc (.cells #[.int .i64 26, .int .i64 D] 108)) (fun b => False ∧ (Value.slice ao5 n5 cap5).ownBlock ≠ some b) (.slice (some ⟨wc.heap.size, 0, none⟩) 1 1) [⟨26, D⟩]) := Lib.hid (rowR_new (q := []) #[.int .i64 26, .int .i64 D] 108 rfl rfl)
        have HLN : Hid (ms.length + [(⟨26, D⟩ : Mk)].length ≤ 100000000000) := Lib.hid (by have := HLM0.out; simp; omega)
        have HBS8 : Hid (w4.heap.size ≤ (wc.alloc (.cells #[.int .i64 26, .int .i64 D] 108)).heap.size) := Lib.hid (by have := HTLW.out; have := HBT.out.2.2.2.2.2; simp; omega)
        have KT8 := Lib.hid (KTW.out.alloc (.cells #[.int .i64 26, .int .i64 D] 108))
        have KF8 := Lib.hid (KFW.out.alloc (.cells #[.int .i64 26, .int .i64 D] 108))
        have t0 := KTW.out.cell 0 (.bool false) rfl
        have t1 := KTW.out.cell 1 (.int .i64 (D - TK + PT)) rfl
        have t2 := KTW.out.cell 2 (Value.slice ao5 n5 cap5) rfl
        have d0 := KIW.out.cell 0 (.int .i64 26) rfl
        have s1 := KSW.out.cell 1 (.int .i64 D) rfl
        have f2 := KFW.out.cell 2 (.int .i64 st) rfl
        have hXT : ¬ X + 1 = T := by have := HXS.out; have := HBT.out.2.2.2.2.2; omega
        have hTX : ¬ T = X + 1 := fun e => hXT e.symm
        go_wp2_with (refine wpList_row TD (wc.alloc (.cells #[.int .i64 26, .int .i64 D] 108)) rfl (.tmp 176) (.tmp 182) rfl w4.heap.size (fun _ => False) (Value.slice ao5 n5 cap5) (.slice (some ⟨wc.heap.size, 0, none⟩) 1 1) ms [⟨26, D⟩] rfl rfl HOA.out HRN.out HLN.out HBS8.out ?_; intro ao9 n9 cap9 w9 hO9 hn9 hg9 ha9; clear hn9; have HO9 := Lib.hid hO9; have HG9 := Lib.hid hg9; have HA9 := Lib.hid ha9; have HT9 := Lib.hid (KT8.out.grown hg9 (fun e => (HGT.out T e) rfl)); have HF9 := Lib.hid (KF8.out.grown hg9 (fun e => by have := (HO6.out.own e).1; have := HXS.out; omega)); have r2 := HT9.out.cell 2 (Value.slice ao5 n5 cap5) rfl; have p2 := HT9.out.free 2; have p3 := HT9.out.lt; have v0 := HT9.out.cell 0 (.bool false) rfl; have v1 := HT9.out.cell 1 (.int .i64 (D - TK + PT)) rfl; have v2 := HF9.out.cell 2 (.int .i64 st) rfl; clear hO9 hg9 ha9)
        have KT10 := Lib.hid (HT9.out.set 2 (.slice ao9 n9 cap9))
        have KF10 := Lib.hid (HF9.out.other (show X + 1 ≠ T by have := HXS.out; have := HBT.out.2.2.2.2.2; omega) 2 (.slice ao9 n9 cap9))
        have HRB10 := Lib.hid (app_rb (S := S) (u := .slice ao9 n9 cap9) HRBW.out HG9.out (fun y hy => hy.1) HNO7.out HBT.out.1 HVB.out)
        have HOT9 : Hid ((Value.slice ao9 n9 cap9).ownBlock ≠ some T) := Lib.hid (fun e => by
          rcases HA9.out with h | h
          · rw [h] at e; exact (HGT.out T e) rfl
          · rw [h] at e; injection e with e; have := HTLW.out; simp at e; omega)
        have HMT10 := Lib.hid (app_rm (S := S) (u := .slice ao9 n9 cap9) HO9.out HOT9.out (fun y hy => HS2.out y (Nat.le_trans HX4.out.size hy)))
        have HFB10 := Lib.hid ((Bo.of HX6.out).trans (app_bo (B := w.heap.size) (b := b) (T := T) (u := .slice ao9 n9 cap9) HG9.out (fun g hg => Nat.le_trans HX4.out.size (HO6.out.own hg).1) (Nat.le_trans HX4.out.size HBT.out.2.2.2.2.2) HX6.out.size))
        have HSZ10 : Hid (w4.heap.size ≤ (w9.setCell ⟨T, 2, none⟩ (.slice ao9 n9 cap9)).heap.size) := Lib.hid (by have := HBS8.out; have := HG9.out.size; simp at this ⊢; omega)
        clear t0 t1 t2 d0 s1 r2 p2 p3 v0 v1 v2 f2
        generalize World.setCell w9 _ _ = w10 at KT10 KF10 HRB10 HMT10 HFB10 HSZ10 ⊢
        have HS210 : Hid (∀ y, w10.heap.size ≤ y → S y) := Lib.hid (fun y hy => HS2.out y (Nat.le_trans HX4.out.size (Nat.le_trans HSZ10.out hy)))
        have t0 := KT10.out.cell 0 (.bool false) rfl
        have t1 := KT10.out.cell 1 (.int .i64 (D - TK + PT)) rfl
        have t2 := KT10.out.cell 2 (.slice ao9 n9 cap9) rfl
        have f2 := KF10.out.cell 2 (.int .i64 st) rfl
        refine (hand_c w10 b N st S A (at_ + 1, ⟨D - TK + PT, ms ++ [⟨26, D⟩]⟩) false (.slice ao9 n9 cap9) _ (show ((at_ : Int) + 1) = ((at_ + 1 : Nat) : Int) by omega) HRB10.out HLEN.out HMT10.out HS1.out HS210.out (by have := HLM0.out; simp; omega) (fun a s e => Nat.le_trans (HGD.out a s e) (by decide))).mono ?_
        rintro e w9 hres
        have HRES := Lib.hid (sone HGO1.out HFB10.out hres)
        rcases hres with ⟨A9, _, rfl, _, _⟩ | ⟨_, rfl, _⟩
        · go_wp2_with fail
          go_ret
          exact HRES.out
        · go_wp2_with fail
          go_ret
          exact HRES.out

  · have hb0 : BS = m.dep := by rw [← hBS.out]; exact base_last hmL
    subst hb0 hM1
    have hne : ms ≠ [] := by intro e; rw [e] at hmM; simp at hmM
    obtain ⟨mb, mo, mc, hmv, _, hmb, hmc⟩ := HMS.out.row.open_ hne
    rw [hMN.out] at hmv
    cases hmv
    obtain ⟨qm, hLm, _⟩ := hmc M m hmM
    have HLM := Lib.hid hLm
    have HNE := Lib.hid hne
    have HLAST := Lib.hid hmL
    have HMC := Lib.hid hmc
    have HMM := Lib.hid hmM
    have HMB := Lib.hid hmb
    clear hmc hmM hmL hne hLm hmb
    go_enter Try.func63, Try.ntmps63
    go_upto_region 4 with fail
    obtain ⟨X, hX⟩ : ∃ X, Hid (w.heap.size = X) := ⟨_, Lib.hid rfl⟩
    rw [hX.out] at KC KF KI KS
    rw [hX.out]
    generalize World.alloc (World.alloc (World.alloc (World.alloc w _) _) _) _ = W at HX KC KF KI KS ⊢
    have c0 := KC.out.cell 0 (.slice (some ⟨fb, fo, none⟩) NF fc) rfl
    have c1 := KC.out.cell 1 (.slice io NI ic) rfl
    have c2 := KC.out.cell 2 (.slice to_ NT tc) rfl
    have c3 := KC.out.cell 3 (.int .i64 LT) rfl
    have d0 := KI.out.cell 0 (.int .i64 26) rfl
    have d1 := KI.out.cell 1 (.int .i64 (an : Int)) rfl
    have d2 := KI.out.cell 2 (.int .i64 (bn : Int)) rfl
    go_wp2_with fail
    refine (HEF.out W HX.out).mono ?_
    rintro e w4 ⟨rfl, hb4⟩
    clear c0 c1 c2 c3 d0 d1 d2 HEF
    have HX4 := Lib.hid (bnext HX.out hb4)
    have HLT4 := Lib.hid (KS.out.keep hb4).lt
    replace KC := Lib.hid (KC.out.keep hb4)
    replace KF := Lib.hid (KF.out.keep hb4)
    replace KI := Lib.hid (KI.out.keep hb4)
    replace KS := Lib.hid (KS.out.keep hb4)
    clear hb4 HX
    have s1 := KS.out.cell 1 (.int .i64 D) rfl
    have s2 := KS.out.cell 2 (.slice (some ⟨mb, mo, none⟩) (M + 1) sc) rfl
    have f2 := KF.out.cell 2 (.int .i64 st) rfl
    have w0 : w4.cell? ⟨mb, mo + M * 2 + 1, none⟩ = some (.int .i64 m.dep) := (HX4.out.cell (p := ⟨mb, mo + M * 2 + 1, none⟩) HMB.out).trans (HLM.out 1 _ rfl)
    have j0 : (0 : Int) ≤ (M : Int) := by omega
    have j1 : (M : Int) < (M : Int) + 1 := by omega

    have HNX : Hid (X + 1 + 1 + 1 < w4.heap.size) := Lib.hid HLT4
    go_upto_region 10 with fail
    go_cut [16] from 76 to 85 (fun s16 wc => CutT w4 (D - TK + PT) ms s16 wc)
    case first =>
      have hw1 : IntKind.i64.wrap (D - TK) = D - TK := IntWalk.i64_in _ (by omega)
      have hw2 : IntKind.i64.wrap (D - TK + PT) = D - TK + PT := IntWalk.i64_in _ (by omega)
      have HKZ := Lib.hid (KS.out.alloc (.cells #[.bool false, .int .i64 0, .slice none 0 0] 75))
      have HBZ := Lib.hid ((balloc w4 (.cells #[.bool false, .int .i64 0, .slice none 0 0] 75)).trans ((bdr _).mono (balloc w4 (.cells #[.bool false, .int .i64 0, .slice none 0 0] 75)).size))
      have HTZ := Lib.hid (Bk.new w4 #[.bool false, .int .i64 0, .slice none 0 0] 75)
      have u1 := HKZ.out.cell 1 (.int .i64 D) rfl
      have u2 := HKZ.out.cell 2 (.slice (some ⟨mb, mo, none⟩) (M + 1) sc) rfl
      go_region_held3 (fun w' => w'.cell? ⟨X + 1 + 1 + 1, 1, none⟩ = some (.int .i64 D) ∧ w'.cell? ⟨X + 1 + 1 + 1, 2, none⟩ = some (.slice (some ⟨mb, mo, none⟩) (M + 1) sc)) (first | with_reducible exact HH6.out | with_reducible exact HH7.out | exact ⟨(HH9.out _ _ _).cell 1 _ rfl, (HH9.out _ _ _).cell 2 _ rfl⟩ | go_keep)
        (first
          | (go_at_call 73; (with_reducible refine (own_c (.slice (some ⟨mb, mo, none⟩) (M + 1) sc) ms w4.drew S ((HMS.out.mv (Mv.low HX4.out)).row.keep (bdr _)) (Nat.le_trans HLM0.out (by decide))).mono ?_); rintro e w5 ⟨ao5, n5, cap5, rfl, ho5, hb5⟩; have HO5 := Lib.hid ho5; have HB5 := Lib.hid ((bdr w4).trans (hb5.mono (Nat.le_refl _))); have HH6 := Lib.hid (And.intro ((KS.out.keep HB5.out).cell 1 (.int .i64 D) rfl) ((KS.out.keep HB5.out).cell 2 (.slice (some ⟨mb, mo, none⟩) (M + 1) sc) rfl)); have HH7 := Lib.hid (And.intro ((((KS.out.keep HB5.out).alloc (.cells #[.bool false, .int .i64 (D - TK + PT), .slice ao5 n5 cap5] 75))).cell 1 (.int .i64 D) rfl) ((((KS.out.keep HB5.out).alloc (.cells #[.bool false, .int .i64 (D - TK + PT), .slice ao5 n5 cap5] 75))).cell 2 (.slice (some ⟨mb, mo, none⟩) (M + 1) sc) rfl)); have HCT : Hid (CutT w4 (D - TK + PT) ms (.pointer (some ⟨w5.heap.size, 0, none⟩)) (w5.alloc (.cells #[.bool false, .int .i64 (D - TK + PT), .slice ao5 n5 cap5] 75))) := Lib.hid ⟨_, ao5, n5, cap5, rfl, Bk.new w5 _ _, bnext HB5.out (balloc w5 _), HB5.out.size, ownR_low (HO5.out.keep (balloc w5 _)) (Nat.le_refl _) (fun _ h => h), fun g hg => by have := (HO5.out.own hg).2; omega⟩; clear ho5 hb5)
          | (go_at_call 73; (with_reducible refine (own_c (.slice (some ⟨mb, mo, none⟩) (M + 1) sc) ms (w4.alloc (.cells #[.bool false, .int .i64 0, .slice none 0 0] 75)).drew S ((HMS.out.mv (Mv.low HX4.out)).row.keep HBZ.out) (Nat.le_trans HLM0.out (by decide))).mono ?_); rintro e w5 ⟨ao5, n5, cap5, rfl, ho5, hb5⟩; have HO5 := Lib.hid ho5; have HB5 := Lib.hid (hb5 : Below (w4.alloc (.cells #[.bool false, .int .i64 0, .slice none 0 0] 75)).heap.size _ w5); have HT5 := Lib.hid (((HTZ.out).drew).keep hb5); have HK5 := Lib.hid (((HKZ.out).drew).keep hb5); have HH6 := Lib.hid (And.intro (HK5.out.cell 1 (.int .i64 D) rfl) (HK5.out.cell 2 (.slice (some ⟨mb, mo, none⟩) (M + 1) sc) rfl)); have HH9 := Lib.hid (fun v0 v1 v2 => ((HK5.out.other (b' := w4.heap.size) (Nat.ne_of_lt HNX.out) 0 v0).other (b' := w4.heap.size) (Nat.ne_of_lt HNX.out) 1 v1).other (b' := w4.heap.size) (Nat.ne_of_lt HNX.out) 2 v2); have q0 := HT5.out.cell 0 (.bool false) rfl; have q1 := HT5.out.cell 1 (.int .i64 0) rfl; have q2 := HT5.out.cell 2 (.slice none 0 0) rfl; have p0 := HT5.out.free 0; have p1 := HT5.out.free 1; have p2 := HT5.out.free 2; have p3 := HT5.out.lt; have HCT : Hid (CutT w4 (D - TK + PT) ms (.pointer (some ⟨w4.heap.size, 0, none⟩)) (((w5.setCell ⟨w4.heap.size, 0, none⟩ (.bool false)).setCell ⟨w4.heap.size, 1, none⟩ (.int .i64 (D - TK + PT))).setCell ⟨w4.heap.size, 2, none⟩ (.slice ao5 n5 cap5))) := Lib.hid (cutT_set HT5.out (HBZ.out.trans (hb5.mono (balloc w4 (.cells #[.bool false, .int .i64 0, .slice none 0 0] 75)).size)) HO5.out); clear ho5 hb5))
      all_goals
        go_wp2_with fail
        go_meet
        case rel => exact HCT.out
    case rest =>
    obtain ⟨T, ao5, n5, cap5, rfl, KT0, bb, hTb, HO60, hgT⟩ := hcut
    have KT := Lib.hid KT0
    have HX6 := Lib.hid (bnext HX4.out bb)
    have HRB6 := Lib.hid ((HRB0.out.keep HX4.out).keep bb)
    have HMS6 := Lib.hid ((HMS.out.mv (Mv.low HX4.out)).mv (Mv.low bb))
    have HO6 := Lib.hid HO60
    have HMT := Lib.hid ((RowM.own HO6.out (fun b h => h.elim)).mv (Mv.weak _ fun y hy _ => HS2.out y (Nat.le_trans HX4.out.size hy)))
    replace KF := Lib.hid (KF.out.keep bb)
    replace KI := Lib.hid (KI.out.keep bb)
    replace KS := Lib.hid (KS.out.keep bb)
    have HXS : Hid (w.heap.size = X ∧ X + 1 + 1 + 1 < w4.heap.size) := Lib.hid ⟨hX.out, HNX.out⟩
    have HTL := Lib.hid KT0.lt
    have HGT := Lib.hid hgT
    clear KT0 bb HO60 hgT s1 s2 f2
    have HBT : Hid (b ≠ T ∧ b < wc.heap.size ∧ b ≠ X + 1 ∧ b ≠ X + 1 + 1 ∧ b ≠ X + 1 + 1 + 1 ∧ w4.heap.size ≤ T) := Lib.hid (by have := HBLT.out; have := HXS.out; have := HTL.out; omega)
    have HS26 : Hid (∀ y, wc.heap.size ≤ y → S y) := Lib.hid (fun y hy => HS2.out y (Nat.le_trans HX6.out.size hy))
    have t0 := KT.out.cell 0 (.bool false) rfl
    have t1 := KT.out.cell 1 (.int .i64 (D - TK + PT)) rfl
    have t2 := KT.out.cell 2 (.slice ao5 n5 cap5) rfl
    have d0 := KI.out.cell 0 (.int .i64 26) rfl
    have d1 := KI.out.cell 1 (.int .i64 (an : Int)) rfl
    have d2 := KI.out.cell 2 (.int .i64 (bn : Int)) rfl
    have s0 := KS.out.cell 0 (.bool true) rfl
    have s1 := KS.out.cell 1 (.int .i64 D) rfl
    have s2 := KS.out.cell 2 (.slice (some ⟨mb, mo, none⟩) (M + 1) sc) rfl
    have f2 := KF.out.cell 2 (.int .i64 st) rfl
    have hmv7 : Mv w wc S (fun y => S y ∧ (y < w4.heap.size ∨ wc.heap.size ≤ y)) := ⟨HX6.out.size, fun y hy lt => ⟨⟨hy, .inl (Nat.lt_of_lt_of_le lt HX4.out.size)⟩, HX6.out.block y lt⟩⟩
    have HRB7S := Lib.hid (HRB0.out.mv hmv7 (HX6.out.block b HBLT.out))
    have HMS7 := Lib.hid (HMS.out.mv hmv7)
    have HNO7 : Hid (∀ y, ((fun y => S y ∧ (y < w4.heap.size ∨ wc.heap.size ≤ y))) y → y ≠ T ∧ (Value.slice ao5 n5 cap5).ownBlock ≠ some y) := Lib.hid (fun y hy => ⟨fun e => by have := HTL.out; have := HBT.out.2.2.2.2.2; rcases hy.2 with h | h <;> omega, fun e => by have := HO6.out.own e; rcases hy.2 with h | h <;> omega⟩)
    have HVB : Hid ((Value.slice ao5 n5 cap5).ownBlock ≠ some b) := Lib.hid (fun e => by have := (HO6.out.own e).1; have := HBLT.out; have := HX4.out.size; omega)
    clear hmv7
    go_wp2_with fail
    go_loopg [21] (M + 1) (fun g jv wr => ∃ i : Nat, i + g = (M + 1) ∧ jv = .int .i64 (i : Int) ∧ wc = wr ∧ Hid ((ms.take i).any (fun m => m.kind == 26) = false))
    case atStart => exact ⟨0, Nat.zero_add _, rfl, rfl, Lib.hid rfl⟩
    case round =>
      obtain ⟨i, hin, rfl, rfl, HE⟩ := hrel
      by_cases hlt : i < (M + 1)
      · obtain ⟨g, rfl⟩ : ∃ g, gk = g + 1 := ⟨gk - 1, by omega⟩
        obtain ⟨mi, hmi⟩ := getElem?_of_lt (l := ms) (k := i) (by rw [hMN.out]; exact hlt)
        obtain ⟨qi, hLi, _⟩ := HMC.out i mi hmi
        have w1 : wc.cell? ⟨mb, mo + i * 2, none⟩ = some (.int .i64 mi.kind) := (HX6.out.cell (p := ⟨mb, mo + i * 2, none⟩) HMB.out).trans (hLi 0 _ rfl)
        have i4 : (0 : Int) ≤ (i : Int) := by omega
        have i5 : (i : Int) < (M : Int) + 1 := by omega
        have HMI := Lib.hid hmi
        clear hLi hmi
        cases hk : (mi.kind == 26)
        · have HEN := Lib.hid (any_take HMI.out hk HE.out)
          clear HE
          go_wp2_with fail
          go_roundg g
          case rel => exact ⟨i + 1, by omega, by go_num, rfl, HEN⟩
          case measure => omega
        · have HANY : Hid (ms.any (fun m => m.kind == 26) = true) := Lib.hid (List.any_eq_true.2 ⟨mi, List.mem_of_getElem? HMI.out, hk⟩)
          have HRES := Lib.hid (show StepRes st (goes c n ⟨ke, lo, st, code⟩ at_ ⟨D, ms⟩) A S b w (.returned (.bool false)) wc from .inr ⟨.inl (by rw [HGO.out, if_pos HANY.out]), rfl, Bo.of HX6.out⟩)
          go_wp2_with fail
          go_ret
          exact HRES.out
      · have HGO1 : Hid (goes c n ⟨ke, lo, st, code⟩ at_ ⟨D, ms⟩ = some [(at_ + 1, ⟨D - TK + PT, ms ++ [⟨26, D⟩]⟩)]) := Lib.hid (by
          have := HE.out
          rw [List.take_of_length_le (by rw [hMN.out]; omega)] at this
          rw [HGO.out, if_neg (by rw [this]; simp)])
        have KTW := KT
        have KFW := KF
        have KIW := KI
        have KSW := KS
        have HOW := HO6
        have HTLW := HTL
        have HRBW := HRB7S
        clear d0 d1 d2 s0 s1 t0 t1 t2 f2
        have HOA := Lib.hid (HOW.out.keep (balloc wc (.cells #[.int .i64 26, .int .i64 D] 108)))
        have HRN : Hid (RowR TD (wc.alloc (.cells #[.int .i64 26, .int .i64 D] 108)) (fun b => False ∧ (Value.slice ao5 n5 cap5).ownBlock ≠ some b) (.slice (some ⟨wc.heap.size, 0, none⟩) 1 1) [⟨26, D⟩]) := Lib.hid (rowR_new (q := []) #[.int .i64 26, .int .i64 D] 108 rfl rfl)
        have HLN : Hid (ms.length + [(⟨26, D⟩ : Mk)].length ≤ 100000000000) := Lib.hid (by have := HLM0.out; simp; omega)
        have HBS8 : Hid (w4.heap.size ≤ (wc.alloc (.cells #[.int .i64 26, .int .i64 D] 108)).heap.size) := Lib.hid (by have := HTLW.out; have := HBT.out.2.2.2.2.2; simp; omega)
        have KT8 := Lib.hid (KTW.out.alloc (.cells #[.int .i64 26, .int .i64 D] 108))
        have KF8 := Lib.hid (KFW.out.alloc (.cells #[.int .i64 26, .int .i64 D] 108))
        have t0 := KTW.out.cell 0 (.bool false) rfl
        have t1 := KTW.out.cell 1 (.int .i64 (D - TK + PT)) rfl
        have t2 := KTW.out.cell 2 (Value.slice ao5 n5 cap5) rfl
        have d0 := KIW.out.cell 0 (.int .i64 26) rfl
        have s1 := KSW.out.cell 1 (.int .i64 D) rfl
        have f2 := KFW.out.cell 2 (.int .i64 st) rfl
        have hXT : ¬ X + 1 = T := by have := HXS.out; have := HBT.out.2.2.2.2.2; omega
        have hTX : ¬ T = X + 1 := fun e => hXT e.symm
        go_wp2_with (refine wpList_row TD (wc.alloc (.cells #[.int .i64 26, .int .i64 D] 108)) rfl (.tmp 176) (.tmp 182) rfl w4.heap.size (fun _ => False) (Value.slice ao5 n5 cap5) (.slice (some ⟨wc.heap.size, 0, none⟩) 1 1) ms [⟨26, D⟩] rfl rfl HOA.out HRN.out HLN.out HBS8.out ?_; intro ao9 n9 cap9 w9 hO9 hn9 hg9 ha9; clear hn9; have HO9 := Lib.hid hO9; have HG9 := Lib.hid hg9; have HA9 := Lib.hid ha9; have HT9 := Lib.hid (KT8.out.grown hg9 (fun e => (HGT.out T e) rfl)); have HF9 := Lib.hid (KF8.out.grown hg9 (fun e => by have := (HO6.out.own e).1; have := HXS.out; omega)); have r2 := HT9.out.cell 2 (Value.slice ao5 n5 cap5) rfl; have p2 := HT9.out.free 2; have p3 := HT9.out.lt; have v0 := HT9.out.cell 0 (.bool false) rfl; have v1 := HT9.out.cell 1 (.int .i64 (D - TK + PT)) rfl; have v2 := HF9.out.cell 2 (.int .i64 st) rfl; clear hO9 hg9 ha9)
        have KT10 := Lib.hid (HT9.out.set 2 (.slice ao9 n9 cap9))
        have KF10 := Lib.hid (HF9.out.other (show X + 1 ≠ T by have := HXS.out; have := HBT.out.2.2.2.2.2; omega) 2 (.slice ao9 n9 cap9))
        have HRB10 := Lib.hid (app_rb (S := S) (u := .slice ao9 n9 cap9) HRBW.out HG9.out (fun y hy => hy.1) HNO7.out HBT.out.1 HVB.out)
        have HOT9 : Hid ((Value.slice ao9 n9 cap9).ownBlock ≠ some T) := Lib.hid (fun e => by
          rcases HA9.out with h | h
          · rw [h] at e; exact (HGT.out T e) rfl
          · rw [h] at e; injection e with e; have := HTLW.out; simp at e; omega)
        have HMT10 := Lib.hid (app_rm (S := S) (u := .slice ao9 n9 cap9) HO9.out HOT9.out (fun y hy => HS2.out y (Nat.le_trans HX4.out.size hy)))
        have HFB10 := Lib.hid ((Bo.of HX6.out).trans (app_bo (B := w.heap.size) (b := b) (T := T) (u := .slice ao9 n9 cap9) HG9.out (fun g hg => Nat.le_trans HX4.out.size (HO6.out.own hg).1) (Nat.le_trans HX4.out.size HBT.out.2.2.2.2.2) HX6.out.size))
        have HSZ10 : Hid (w4.heap.size ≤ (w9.setCell ⟨T, 2, none⟩ (.slice ao9 n9 cap9)).heap.size) := Lib.hid (by have := HBS8.out; have := HG9.out.size; simp at this ⊢; omega)
        clear t0 t1 t2 d0 s1 r2 p2 p3 v0 v1 v2 f2
        generalize World.setCell w9 _ _ = w10 at KT10 KF10 HRB10 HMT10 HFB10 HSZ10 ⊢
        have HS210 : Hid (∀ y, w10.heap.size ≤ y → S y) := Lib.hid (fun y hy => HS2.out y (Nat.le_trans HX4.out.size (Nat.le_trans HSZ10.out hy)))
        have t0 := KT10.out.cell 0 (.bool false) rfl
        have t1 := KT10.out.cell 1 (.int .i64 (D - TK + PT)) rfl
        have t2 := KT10.out.cell 2 (.slice ao9 n9 cap9) rfl
        have f2 := KF10.out.cell 2 (.int .i64 st) rfl
        refine (hand_c w10 b N st S A (at_ + 1, ⟨D - TK + PT, ms ++ [⟨26, D⟩]⟩) false (.slice ao9 n9 cap9) _ (show ((at_ : Int) + 1) = ((at_ + 1 : Nat) : Int) by omega) HRB10.out HLEN.out HMT10.out HS1.out HS210.out (by have := HLM0.out; simp; omega) (fun a s e => Nat.le_trans (HGD.out a s e) (by decide))).mono ?_
        rintro e w9 hres
        have HRES := Lib.hid (sone HGO1.out HFB10.out hres)
        rcases hres with ⟨A9, _, rfl, _, _⟩ | ⟨_, rfl, _⟩
        · go_wp2_with fail
          go_ret
          exact HRES.out
        · go_wp2_with fail
          go_ret
          exact HRES.out

end Go.Proofs.Ytkhdkepjhifffaa.VI
