/- Bytes read as a code, by the program: the walk of Decode. -/
import Derived.Test.YtpommjmlenfknaaQK
namespace Go.Proofs.Ytpommjmlenfknaa.QL
open Go.RowKit Go.Proofs.Ytpommjmlenfknaa.RG Go.Proofs.Ytpommjmlenfknaa.KA Go.Proofs.Ytpommjmlenfknaa.KB Go.Proofs.Ytpommjmlenfknaa.KD Go.Proofs.Ytpommjmlenfknaa.KH Go.Proofs.Ytpommjmlenfknaa.PC Go.Proofs.Ytpommjmlenfknaa.PE Go.Proofs.Ytpommjmlenfknaa.PL Go.Proofs.Ytpommjmlenfknaa.QA Go.Proofs.Ytpommjmlenfknaa.QB Go.Proofs.Ytpommjmlenfknaa.QC Go.Proofs.Ytpommjmlenfknaa.QE Go.Proofs.Ytpommjmlenfknaa.QF Go.Proofs.Ytpommjmlenfknaa.QG Go.Proofs.Ytpommjmlenfknaa.QH Go.Proofs.Ytpommjmlenfknaa.QI Go.Proofs.Ytpommjmlenfknaa.QJ Go.Proofs.Ytpommjmlenfknaa.QK
set_option linter.unusedVariables false
set_option maxRecDepth 100000
set_option maxRecDepth 100000

/-- What a decoder answers: a code of the call's own, or the zero code and 31. -/
def DecRes (o : Option Cd) (w : World) (e : Ending) (w' : World) : Prop :=
  Below w.heap.size w w' ∧ ((∃ c fv iv tv, o = some c ∧ e = .returned (.tuple #[.agg #[fv, iv, tv, .int .i64 c.lets], .int .i64 0]) ∧ HasO w' w.heap.size c fv iv tv) ∨ (o = none ∧ e = .returned (.tuple #[.agg #[.slice none 0 0, .slice none 0 0, .slice none 0 0, .int .i64 0], .int .i64 31])))
theorem many_all {α : Type} {p : St → α × St} : ∀ (n : Nat) (s : St) (x : α), x ∈ (many p n s).1 → ∃ s', x = (p s').1
  | 0, _, x, h => by cases h
  | n + 1, s, x, h => by
    rcases List.mem_cons.1 (show x ∈ (p s).1 :: (many p n (p s).2).1 from h) with h | h
    · exact ⟨s, h⟩
    · exact many_all n _ x h
theorem listP_len {α : Type} (size most : Nat) (p : St → α × St) (s : St) : (listP size most p s).1.length ≤ most + 1 := by
  unfold listP
  rw [many_len]
  omega
theorem code_sizes (s : St) : (codeP s).1.funs.length ≤ 121 ∧ (codeP s).1.ints.length ≤ 121 ∧ (codeP s).1.texts.length ≤ 121 ∧ ∀ f, f ∈ (codeP s).1.funs → f.code.length ≤ 401 := by
  rw [code_eq]
  dsimp only
  refine ⟨listP_len _ _ _ _, listP_len _ _ _ _, listP_len _ _ _ _, fun f hf => ?_⟩
  obtain ⟨s', e⟩ := many_all _ _ f hf
  rw [e, body_eq]
  exact listP_len _ _ _ _
set_option maxHeartbeats 16000000 in
theorem pdecode_c (v : Value) (b : By) (w : World) (h : RowR TB w (fun _ => True) v b) (hl : b.length ≤ 1000000) :
    Calls Try.prog 10 #[v] w (DecRes (decP b) w) := by
  have hdec : decP b = fin (nx 3 ⟨b, false⟩).1 (codeP (nx 3 ⟨b, false⟩).2) := rfl
  obtain ⟨r0, hr0⟩ : ∃ r0, Hid (nx 3 ⟨b, false⟩ = r0) := ⟨_, Lib.hid rfl⟩
  obtain ⟨rc, hrc⟩ : ∃ rc, Hid (codeP r0.2 = rc) := ⟨_, Lib.hid rfl⟩
  rw [hr0.out, hrc.out] at hdec
  rw [hdec]
  obtain ⟨ao, cap, rfl, hcap⟩ := h.val
  obtain ⟨N, hN⟩ : ∃ n, Hid (b.length = n) := ⟨_, Lib.hid rfl⟩
  have HROW := Lib.hid h
  rw [hN.out] at hcap HROW ⊢
  clear h hdec
  obtain ⟨Z, hZ⟩ : ∃ Z, Hid (w.heap.size = Z) := ⟨_, Lib.hid rfl⟩
  go_enter Try.func10, Try.ntmps10
  go_upto_region 3 with fail
  rw [hZ.out]
  have KZ := ((new_at w #[.slice none 0 0, .slice none 0 0, .slice none 0 0, .int .i64 0] 27 hZ.out).alloc (.cells #[.slice ao N cap] 22)).alloc (.cells #[.bool false] 4)
  have KX := (new_at (w.alloc (.cells #[.slice none 0 0, .slice none 0 0, .slice none 0 0, .int .i64 0] 27)) #[.slice ao N cap] 22 (show _ = Z + 1 by simp [hZ.out])).alloc (.cells #[.bool false] 4)
  have KY := new_at ((w.alloc (.cells #[.slice none 0 0, .slice none 0 0, .slice none 0 0, .int .i64 0] 27)).alloc (.cells #[.slice ao N cap] 22)) #[.bool false] 4 (show _ = Z + 1 + 1 by simp [hZ.out])
  have hBW := bnext (bnext (balloc w (.cells #[.slice none 0 0, .slice none 0 0, .slice none 0 0, .int .i64 0] 27)) (balloc _ (.cells #[.slice ao N cap] 22))) (balloc _ (.cells #[.bool false] 4))
  have hWs : (((w.alloc (.cells #[.slice none 0 0, .slice none 0 0, .slice none 0 0, .int .i64 0] 27)).alloc (.cells #[.slice ao N cap] 22)).alloc (.cells #[.bool false] 4)).heap.size = Z + 1 + 1 + 1 := by simp [hZ.out]
  generalize World.alloc (World.alloc (World.alloc w _) _) _ = W at KZ KX KY hBW hWs ⊢
  have hwz : w.heap.size ≤ Z := by rw [hZ.out]; exact Nat.le_refl _
  have RD : RdM w W (Z + 1) (Z + 1 + 1) ⟨b, false⟩ := ⟨⟨_, KX, HROW.out⟩, KY, hBW, Nat.le_succ_of_le hwz, Nat.le_succ_of_le (Nat.le_succ_of_le hwz), by omega, by show b.length ≤ _; omega⟩
  have HN := next_z w W (Z + 1) (Z + 1 + 1) ⟨b, false⟩ 3 3 rfl RD (by decide)
  rw [hr0.out] at HN
  clear RD KX KY
  go_wp2_with fail
  refine HN.mono ?_
  rintro e w1 ⟨v1, rfl, hw1, hm1, ho1⟩
  have hcv := conv_row (RowR.keep_old hw1 hm1)
  have heq : ((⟨r0.1.toArray⟩ : ByteArray) == ⟨#[83, 77, 49]⟩) = (r0.1 == [83, 77, 49]) := str_eq r0.1 [83, 77, 49]
  cases hbg : (r0.1 == ([83, 77, 49] : By))
  · rw [hbg] at heq
    have HBG := Lib.hid hbg
    have hq : ¬ r0.1 = [83, 77, 49] := by simpa using hbg
    have KZ1 := ho1.bk KZ (by omega) (by omega)
    have hs1 : Z + 1 + 1 + 1 ≤ w1.heap.size := by rw [← hWs]; exact ho1.size
    have hRC := rcode_c w w1 (Z + 1) (Z + 1 + 1) r0.2 hm1
    have hSZ := code_sizes r0.2
    rw [hrc.out] at hRC hSZ
    have HSZ := Lib.hid hSZ
    have ho1 : On (Z + 1) (Z + 1 + 1) W w1 := ho1
    clear HN hw1 hm1 hSZ KZ
    go_wp2_with fail
    refine hRC.mono ?_
    rintro e w2 ⟨vf, vi, vt, rfl, hho, hm2, ho2⟩
    clear hRC hcv heq
    obtain ⟨fa, fc, ef, _⟩ := hho.funs.val
    obtain ⟨ia, ic, ei, _⟩ := hho.ints.val
    obtain ⟨ta, tc, et, _⟩ := hho.texts.val
    obtain ⟨NF, hNF⟩ : ∃ n, Hid (rc.1.funs.length = n) := ⟨_, Lib.hid rfl⟩
    obtain ⟨NI, hNI⟩ : ∃ n, Hid (rc.1.ints.length = n) := ⟨_, Lib.hid rfl⟩
    obtain ⟨NT, hNT⟩ : ∃ n, Hid (rc.1.texts.length = n) := ⟨_, Lib.hid rfl⟩
    obtain ⟨LT, hLT⟩ : ∃ n, Hid (rc.1.lets = n) := ⟨_, Lib.hid rfl⟩
    rw [hNF.out] at ef
    rw [hNI.out] at ei
    rw [hNT.out] at et
    subst ef ei et
    rw [hLT.out]
    have HZ2 := ho2.bk KZ1 (by omega) (by omega)
    have HB2 := Lib.hid (hBW.trans (((ho1.trans ho2).below (B := w.heap.size) (by omega) (by omega) (by omega))))
    have hs2 : Z + 1 + 1 + 1 ≤ w2.heap.size := Nat.le_trans hs1 ho2.size
    have HZ4 := Lib.hid (HZ2.alloc (.cells #[.slice fa NF fc, .slice ia NI ic, .slice ta NT tc, .int .i64 LT] 27))
    have HC4 := Lib.hid (Bk.new w2 #[.slice fa NF fc, .slice ia NI ic, .slice ta NT tc, .int .i64 LT] 27)
    have HM4 := hm2.keep (balloc w2 (.cells #[.slice fa NF fc, .slice ia NI ic, .slice ta NT tc, .int .i64 LT] 27))
    have HH4 := Lib.hid (hho.keep (balloc w2 (.cells #[.slice fa NF fc, .slice ia NI ic, .slice ta NT tc, .int .i64 LT] 27)))
    have HB4 := Lib.hid (HB2.out.trans ((balloc w2 (.cells #[.slice fa NF fc, .slice ia NI ic, .slice ta NT tc, .int .i64 LT] 27)).mono HB2.out.size))
    have HPM := pmay_c rc.1 _ _ _ _ _ HH4.out.has ⟨Nat.le_trans HSZ.out.1 (by decide), Nat.le_trans HSZ.out.2.1 (by decide), Nat.le_trans HSZ.out.2.2.1 (by decide), fun f hf => Nat.le_trans (HSZ.out.2.2.2 f hf) (by decide)⟩
    rw [hLT.out] at HPM
    obtain ⟨rv, hx4, hrow4⟩ := HM4.rest
    have hy4 := HM4.short
    obtain ⟨ra, rcp, erv, _⟩ := hrow4.val
    obtain ⟨NR, hNR⟩ : ∃ n, rc.2.rest.length = n := ⟨_, rfl⟩
    rw [hNR] at erv
    subst erv
    obtain ⟨sh, hsh⟩ : ∃ sh, rc.2.short = sh := ⟨_, rfl⟩
    rw [hsh] at hy4
    obtain ⟨mb, hmb⟩ : ∃ mb, mayB rc.1 = mb := ⟨_, rfl⟩
    rw [hmb] at HPM
    have x0 := hx4.cell 0 _ rfl
    have x1 := hy4.cell 0 _ rfl
    have z0 := HZ4.out.cell 0 _ rfl
    have z1 := HZ4.out.cell 1 _ rfl
    have z2 := HZ4.out.cell 2 _ rfl
    have z3 := HZ4.out.cell 3 _ rfl
    have g0 := HZ4.out.free 0
    have g1 := HZ4.out.free 1
    have g2 := HZ4.out.free 2
    have g3 := HZ4.out.free 3
    have lz := HZ4.out.lt
    have y0 := HC4.out.cell 0 _ rfl
    have y1 := HC4.out.cell 1 _ rfl
    have y2 := HC4.out.cell 2 _ rfl
    have y3 := HC4.out.cell 3 _ rfl
    have HSH := Lib.hid hsh
    have HNR := Lib.hid hNR
    have HMB := Lib.hid hmb
    clear hsh hNR hmb hx4 hrow4 hy4 HM4 hho hm2 ho2 ho1 KZ1 HZ2
    go_wp2_with fail
    have HF := Lib.hid (show fin r0.1 rc = none from by unfold fin; rw [if_neg]; intro h; have := HBG.out; rw [h.1] at this; simp at this)
    have K9 := set4 HZ4.out (a' := .slice none 0 0) (b' := .slice none 0 0) (c' := .slice none 0 0) (d' := .int .i64 0)
    have HB9 := Lib.hid ((((HB4.out.setCell (p := ⟨Z, 0, none⟩) hwz (.slice none 0 0)).setCell (p := ⟨Z, 1, none⟩) hwz (.slice none 0 0)).setCell (p := ⟨Z, 2, none⟩) hwz (.slice none 0 0)).setCell (p := ⟨Z, 3, none⟩) hwz (.int .i64 0))
    have c0 := K9.cell 0 _ rfl
    have c1 := K9.cell 1 _ rfl
    have c2 := K9.cell 2 _ rfl
    have c3 := K9.cell 3 _ rfl
    exact bodyPost_ret (v := .tuple #[.agg #[.slice none 0 0, .slice none 0 0, .slice none 0 0, .int .i64 0], .int .i64 31]) (by simp [results, Try.results10, go_sem, c0, c1, c2, c3]) rfl ⟨HB9.out, .inr ⟨HF.out, rfl⟩⟩
  · rw [hbg] at heq
    have HBG := Lib.hid hbg
    have hq : r0.1 = [83, 77, 49] := by simpa using hbg
    have KZ1 := ho1.bk KZ (by omega) (by omega)
    have hs1 : Z + 1 + 1 + 1 ≤ w1.heap.size := by rw [← hWs]; exact ho1.size
    have hRC := rcode_c w w1 (Z + 1) (Z + 1 + 1) r0.2 hm1
    have hSZ := code_sizes r0.2
    rw [hrc.out] at hRC hSZ
    have HSZ := Lib.hid hSZ
    have ho1 : On (Z + 1) (Z + 1 + 1) W w1 := ho1
    clear HN hw1 hm1 hSZ KZ
    go_wp2_with fail
    refine hRC.mono ?_
    rintro e w2 ⟨vf, vi, vt, rfl, hho, hm2, ho2⟩
    clear hRC hcv heq
    obtain ⟨fa, fc, ef, _⟩ := hho.funs.val
    obtain ⟨ia, ic, ei, _⟩ := hho.ints.val
    obtain ⟨ta, tc, et, _⟩ := hho.texts.val
    obtain ⟨NF, hNF⟩ : ∃ n, Hid (rc.1.funs.length = n) := ⟨_, Lib.hid rfl⟩
    obtain ⟨NI, hNI⟩ : ∃ n, Hid (rc.1.ints.length = n) := ⟨_, Lib.hid rfl⟩
    obtain ⟨NT, hNT⟩ : ∃ n, Hid (rc.1.texts.length = n) := ⟨_, Lib.hid rfl⟩
    obtain ⟨LT, hLT⟩ : ∃ n, Hid (rc.1.lets = n) := ⟨_, Lib.hid rfl⟩
    rw [hNF.out] at ef
    rw [hNI.out] at ei
    rw [hNT.out] at et
    subst ef ei et
    rw [hLT.out]
    have HZ2 := ho2.bk KZ1 (by omega) (by omega)
    have HB2 := Lib.hid (hBW.trans (((ho1.trans ho2).below (B := w.heap.size) (by omega) (by omega) (by omega))))
    have hs2 : Z + 1 + 1 + 1 ≤ w2.heap.size := Nat.le_trans hs1 ho2.size
    have HZ4 := Lib.hid (HZ2.alloc (.cells #[.slice fa NF fc, .slice ia NI ic, .slice ta NT tc, .int .i64 LT] 27))
    have HC4 := Lib.hid (Bk.new w2 #[.slice fa NF fc, .slice ia NI ic, .slice ta NT tc, .int .i64 LT] 27)
    have HM4 := hm2.keep (balloc w2 (.cells #[.slice fa NF fc, .slice ia NI ic, .slice ta NT tc, .int .i64 LT] 27))
    have HH4 := Lib.hid (hho.keep (balloc w2 (.cells #[.slice fa NF fc, .slice ia NI ic, .slice ta NT tc, .int .i64 LT] 27)))
    have HB4 := Lib.hid (HB2.out.trans ((balloc w2 (.cells #[.slice fa NF fc, .slice ia NI ic, .slice ta NT tc, .int .i64 LT] 27)).mono HB2.out.size))
    have HPM := pmay_c rc.1 _ _ _ _ _ HH4.out.has ⟨Nat.le_trans HSZ.out.1 (by decide), Nat.le_trans HSZ.out.2.1 (by decide), Nat.le_trans HSZ.out.2.2.1 (by decide), fun f hf => Nat.le_trans (HSZ.out.2.2.2 f hf) (by decide)⟩
    rw [hLT.out] at HPM
    obtain ⟨rv, hx4, hrow4⟩ := HM4.rest
    have hy4 := HM4.short
    obtain ⟨ra, rcp, erv, _⟩ := hrow4.val
    obtain ⟨NR, hNR⟩ : ∃ n, rc.2.rest.length = n := ⟨_, rfl⟩
    rw [hNR] at erv
    subst erv
    obtain ⟨sh, hsh⟩ : ∃ sh, rc.2.short = sh := ⟨_, rfl⟩
    rw [hsh] at hy4
    obtain ⟨mb, hmb⟩ : ∃ mb, mayB rc.1 = mb := ⟨_, rfl⟩
    rw [hmb] at HPM
    have x0 := hx4.cell 0 _ rfl
    have x1 := hy4.cell 0 _ rfl
    have z0 := HZ4.out.cell 0 _ rfl
    have z1 := HZ4.out.cell 1 _ rfl
    have z2 := HZ4.out.cell 2 _ rfl
    have z3 := HZ4.out.cell 3 _ rfl
    have g0 := HZ4.out.free 0
    have g1 := HZ4.out.free 1
    have g2 := HZ4.out.free 2
    have g3 := HZ4.out.free 3
    have lz := HZ4.out.lt
    have y0 := HC4.out.cell 0 _ rfl
    have y1 := HC4.out.cell 1 _ rfl
    have y2 := HC4.out.cell 2 _ rfl
    have y3 := HC4.out.cell 3 _ rfl
    have HSH := Lib.hid hsh
    have HNR := Lib.hid hNR
    have HMB := Lib.hid hmb
    clear hsh hNR hmb hx4 hrow4 hy4 HM4 hho hm2 ho2 ho1 KZ1 HZ2
    cases sh
    case true =>
      go_wp2_with fail
      have HF := Lib.hid (show fin r0.1 rc = none from by unfold fin; rw [if_neg]; intro h; have := HSH.out; rw [h.2.1] at this; cases this)
      have K9 := set4 HZ4.out (a' := .slice none 0 0) (b' := .slice none 0 0) (c' := .slice none 0 0) (d' := .int .i64 0)
      have HB9 := Lib.hid ((((HB4.out.setCell (p := ⟨Z, 0, none⟩) hwz (.slice none 0 0)).setCell (p := ⟨Z, 1, none⟩) hwz (.slice none 0 0)).setCell (p := ⟨Z, 2, none⟩) hwz (.slice none 0 0)).setCell (p := ⟨Z, 3, none⟩) hwz (.int .i64 0))
      have c0 := K9.cell 0 _ rfl
      have c1 := K9.cell 1 _ rfl
      have c2 := K9.cell 2 _ rfl
      have c3 := K9.cell 3 _ rfl
      exact bodyPost_ret (v := .tuple #[.agg #[.slice none 0 0, .slice none 0 0, .slice none 0 0, .int .i64 0], .int .i64 31]) (by simp [results, Try.results10, go_sem, c0, c1, c2, c3]) rfl ⟨HB9.out, .inr ⟨HF.out, rfl⟩⟩
    case false =>
      by_cases hn0 : NR = 0
      case neg =>
        have i0 : ((NR : Int) == 0) = false := by simp; omega
        go_wp2_with fail
        have HF := Lib.hid (show fin r0.1 rc = none from by unfold fin; rw [if_neg]; intro h; have := HNR.out; rw [h.2.2.1] at this; exact hn0 this.symm)
        have K9 := set4 HZ4.out (a' := .slice none 0 0) (b' := .slice none 0 0) (c' := .slice none 0 0) (d' := .int .i64 0)
        have HB9 := Lib.hid ((((HB4.out.setCell (p := ⟨Z, 0, none⟩) hwz (.slice none 0 0)).setCell (p := ⟨Z, 1, none⟩) hwz (.slice none 0 0)).setCell (p := ⟨Z, 2, none⟩) hwz (.slice none 0 0)).setCell (p := ⟨Z, 3, none⟩) hwz (.int .i64 0))
        have c0 := K9.cell 0 _ rfl
        have c1 := K9.cell 1 _ rfl
        have c2 := K9.cell 2 _ rfl
        have c3 := K9.cell 3 _ rfl
        exact bodyPost_ret (v := .tuple #[.agg #[.slice none 0 0, .slice none 0 0, .slice none 0 0, .int .i64 0], .int .i64 31]) (by simp [results, Try.results10, go_sem, c0, c1, c2, c3]) rfl ⟨HB9.out, .inr ⟨HF.out, rfl⟩⟩
      case pos =>
        subst hn0
        cases mb
        case false =>
          go_wp2_with (go_at_call 26; refine HPM.mono ?_; rintro e w5 ⟨rfl, hb5⟩; have HB5 := Lib.hid (HB4.out.trans (hb5.mono HB4.out.size)); have HZ5 := Lib.hid (HZ4.out.keep hb5); have HC5 := Lib.hid (HC4.out.keep hb5); have HH5 := Lib.hid (HH4.out.keep hb5); clear hb5 z0 z1 z2 z3 g0 g1 g2 g3 lz y0 y1 y2 y3; have z0 := HZ5.out.cell 0 _ rfl; have z1 := HZ5.out.cell 1 _ rfl; have z2 := HZ5.out.cell 2 _ rfl; have z3 := HZ5.out.cell 3 _ rfl; have g0 := HZ5.out.free 0; have g1 := HZ5.out.free 1; have g2 := HZ5.out.free 2; have g3 := HZ5.out.free 3; have lz := HZ5.out.lt; have y0 := HC5.out.cell 0 _ rfl; have y1 := HC5.out.cell 1 _ rfl; have y2 := HC5.out.cell 2 _ rfl; have y3 := HC5.out.cell 3 _ rfl)
          have HF := Lib.hid (show fin r0.1 rc = none from by unfold fin; rw [if_neg]; intro h; have := HMB.out; rw [h.2.2.2] at this; cases this)
          have K9 := set4 HZ5.out (a' := .slice none 0 0) (b' := .slice none 0 0) (c' := .slice none 0 0) (d' := .int .i64 0)
          have HB9 := Lib.hid ((((HB5.out.setCell (p := ⟨Z, 0, none⟩) hwz (.slice none 0 0)).setCell (p := ⟨Z, 1, none⟩) hwz (.slice none 0 0)).setCell (p := ⟨Z, 2, none⟩) hwz (.slice none 0 0)).setCell (p := ⟨Z, 3, none⟩) hwz (.int .i64 0))
          have c0 := K9.cell 0 _ rfl
          have c1 := K9.cell 1 _ rfl
          have c2 := K9.cell 2 _ rfl
          have c3 := K9.cell 3 _ rfl
          exact bodyPost_ret (v := .tuple #[.agg #[.slice none 0 0, .slice none 0 0, .slice none 0 0, .int .i64 0], .int .i64 31]) (by simp [results, Try.results10, go_sem, c0, c1, c2, c3]) rfl ⟨HB9.out, .inr ⟨HF.out, rfl⟩⟩
        case true =>
          go_wp2_with (go_at_call 26; refine HPM.mono ?_; rintro e w5 ⟨rfl, hb5⟩; have HB5 := Lib.hid (HB4.out.trans (hb5.mono HB4.out.size)); have HZ5 := Lib.hid (HZ4.out.keep hb5); have HC5 := Lib.hid (HC4.out.keep hb5); have HH5 := Lib.hid (HH4.out.keep hb5); clear hb5 z0 z1 z2 z3 g0 g1 g2 g3 lz y0 y1 y2 y3; have z0 := HZ5.out.cell 0 _ rfl; have z1 := HZ5.out.cell 1 _ rfl; have z2 := HZ5.out.cell 2 _ rfl; have z3 := HZ5.out.cell 3 _ rfl; have g0 := HZ5.out.free 0; have g1 := HZ5.out.free 1; have g2 := HZ5.out.free 2; have g3 := HZ5.out.free 3; have lz := HZ5.out.lt; have y0 := HC5.out.cell 0 _ rfl; have y1 := HC5.out.cell 1 _ rfl; have y2 := HC5.out.cell 2 _ rfl; have y3 := HC5.out.cell 3 _ rfl)
          have HF := Lib.hid (show fin r0.1 rc = some rc.1 from by
            unfold fin
            rw [if_pos]
            exact ⟨by have := HBG.out; simpa using this, HSH.out, List.eq_nil_of_length_eq_zero HNR.out, HMB.out⟩)
          have K9 := set4 HZ5.out (a' := .slice fa NF fc) (b' := .slice ia NI ic) (c' := .slice ta NT tc) (d' := .int .i64 LT)
          have HB9 := Lib.hid ((((HB5.out.setCell (p := ⟨Z, 0, none⟩) hwz (.slice fa NF fc)).setCell (p := ⟨Z, 1, none⟩) hwz (.slice ia NI ic)).setCell (p := ⟨Z, 2, none⟩) hwz (.slice ta NT tc)).setCell (p := ⟨Z, 3, none⟩) hwz (.int .i64 LT))
          have hzl : Z < w1.heap.size := by omega
          have HH9 := Lib.hid (hasO_low ((((HH5.out.other hzl 0 (.slice fa NF fc)).other hzl 1 (.slice ia NI ic)).other hzl 2 (.slice ta NT tc)).other hzl 3 (.int .i64 LT)) (show w.heap.size ≤ w1.heap.size by omega))
          have c0 := K9.cell 0 _ rfl
          have c1 := K9.cell 1 _ rfl
          have c2 := K9.cell 2 _ rfl
          have c3 := K9.cell 3 _ rfl
          exact bodyPost_ret (v := .tuple #[.agg #[.slice fa NF fc, .slice ia NI ic, .slice ta NT tc, .int .i64 LT], .int .i64 0]) (by simp [results, Try.results10, go_sem, c0, c1, c2, c3]) rfl ⟨HB9.out, .inl ⟨rc.1, _, _, _, HF.out, by rw [hLT.out], HH9.out⟩⟩
end Go.Proofs.Ytpommjmlenfknaa.QL
