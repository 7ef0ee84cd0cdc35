/- Whether functions, and a code, may be, by the program: the walks. -/
import Derived.Test.YtkhdkepjhifffaaPB
namespace Go.Proofs.Ytkhdkepjhifffaa.PC
open Go.RowKit Go.Proofs.Ytkhdkepjhifffaa.RG Go.Proofs.Ytkhdkepjhifffaa.KA Go.Proofs.Ytkhdkepjhifffaa.KB Go.Proofs.Ytkhdkepjhifffaa.KC Go.Proofs.Ytkhdkepjhifffaa.PA Go.Proofs.Ytkhdkepjhifffaa.PB
set_option linter.unusedVariables false
set_option maxRecDepth 100000
set_option maxRecDepth 100000

theorem body_parts (ke lo st : Int) (code : List In) (NC : Nat) (h : code.length = NC) : bodyOk ⟨ke, lo, st, code⟩ = ((((decide (0 ≤ ke) && decide (ke ≤ 59)) && (decide (0 ≤ lo) && decide (lo ≤ 60))) && (decide (1 ≤ st) && decide (st ≤ 60))) && (decide ((1 : Int) ≤ (NC : Int)) && decide ((NC : Int) ≤ 400)) && code.all insOk) := by
  have e1 : decide (1 ≤ code.length) = decide ((1 : Int) ≤ (NC : Int)) := decide_eq_decide.2 (by omega)
  have e2 : decide (code.length ≤ 400) = decide ((NC : Int) ≤ 400) := decide_eq_decide.2 (by omega)
  unfold bodyOk
  simp only [e1, e2]
  ac_rfl
theorem may_parts (c : Cd) (NF NI NT : Nat) (LT : Int) (h1 : c.funs.length = NF) (h2 : c.ints.length = NI) (h3 : c.texts.length = NT) (h4 : c.lets = LT) : mayB c = ((decide ((1 : Int) ≤ (NF : Int)) && decide ((NF : Int) ≤ 120)) && c.funs.all bodyOk && decide ((NI : Int) ≤ 120) && c.ints.all intOk && decide ((NT : Int) ≤ 120) && c.texts.all textOk && (decide (0 ≤ LT) && decide (LT ≤ 60))) := by
  subst h1 h2 h3 h4
  have e1 : decide (1 ≤ c.funs.length) = decide ((1 : Int) ≤ (c.funs.length : Int)) := decide_eq_decide.2 (by omega)
  have e2 : decide (c.funs.length ≤ 120) = decide ((c.funs.length : Int) ≤ 120) := decide_eq_decide.2 (by omega)
  have e3 : decide (c.ints.length ≤ 120) = decide ((c.ints.length : Int) ≤ 120) := decide_eq_decide.2 (by omega)
  have e4 : decide (c.texts.length ≤ 120) = decide ((c.texts.length : Int) ≤ 120) := decide_eq_decide.2 (by omega)
  unfold mayB headOk
  simp only [e1, e2, e3, e4]
  ac_rfl

set_option maxHeartbeats 16000000 in
theorem mayFuns_c (l : List Bd) (v : Value) (w : World) (S : Nat → Prop) (h : RowR TF w S v l) (hl : l.length ≤ 100000000000) (hc : ∀ f, f ∈ l → f.code.length ≤ 100000000000) : Calls Try.prog 46 #[v] w fun e w' => e = .returned (.bool (l.all bodyOk)) ∧ Below w.heap.size w w' := by
  obtain ⟨ao, cap, rfl, hcap⟩ := h.val
  obtain ⟨R, HR⟩ : ∃ R, Hid (l.all bodyOk = R) := ⟨_, Lib.hid rfl⟩
  rw [HR.out]
  obtain ⟨N, hN⟩ : ∃ x, Hid (l.length = x) := ⟨_, Lib.hid rfl⟩
  have HH := Lib.hid h
  have HLC := Lib.hid hc
  rw [hN.out] at hcap hl HH ⊢
  clear h hc
  go_enter Try.func46, Try.ntmps46
  go_wp2_with fail
  go_loopg [7] N (fun g iv wr => ∃ i : Nat, i + g = N ∧ iv = .int .i64 (i : Int) ∧ Hid ((l.take i).all bodyOk = true) ∧ Hid (Below w.heap.size w wr))
  case atStart => exact ⟨0, Nat.zero_add _, rfl, Lib.hid rfl, Lib.hid (Below.refl _ _)⟩
  case round =>
    obtain ⟨i, hi, rfl, HA, HX⟩ := hrel
    by_cases hlt : i < N
    · obtain ⟨g, rfl⟩ : ∃ g, gk = g + 1 := ⟨gk - 1, by omega⟩
      have hne : l ≠ [] := by intro e; have := hN.out; rw [e] at this; simp at this; omega
      obtain ⟨b, off, cap, hve, _, hblt, hcells⟩ := HH.out.open_ hne
      rw [hN.out] at hve
      cases hve
      obtain ⟨f, hf⟩ := getElem?_of_lt (l := l) (k := i) (by rw [hN.out]; exact hlt)
      obtain ⟨q, hL, hq⟩ := hcells i f hf
      obtain ⟨qv, rfl, hrow⟩ := hasBd_row hq
      obtain ⟨co, cc, rfl, hcc⟩ := hrow.val
      have hlc := HLC.out f (List.mem_of_getElem? hf)
      have HF := Lib.hid hf
      have hL2 := hL.keep HX.out hblt
      obtain ⟨ke, lo, st, code⟩ := f
      simp only at hcc hrow hL2 hlc
      obtain ⟨NC, hNC⟩ : ∃ x, Hid (code.length = x) := ⟨_, Lib.hid rfl⟩
      rw [hNC.out] at hcc hlc hL2 hrow
      have x0 : wr.cell? ⟨b, off + i * 4, none⟩ = some (.int .i64 ke) := hL2 0 _ rfl
      have x1 : wr.cell? ⟨b, off + i * 4 + 1, none⟩ = some (.int .i64 lo) := hL2 1 _ rfl
      have x2 : wr.cell? ⟨b, off + i * 4 + 2, none⟩ = some (.int .i64 st) := hL2 2 _ rfl
      have x3 : wr.cell? ⟨b, off + i * 4 + 3, none⟩ = some (.slice co NC cc) := hL2 3 _ rfl
      have HROW := Lib.hid hrow
      have i0 : (0 : Int) ≤ (i : Int) := by omega
      have i1 : (i : Int) < (N : Int) := by omega
      have HXA := Lib.hid (bnext HX.out (balloc wr (.cells #[.int .i64 ke, .int .i64 lo, .int .i64 st, .slice co NC cc] 49)))
      have HPT := Lib.hid (body_parts ke lo st code NC hNC.out)
      have HMI := Lib.hid (mayInstrs_c code (.slice co NC cc) (wr.alloc (.cells #[.int .i64 ke, .int .i64 lo, .int .i64 st, .slice co NC cc] 49)) (fun _ => True) ((by
        have h := HROW.out.keep HX.out
        have h := h.keep (balloc wr (.cells #[.int .i64 ke, .int .i64 lo, .int .i64 st, .slice co NC cc] 49))
        exact h.weak fun _ _ _ => trivial)) (by rw [hNC.out]; exact hlc))
      clear hcells hL hL2 hf hne hq hrow
      generalize hb5 : code.all insOk = b5 at HMI HPT
      cases h1 : (decide (0 ≤ ke) && decide (ke ≤ 59))
      · have H1 := Lib.hid h1
        clear h1
        have HRF := Lib.hid (show false = R from by rw [← HR.out, all_take_no HF.out (HPT.out.trans (by rw [H1.out]; simp))])
        go_wp2_with (first | (go_at_call 45; refine (within_c (by first | exact H1.out | exact H2.out | exact H3.out | exact H4.out) _).mono ?_; rintro e w3 ⟨rfl, rfl⟩) | (go_at_call 66; refine HMI.out.mono ?_; rintro e w3 ⟨rfl, hb⟩; have HX3 := Lib.hid (bnext HXA.out hb); clear hb))
        go_ret
        exact ⟨ret_bool HRF.out, HXA.out⟩
      · have H1 := Lib.hid h1
        clear h1
        cases h2 : (decide (0 ≤ lo) && decide (lo ≤ 60))
        · have H2 := Lib.hid h2
          clear h2
          have HRF := Lib.hid (show false = R from by rw [← HR.out, all_take_no HF.out (HPT.out.trans (by rw [H2.out]; simp))])
          go_wp2_with (first | (go_at_call 45; refine (within_c (by first | exact H1.out | exact H2.out | exact H3.out | exact H4.out) _).mono ?_; rintro e w3 ⟨rfl, rfl⟩) | (go_at_call 66; refine HMI.out.mono ?_; rintro e w3 ⟨rfl, hb⟩; have HX3 := Lib.hid (bnext HXA.out hb); clear hb))
          go_ret
          exact ⟨ret_bool HRF.out, HXA.out⟩
        · have H2 := Lib.hid h2
          clear h2
          cases h3 : (decide (1 ≤ st) && decide (st ≤ 60))
          · have H3 := Lib.hid h3
            clear h3
            have HRF := Lib.hid (show false = R from by rw [← HR.out, all_take_no HF.out (HPT.out.trans (by rw [H3.out]; simp))])
            go_wp2_with (first | (go_at_call 45; refine (within_c (by first | exact H1.out | exact H2.out | exact H3.out | exact H4.out) _).mono ?_; rintro e w3 ⟨rfl, rfl⟩) | (go_at_call 66; refine HMI.out.mono ?_; rintro e w3 ⟨rfl, hb⟩; have HX3 := Lib.hid (bnext HXA.out hb); clear hb))
            go_ret
            exact ⟨ret_bool HRF.out, HXA.out⟩
          · have H3 := Lib.hid h3
            clear h3
            cases h4 : (decide ((1 : Int) ≤ (NC : Int)) && decide ((NC : Int) ≤ 400))
            · have H4 := Lib.hid h4
              clear h4
              have HRF := Lib.hid (show false = R from by rw [← HR.out, all_take_no HF.out (HPT.out.trans (by rw [H4.out]; simp))])
              go_wp2_with (first | (go_at_call 45; refine (within_c (by first | exact H1.out | exact H2.out | exact H3.out | exact H4.out) _).mono ?_; rintro e w3 ⟨rfl, rfl⟩) | (go_at_call 66; refine HMI.out.mono ?_; rintro e w3 ⟨rfl, hb⟩; have HX3 := Lib.hid (bnext HXA.out hb); clear hb))
              go_ret
              exact ⟨ret_bool HRF.out, HXA.out⟩
            · have H4 := Lib.hid h4
              clear h4
              cases b5
              · skip
                have HRF := Lib.hid (show false = R from by rw [← HR.out, all_take_no HF.out (HPT.out.trans (by simp))])
                go_wp2_with (first | (go_at_call 45; refine (within_c (by first | exact H1.out | exact H2.out | exact H3.out | exact H4.out) _).mono ?_; rintro e w3 ⟨rfl, rfl⟩) | (go_at_call 66; refine HMI.out.mono ?_; rintro e w3 ⟨rfl, hb⟩; have HX3 := Lib.hid (bnext HXA.out hb); clear hb))
                go_ret
                exact ⟨ret_bool HRF.out, HX3.out⟩
              · have HA2 := Lib.hid (all_take_yes HF.out (HPT.out.trans (by rw [H1.out, H2.out, H3.out, H4.out]; rfl)) HA.out)
                go_wp2_with (first | (go_at_call 45; refine (within_c (by first | exact H1.out | exact H2.out | exact H3.out | exact H4.out) _).mono ?_; rintro e w3 ⟨rfl, rfl⟩) | (go_at_call 66; refine HMI.out.mono ?_; rintro e w3 ⟨rfl, hb⟩; have HX3 := Lib.hid (bnext HXA.out hb); clear hb))
                go_roundg g
                case rel => exact ⟨i + 1, by omega, by go_num, HA2, HX3⟩
                case measure => omega
    · have HRF := Lib.hid (show true = R from by
        rw [← HR.out]
        have h := HA.out
        rw [List.take_of_length_le (by rw [hN.out]; omega)] at h
        exact h.symm)
      go_wp2_with fail
      go_ret
      exact ⟨ret_bool HRF.out, HX.out⟩

set_option maxHeartbeats 16000000 in
theorem pmay_c (c : Cd) (fv iv tv : Value) (w : World) (S : Nat → Prop) (h : HasC w S c fv iv tv) (hl : c.funs.length ≤ 100000000000 ∧ c.ints.length ≤ 100000000000 ∧ c.texts.length ≤ 100000000000 ∧ ∀ f, f ∈ c.funs → f.code.length ≤ 100000000000) :
    Calls Try.prog 26 #[.agg #[fv, iv, tv, .int .i64 c.lets]] w fun e w' => e = .returned (.bool (mayB c)) ∧ Below w.heap.size w w' := by
  obtain ⟨fo, fc, rfl, hfc⟩ := h.funs.val
  obtain ⟨io, ic, rfl, hic⟩ := h.ints.val
  obtain ⟨to_, tc, rfl, htc⟩ := h.texts.val
  have MF := fun (w' : World) (hb : Below w.heap.size w w') => mayFuns_c c.funs _ w' S (h.funs.keep hb) hl.1 hl.2.2.2
  have MI := fun (w' : World) (hb : Below w.heap.size w w') => mayInts_c c.ints _ w' S (h.ints.keep hb) hl.2.1
  have MT := fun (w' : World) (hb : Below w.heap.size w w') => mayTexts_c c.texts _ w' S (h.texts.keep hb) hl.2.2.1
  obtain ⟨NF, hNF⟩ : ∃ x, Hid (c.funs.length = x) := ⟨_, Lib.hid rfl⟩
  obtain ⟨NI, hNI⟩ : ∃ x, Hid (c.ints.length = x) := ⟨_, Lib.hid rfl⟩
  obtain ⟨NT, hNT⟩ : ∃ x, Hid (c.texts.length = x) := ⟨_, Lib.hid rfl⟩
  obtain ⟨LT, hLT⟩ : ∃ x, Hid (c.lets = x) := ⟨_, Lib.hid rfl⟩
  have HPT := Lib.hid (may_parts c NF NI NT LT hNF.out hNI.out hNT.out hLT.out)
  obtain ⟨R, HR⟩ : ∃ R, Hid (mayB c = R) := ⟨_, Lib.hid rfl⟩
  rw [HR.out, hNF.out, hNI.out, hNT.out, hLT.out]
  rw [HR.out] at HPT
  rw [hNF.out] at MF hfc
  rw [hNI.out] at MI hic
  rw [hNT.out] at MT htc
  have hl1 := hl.1
  have hl2 := hl.2.1
  have hl3 := hl.2.2.1
  rw [hNF.out] at hl1
  rw [hNI.out] at hl2
  rw [hNT.out] at hl3
  have HK := Lib.hid (Bk.new w #[.slice fo NF fc, .slice io NI ic, .slice to_ NT tc, .int .i64 LT] 27)
  have HX := Lib.hid (balloc w (.cells #[.slice fo NF fc, .slice io NI ic, .slice to_ NT tc, .int .i64 LT] 27))
  have HMF := Lib.hid MF
  have HMI := Lib.hid MI
  have HMT := Lib.hid MT
  clear h hl MF MI MT
  generalize c.funs.all bodyOk = b2 at HMF HPT
  generalize c.ints.all intOk = b4 at HMI HPT
  generalize c.texts.all textOk = b6 at HMT HPT
  cases h1 : (decide ((1 : Int) ≤ (NF : Int)) && decide ((NF : Int) ≤ 120))
  · have H1 := Lib.hid h1
    clear h1
    have HRF := Lib.hid (show false = R from by rw [HPT.out]; rw [H1.out]; simp)
    go_enter Try.func26, Try.ntmps26
    go_wp2_with (first | (go_at_call 45; refine (within_c (by first | exact H1.out | exact H7.out) _).mono ?_; rintro e w3 ⟨rfl, rfl⟩; (try have k0 := HK.out.cell 0 _ rfl)) | (go_at_call 46; refine (HMF.out _ HX.out).mono ?_; rintro e w3 ⟨rfl, hb⟩; have HX3 := Lib.hid (bnext HX.out hb); have HK3 := Lib.hid (HK.out.keep hb); clear hb; have k1 := HK3.out.cell 1 _ rfl; have k2 := HK3.out.cell 2 _ rfl; have k3 := HK3.out.cell 3 _ rfl) | (go_at_call 47; refine (HMI.out _ HX3.out).mono ?_; rintro e w4 ⟨rfl, hb⟩; have HX4 := Lib.hid (bnext HX3.out hb); have HK4 := Lib.hid (HK3.out.keep hb); clear hb; have k2' := HK4.out.cell 2 _ rfl; have k3' := HK4.out.cell 3 _ rfl) | (go_at_call 48; refine (HMT.out _ HX4.out).mono ?_; rintro e w5 ⟨rfl, hb⟩; have HX5 := Lib.hid (bnext HX4.out hb); have HK5 := Lib.hid (HK4.out.keep hb); clear hb; have k3'' := HK5.out.cell 3 _ rfl))
    go_ret
    exact ⟨ret_bool HRF.out, HX.out⟩
  · have H1 := Lib.hid h1
    clear h1
    cases b2
    · skip
      have HRF := Lib.hid (show false = R from by rw [HPT.out]; simp)
      go_enter Try.func26, Try.ntmps26
      go_wp2_with (first | (go_at_call 45; refine (within_c (by first | exact H1.out | exact H7.out) _).mono ?_; rintro e w3 ⟨rfl, rfl⟩; (try have k0 := HK.out.cell 0 _ rfl)) | (go_at_call 46; refine (HMF.out _ HX.out).mono ?_; rintro e w3 ⟨rfl, hb⟩; have HX3 := Lib.hid (bnext HX.out hb); have HK3 := Lib.hid (HK.out.keep hb); clear hb; have k1 := HK3.out.cell 1 _ rfl; have k2 := HK3.out.cell 2 _ rfl; have k3 := HK3.out.cell 3 _ rfl) | (go_at_call 47; refine (HMI.out _ HX3.out).mono ?_; rintro e w4 ⟨rfl, hb⟩; have HX4 := Lib.hid (bnext HX3.out hb); have HK4 := Lib.hid (HK3.out.keep hb); clear hb; have k2' := HK4.out.cell 2 _ rfl; have k3' := HK4.out.cell 3 _ rfl) | (go_at_call 48; refine (HMT.out _ HX4.out).mono ?_; rintro e w5 ⟨rfl, hb⟩; have HX5 := Lib.hid (bnext HX4.out hb); have HK5 := Lib.hid (HK4.out.keep hb); clear hb; have k3'' := HK5.out.cell 3 _ rfl))
      go_ret
      exact ⟨ret_bool HRF.out, HX3.out⟩
    · by_cases t3 : (NI : Int) ≤ 120
      · cases b4
        · skip
          have HRF := Lib.hid (show false = R from by rw [HPT.out]; simp)
          go_enter Try.func26, Try.ntmps26
          go_wp2_with (first | (go_at_call 45; refine (within_c (by first | exact H1.out | exact H7.out) _).mono ?_; rintro e w3 ⟨rfl, rfl⟩; (try have k0 := HK.out.cell 0 _ rfl)) | (go_at_call 46; refine (HMF.out _ HX.out).mono ?_; rintro e w3 ⟨rfl, hb⟩; have HX3 := Lib.hid (bnext HX.out hb); have HK3 := Lib.hid (HK.out.keep hb); clear hb; have k1 := HK3.out.cell 1 _ rfl; have k2 := HK3.out.cell 2 _ rfl; have k3 := HK3.out.cell 3 _ rfl) | (go_at_call 47; refine (HMI.out _ HX3.out).mono ?_; rintro e w4 ⟨rfl, hb⟩; have HX4 := Lib.hid (bnext HX3.out hb); have HK4 := Lib.hid (HK3.out.keep hb); clear hb; have k2' := HK4.out.cell 2 _ rfl; have k3' := HK4.out.cell 3 _ rfl) | (go_at_call 48; refine (HMT.out _ HX4.out).mono ?_; rintro e w5 ⟨rfl, hb⟩; have HX5 := Lib.hid (bnext HX4.out hb); have HK5 := Lib.hid (HK4.out.keep hb); clear hb; have k3'' := HK5.out.cell 3 _ rfl))
          go_ret
          exact ⟨ret_bool HRF.out, HX4.out⟩
        · by_cases t5 : (NT : Int) ≤ 120
          · cases b6
            · skip
              have HRF := Lib.hid (show false = R from by rw [HPT.out]; simp)
              go_enter Try.func26, Try.ntmps26
              go_wp2_with (first | (go_at_call 45; refine (within_c (by first | exact H1.out | exact H7.out) _).mono ?_; rintro e w3 ⟨rfl, rfl⟩; (try have k0 := HK.out.cell 0 _ rfl)) | (go_at_call 46; refine (HMF.out _ HX.out).mono ?_; rintro e w3 ⟨rfl, hb⟩; have HX3 := Lib.hid (bnext HX.out hb); have HK3 := Lib.hid (HK.out.keep hb); clear hb; have k1 := HK3.out.cell 1 _ rfl; have k2 := HK3.out.cell 2 _ rfl; have k3 := HK3.out.cell 3 _ rfl) | (go_at_call 47; refine (HMI.out _ HX3.out).mono ?_; rintro e w4 ⟨rfl, hb⟩; have HX4 := Lib.hid (bnext HX3.out hb); have HK4 := Lib.hid (HK3.out.keep hb); clear hb; have k2' := HK4.out.cell 2 _ rfl; have k3' := HK4.out.cell 3 _ rfl) | (go_at_call 48; refine (HMT.out _ HX4.out).mono ?_; rintro e w5 ⟨rfl, hb⟩; have HX5 := Lib.hid (bnext HX4.out hb); have HK5 := Lib.hid (HK4.out.keep hb); clear hb; have k3'' := HK5.out.cell 3 _ rfl))
              go_ret
              exact ⟨ret_bool HRF.out, HX5.out⟩
            · cases h7 : (decide (0 ≤ LT) && decide (LT ≤ 60))
              · have H7 := Lib.hid h7
                clear h7
                have HRF := Lib.hid (show false = R from by rw [HPT.out]; rw [H7.out]; simp)
                go_enter Try.func26, Try.ntmps26
                go_wp2_with (first | (go_at_call 45; refine (within_c (by first | exact H1.out | exact H7.out) _).mono ?_; rintro e w3 ⟨rfl, rfl⟩; (try have k0 := HK.out.cell 0 _ rfl)) | (go_at_call 46; refine (HMF.out _ HX.out).mono ?_; rintro e w3 ⟨rfl, hb⟩; have HX3 := Lib.hid (bnext HX.out hb); have HK3 := Lib.hid (HK.out.keep hb); clear hb; have k1 := HK3.out.cell 1 _ rfl; have k2 := HK3.out.cell 2 _ rfl; have k3 := HK3.out.cell 3 _ rfl) | (go_at_call 47; refine (HMI.out _ HX3.out).mono ?_; rintro e w4 ⟨rfl, hb⟩; have HX4 := Lib.hid (bnext HX3.out hb); have HK4 := Lib.hid (HK3.out.keep hb); clear hb; have k2' := HK4.out.cell 2 _ rfl; have k3' := HK4.out.cell 3 _ rfl) | (go_at_call 48; refine (HMT.out _ HX4.out).mono ?_; rintro e w5 ⟨rfl, hb⟩; have HX5 := Lib.hid (bnext HX4.out hb); have HK5 := Lib.hid (HK4.out.keep hb); clear hb; have k3'' := HK5.out.cell 3 _ rfl))
                go_ret
                exact ⟨ret_bool HRF.out, HX5.out⟩
              · have H7 := Lib.hid h7
                clear h7
                have HRF := Lib.hid (show true = R from by rw [HPT.out]; rw [H1.out, H7.out]; simp; omega)
                go_enter Try.func26, Try.ntmps26
                go_wp2_with (first | (go_at_call 45; refine (within_c (by first | exact H1.out | exact H7.out) _).mono ?_; rintro e w3 ⟨rfl, rfl⟩; (try have k0 := HK.out.cell 0 _ rfl)) | (go_at_call 46; refine (HMF.out _ HX.out).mono ?_; rintro e w3 ⟨rfl, hb⟩; have HX3 := Lib.hid (bnext HX.out hb); have HK3 := Lib.hid (HK.out.keep hb); clear hb; have k1 := HK3.out.cell 1 _ rfl; have k2 := HK3.out.cell 2 _ rfl; have k3 := HK3.out.cell 3 _ rfl) | (go_at_call 47; refine (HMI.out _ HX3.out).mono ?_; rintro e w4 ⟨rfl, hb⟩; have HX4 := Lib.hid (bnext HX3.out hb); have HK4 := Lib.hid (HK3.out.keep hb); clear hb; have k2' := HK4.out.cell 2 _ rfl; have k3' := HK4.out.cell 3 _ rfl) | (go_at_call 48; refine (HMT.out _ HX4.out).mono ?_; rintro e w5 ⟨rfl, hb⟩; have HX5 := Lib.hid (bnext HX4.out hb); have HK5 := Lib.hid (HK4.out.keep hb); clear hb; have k3'' := HK5.out.cell 3 _ rfl))
                go_ret
                exact ⟨ret_bool HRF.out, HX5.out⟩
          · skip
            have HRF := Lib.hid (show false = R from by rw [HPT.out]; rw [decide_eq_false (show ¬ (NT : Int) ≤ 120 from t5)]; simp)
            go_enter Try.func26, Try.ntmps26
            go_wp2_with (first | (go_at_call 45; refine (within_c (by first | exact H1.out | exact H7.out) _).mono ?_; rintro e w3 ⟨rfl, rfl⟩; (try have k0 := HK.out.cell 0 _ rfl)) | (go_at_call 46; refine (HMF.out _ HX.out).mono ?_; rintro e w3 ⟨rfl, hb⟩; have HX3 := Lib.hid (bnext HX.out hb); have HK3 := Lib.hid (HK.out.keep hb); clear hb; have k1 := HK3.out.cell 1 _ rfl; have k2 := HK3.out.cell 2 _ rfl; have k3 := HK3.out.cell 3 _ rfl) | (go_at_call 47; refine (HMI.out _ HX3.out).mono ?_; rintro e w4 ⟨rfl, hb⟩; have HX4 := Lib.hid (bnext HX3.out hb); have HK4 := Lib.hid (HK3.out.keep hb); clear hb; have k2' := HK4.out.cell 2 _ rfl; have k3' := HK4.out.cell 3 _ rfl) | (go_at_call 48; refine (HMT.out _ HX4.out).mono ?_; rintro e w5 ⟨rfl, hb⟩; have HX5 := Lib.hid (bnext HX4.out hb); have HK5 := Lib.hid (HK4.out.keep hb); clear hb; have k3'' := HK5.out.cell 3 _ rfl))
            go_ret
            exact ⟨ret_bool HRF.out, HX4.out⟩
      · skip
        have HRF := Lib.hid (show false = R from by rw [HPT.out]; rw [decide_eq_false (show ¬ (NI : Int) ≤ 120 from t3)]; simp)
        go_enter Try.func26, Try.ntmps26
        go_wp2_with (first | (go_at_call 45; refine (within_c (by first | exact H1.out | exact H7.out) _).mono ?_; rintro e w3 ⟨rfl, rfl⟩; (try have k0 := HK.out.cell 0 _ rfl)) | (go_at_call 46; refine (HMF.out _ HX.out).mono ?_; rintro e w3 ⟨rfl, hb⟩; have HX3 := Lib.hid (bnext HX.out hb); have HK3 := Lib.hid (HK.out.keep hb); clear hb; have k1 := HK3.out.cell 1 _ rfl; have k2 := HK3.out.cell 2 _ rfl; have k3 := HK3.out.cell 3 _ rfl) | (go_at_call 47; refine (HMI.out _ HX3.out).mono ?_; rintro e w4 ⟨rfl, hb⟩; have HX4 := Lib.hid (bnext HX3.out hb); have HK4 := Lib.hid (HK3.out.keep hb); clear hb; have k2' := HK4.out.cell 2 _ rfl; have k3' := HK4.out.cell 3 _ rfl) | (go_at_call 48; refine (HMT.out _ HX4.out).mono ?_; rintro e w5 ⟨rfl, hb⟩; have HX5 := Lib.hid (bnext HX4.out hb); have HK5 := Lib.hid (HK4.out.keep hb); clear hb; have k3'' := HK5.out.cell 3 _ rfl))
        go_ret
        exact ⟨ret_bool HRF.out, HX3.out⟩
end Go.Proofs.Ytkhdkepjhifffaa.PC
