/- Whether a code may be, by the document: the walk. -/
import Derived.Test.YtkhdkepjhifffaaKB
namespace Go.Proofs.Ytkhdkepjhifffaa.KC
open Go.RowKit Go.Proofs.Ytkhdkepjhifffaa.RG Go.Proofs.Ytkhdkepjhifffaa.KA Go.Proofs.Ytkhdkepjhifffaa.KB
set_option linter.unusedVariables false
set_option maxRecDepth 100000
set_option maxRecDepth 100000

theorem may_head {c : Cd} (h : headOk c = false) : mayB c = false := by unfold mayB; rw [h]; rfl
theorem may_ints {c : Cd} (h : c.ints.all intOk = false) : mayB c = false := by unfold mayB; rw [h]; simp
theorem may_texts {c : Cd} (h : c.texts.all textOk = false) : mayB c = false := by unfold mayB; rw [h]; simp
theorem may_funs {c : Cd} (h : c.funs.all bodyOk = false) : mayB c = false := by unfold mayB; rw [h]; simp
theorem may_all {c : Cd} (h1 : headOk c = true) (h2 : c.ints.all intOk = true) (h3 : c.texts.all textOk = true) (h4 : c.funs.all bodyOk = true) : mayB c = true := by unfold mayB; rw [h1, h2, h3, h4]; rfl
set_option maxHeartbeats 16000000 in
theorem may_c (c : Cd) (fv iv tv : Value) (w : World) (S : Nat → Prop) (h : HasC w S c fv iv tv) (hl : c.funs.length ≤ 100000 ∧ c.ints.length ≤ 100000 ∧ c.texts.length ≤ 100000 ∧ ∀ f, f ∈ c.funs → f.code.length ≤ 100000) :
    Calls Try.prog 29 #[.agg #[fv, iv, tv, .int .i64 c.lets]] w fun e w' => e = .returned (.bool (mayB c)) ∧ Below w.heap.size w w' := by
  obtain ⟨R, HR⟩ : ∃ R, Hid (mayB c = R) := ⟨_, Lib.hid rfl⟩
  rw [HR.out]
  obtain ⟨fo, fc, rfl, hfc⟩ := h.funs.val
  obtain ⟨io, ic, rfl, hic⟩ := h.ints.val
  obtain ⟨to_, tc, rfl, htc⟩ := h.texts.val
  have HH := Lib.hid h
  have HLC := Lib.hid hl.2.2.2
  obtain ⟨NF, hNF⟩ : ∃ x, Hid (c.funs.length = x) := ⟨_, Lib.hid rfl⟩
  obtain ⟨NI, hNI⟩ : ∃ x, Hid (c.ints.length = x) := ⟨_, Lib.hid rfl⟩
  obtain ⟨NT, hNT⟩ : ∃ x, Hid (c.texts.length = x) := ⟨_, Lib.hid rfl⟩
  obtain ⟨LT, hLT⟩ : ∃ x, Hid (c.lets = x) := ⟨_, Lib.hid rfl⟩
  have hl1 := hl.1
  have hl2 := hl.2.1
  have hl3 := hl.2.2.1
  rw [hNF.out] at hfc hl1 HH ⊢
  rw [hNI.out] at hic hl2 HH ⊢
  rw [hNT.out] at htc hl3 HH ⊢
  rw [hLT.out]
  have HK := Lib.hid (Bk.new w #[.slice fo NF fc, .slice io NI ic, .slice to_ NT tc, .int .i64 LT] 27)
  have HX := Lib.hid (balloc w (.cells #[.slice fo NF fc, .slice io NI ic, .slice to_ NT tc, .int .i64 LT] 27))
  clear h hl
  by_cases t1 : (NF : Int) < 1
  · have HRF := Lib.hid (show false = R from by
      rw [← HR.out, may_head]
      unfold headOk
      rw [hNF.out, hNI.out, hNT.out, hLT.out]
      simp
      omega)
    go_enter Try.func29, Try.ntmps29
    go_wp2_with fail
    go_ret
    exact ⟨ret_bool HRF.out, HX.out⟩
  by_cases t2 : (NF : Int) > 120
  · have HRF := Lib.hid (show false = R from by
      rw [← HR.out, may_head]
      unfold headOk
      rw [hNF.out, hNI.out, hNT.out, hLT.out]
      simp
      omega)
    go_enter Try.func29, Try.ntmps29
    go_wp2_with fail
    go_ret
    exact ⟨ret_bool HRF.out, HX.out⟩
  by_cases t3 : (NI : Int) > 120
  · have HRF := Lib.hid (show false = R from by
      rw [← HR.out, may_head]
      unfold headOk
      rw [hNF.out, hNI.out, hNT.out, hLT.out]
      simp
      omega)
    go_enter Try.func29, Try.ntmps29
    go_wp2_with fail
    go_ret
    exact ⟨ret_bool HRF.out, HX.out⟩
  by_cases t4 : (NT : Int) > 120
  · have HRF := Lib.hid (show false = R from by
      rw [← HR.out, may_head]
      unfold headOk
      rw [hNF.out, hNI.out, hNT.out, hLT.out]
      simp
      omega)
    go_enter Try.func29, Try.ntmps29
    go_wp2_with fail
    go_ret
    exact ⟨ret_bool HRF.out, HX.out⟩
  by_cases t5 : LT < 0
  · have HRF := Lib.hid (show false = R from by
      rw [← HR.out, may_head]
      unfold headOk
      rw [hNF.out, hNI.out, hNT.out, hLT.out]
      simp
      omega)
    go_enter Try.func29, Try.ntmps29
    go_wp2_with fail
    go_ret
    exact ⟨ret_bool HRF.out, HX.out⟩
  by_cases t6 : LT > 60
  · have HRF := Lib.hid (show false = R from by
      rw [← HR.out, may_head]
      unfold headOk
      rw [hNF.out, hNI.out, hNT.out, hLT.out]
      simp
      omega)
    go_enter Try.func29, Try.ntmps29
    go_wp2_with fail
    go_ret
    exact ⟨ret_bool HRF.out, HX.out⟩
  have HHD := Lib.hid (show headOk c = true from by
    unfold headOk
    rw [hNF.out, hNI.out, hNT.out, hLT.out]
    simp
    omega)
  go_enter Try.func29, Try.ntmps29
  go_wp2_with fail
  obtain ⟨B, hB⟩ : ∃ B, Hid (w.heap.size = B) := ⟨_, Lib.hid rfl⟩
  rw [hB.out] at HK ⊢
  generalize w.alloc _ = W at HK HX ⊢
  go_loopg [3] NI (fun g iv wr => ∃ i : Nat, i + g = NI ∧ iv = .int .i64 (i : Int) ∧ W = wr ∧ Hid ((c.ints.take i).all intOk = true))
  case atStart => exact ⟨0, Nat.zero_add _, rfl, rfl, Lib.hid rfl⟩
  case round =>
    obtain ⟨i, hi, rfl, rfl, HA⟩ := hrel
    have k0 := HK.out.cell 0 _ rfl
    have k1 := HK.out.cell 1 _ rfl
    have k2 := HK.out.cell 2 _ rfl
    by_cases hlt : i < NI
    · obtain ⟨g, rfl⟩ : ∃ g, gk = g + 1 := ⟨gk - 1, by omega⟩
      have hne : c.ints ≠ [] := by intro e; have := hNI.out; rw [e] at this; simp at this; omega
      obtain ⟨b, off, cap, hve, _, hblt, hcells⟩ := HH.out.ints.open_ hne
      rw [hNI.out] at hve
      cases hve
      obtain ⟨n, hn⟩ := getElem?_of_lt (l := c.ints) (k := i) (by rw [hNI.out]; exact hlt)
      obtain ⟨q, hL, _⟩ := hcells i n hn
      have x0 : W.cell? ⟨b, off + i, none⟩ = some (.int .i64 n) := (HX.out.cell (p := ⟨b, off + i, none⟩) hblt).trans (by have := hL 0 _ rfl; simpa [TI, Ty.flat] using this)
      have HN := Lib.hid hn
      have i0 : (0 : Int) ≤ (i : Int) := by omega
      have i1 : (i : Int) < (NI : Int) := by omega
      clear hcells hL hn hne
      by_cases h1 : n < -4611686018427387904
      · have HRF := Lib.hid (show false = R from by rw [← HR.out, may_ints (all_take_no HN.out (by simp [intOk]; omega))])
        go_wp2_with fail
        go_ret
        exact ⟨ret_bool HRF.out, HX.out⟩
      by_cases h2 : n > 4611686018427387903
      · have HRF := Lib.hid (show false = R from by rw [← HR.out, may_ints (all_take_no HN.out (by simp [intOk]; omega))])
        go_wp2_with fail
        go_ret
        exact ⟨ret_bool HRF.out, HX.out⟩
      · have HA2 := Lib.hid (all_take_yes HN.out (show intOk n = true by simp [intOk]; omega) HA.out)
        go_wp2_with fail
        go_roundg g
        case rel => exact ⟨i + 1, by omega, by go_num, rfl, HA2⟩
        case measure => omega
    · have HA2 := Lib.hid (show c.ints.all intOk = true from by have h := HA.out; rw [List.take_of_length_le (by rw [hNI.out]; omega)] at h; exact h)
      clear HA
      go_wp2_with fail
      go_loopg [4] NT (fun g iv wr => ∃ i : Nat, i + g = NT ∧ iv = .int .i64 (i : Int) ∧ W = wr ∧ Hid ((c.texts.take i).all textOk = true))
      case atStart => exact ⟨0, Nat.zero_add _, rfl, rfl, Lib.hid rfl⟩
      case round =>
        obtain ⟨i2, hi2, rfl, rfl, HA⟩ := hrel
        by_cases hlt2 : i2 < NT
        · obtain ⟨g, rfl⟩ : ∃ g, gk = g + 1 := ⟨gk - 1, by omega⟩
          have hne : c.texts ≠ [] := by intro e; have := hNT.out; rw [e] at this; simp at this; omega
          obtain ⟨b, off, cap, hve, _, hblt, hcells⟩ := HH.out.texts.open_ hne
          rw [hNT.out] at hve
          cases hve
          obtain ⟨s, hn⟩ := getElem?_of_lt (l := c.texts) (k := i2) (by rw [hNT.out]; exact hlt2)
          obtain ⟨q, hL, _⟩ := hcells i2 s hn
          have x0 : W.cell? ⟨b, off + i2, none⟩ = some (.string ⟨s.toArray⟩) := (HX.out.cell (p := ⟨b, off + i2, none⟩) hblt).trans (by have := hL 0 _ rfl; simpa [TT, Ty.flat] using this)
          have HN := Lib.hid hn
          have i0 : (0 : Int) ≤ (i2 : Int) := by omega
          have i1 : (i2 : Int) < (NT : Int) := by omega
          have hsz : (ByteArray.mk s.toArray).size = s.length := rfl
          clear hcells hL hn hne
          by_cases h1 : (s.length : Int) > 60
          · have HRF := Lib.hid (show false = R from by rw [← HR.out, may_texts (all_take_no HN.out (by simp [textOk]; omega))])
            go_wp2_with fail
            go_ret
            exact ⟨ret_bool HRF.out, HX.out⟩
          · have HA2 := Lib.hid (all_take_yes HN.out (show textOk s = true by simp [textOk]; omega) HA.out)
            go_wp2_with fail
            go_roundg g
            case rel => exact ⟨i2 + 1, by omega, by go_num, rfl, HA2⟩
            case measure => omega
        · have HA3 := Lib.hid (show c.texts.all textOk = true from by have h := HA.out; rw [List.take_of_length_le (by rw [hNT.out]; omega)] at h; exact h)
          clear HA
          go_wp2_with fail
          clear k0 k1 k2
          have HX0 := HX
          go_loopg [5, 6, 7, 8] NF (fun g iv s6 s7 s8 wr => ∃ i : Nat, i + g = NF ∧ iv = .int .i64 (i : Int) ∧ Hid ((c.funs.take i).all bodyOk = true) ∧ Hid (Below w.heap.size w wr) ∧ Hid (Bk wr B #[.slice fo NF fc, .slice io NI ic, .slice to_ NT tc, .int .i64 LT] 27))
          case atStart => exact ⟨0, Nat.zero_add _, rfl, Lib.hid rfl, HX0, HK⟩
          case round =>
            clear HX HX0 HK
            obtain ⟨i3, hi3, rfl, HA, HX, HK⟩ := hrel
            have k0 := HK.out.cell 0 _ rfl
            by_cases hlt3 : i3 < NF
            · obtain ⟨g, rfl⟩ : ∃ g, gk = g + 1 := ⟨gk - 1, by omega⟩
              have hne : c.funs ≠ [] := by intro e; have := hNF.out; rw [e] at this; simp at this; omega
              obtain ⟨b, off, cap, hve, _, hblt, hcells⟩ := HH.out.funs.open_ hne
              rw [hNF.out] at hve
              cases hve
              obtain ⟨f, hf⟩ := getElem?_of_lt (l := c.funs) (k := i3) (by rw [hNF.out]; exact hlt3)
              obtain ⟨q, hL, hq⟩ := hcells i3 f hf
              obtain ⟨qv, rfl, hrow⟩ := hasBd_row hq
              obtain ⟨co, cc, rfl, hcc⟩ := hrow.val
              have HLC2 := Lib.hid (HLC.out f (List.mem_of_getElem? hf))
              have HF := Lib.hid hf
              have hL2 := hL.keep HX.out hblt
              obtain ⟨ke, lo, st, code⟩ := f
              simp only at hcc hrow hL2 HLC2
              obtain ⟨NC, hNC⟩ : ∃ x, Hid (code.length = x) := ⟨_, Lib.hid rfl⟩
              rw [hNC.out] at hcc hrow HLC2 hL2
              have x0 : wr.cell? ⟨b, off + i3 * 4, none⟩ = some (.int .i64 ke) := hL2 0 _ rfl
              have x1 : wr.cell? ⟨b, off + i3 * 4 + 1, none⟩ = some (.int .i64 lo) := hL2 1 _ rfl
              have x2 : wr.cell? ⟨b, off + i3 * 4 + 2, none⟩ = some (.int .i64 st) := hL2 2 _ rfl
              have x3 : wr.cell? ⟨b, off + i3 * 4 + 3, none⟩ = some (.slice co NC cc) := hL2 3 _ rfl
              have HROW := Lib.hid hrow
              have i0 : (0 : Int) ≤ (i3 : Int) := by omega
              have i1 : (i3 : Int) < (NF : Int) := by omega
              have HB3 := Lib.hid (Bk.new wr #[.int .i64 ke, .int .i64 lo, .int .i64 st, .slice co NC cc] 49)
              have HXA := Lib.hid (bnext HX.out (balloc wr (.cells #[.int .i64 ke, .int .i64 lo, .int .i64 st, .slice co NC cc] 49)))
              have HKA := Lib.hid (HK.out.alloc (.cells #[.int .i64 ke, .int .i64 lo, .int .i64 st, .slice co NC cc] 49))
              clear hcells hL hL2 hf hne hq hrow HK HX
              by_cases b1 : ke < 0
              · have HRF := Lib.hid (show false = R from by
                  rw [← HR.out, may_funs (all_take_no HF.out ?_)]
                  unfold bodyOk
                  rw [hNC.out]
                  simp only [Bool.and_eq_false_iff, decide_eq_false_iff_not]
                  omega)
                go_wp2_with fail
                go_ret
                exact ⟨ret_bool HRF.out, HXA.out⟩
              by_cases b2 : ke > 59
              · have HRF := Lib.hid (show false = R from by
                  rw [← HR.out, may_funs (all_take_no HF.out ?_)]
                  unfold bodyOk
                  rw [hNC.out]
                  simp only [Bool.and_eq_false_iff, decide_eq_false_iff_not]
                  omega)
                go_wp2_with fail
                go_ret
                exact ⟨ret_bool HRF.out, HXA.out⟩
              by_cases b3 : lo < 0
              · have HRF := Lib.hid (show false = R from by
                  rw [← HR.out, may_funs (all_take_no HF.out ?_)]
                  unfold bodyOk
                  rw [hNC.out]
                  simp only [Bool.and_eq_false_iff, decide_eq_false_iff_not]
                  omega)
                go_wp2_with fail
                go_ret
                exact ⟨ret_bool HRF.out, HXA.out⟩
              by_cases b4 : lo > 60
              · have HRF := Lib.hid (show false = R from by
                  rw [← HR.out, may_funs (all_take_no HF.out ?_)]
                  unfold bodyOk
                  rw [hNC.out]
                  simp only [Bool.and_eq_false_iff, decide_eq_false_iff_not]
                  omega)
                go_wp2_with fail
                go_ret
                exact ⟨ret_bool HRF.out, HXA.out⟩
              by_cases b5 : st < 1
              · have HRF := Lib.hid (show false = R from by
                  rw [← HR.out, may_funs (all_take_no HF.out ?_)]
                  unfold bodyOk
                  rw [hNC.out]
                  simp only [Bool.and_eq_false_iff, decide_eq_false_iff_not]
                  omega)
                go_wp2_with fail
                go_ret
                exact ⟨ret_bool HRF.out, HXA.out⟩
              by_cases b6 : st > 60
              · have HRF := Lib.hid (show false = R from by
                  rw [← HR.out, may_funs (all_take_no HF.out ?_)]
                  unfold bodyOk
                  rw [hNC.out]
                  simp only [Bool.and_eq_false_iff, decide_eq_false_iff_not]
                  omega)
                go_wp2_with fail
                go_ret
                exact ⟨ret_bool HRF.out, HXA.out⟩
              by_cases b7 : (NC : Int) < 1
              · have HRF := Lib.hid (show false = R from by
                  rw [← HR.out, may_funs (all_take_no HF.out ?_)]
                  unfold bodyOk
                  rw [hNC.out]
                  simp only [Bool.and_eq_false_iff, decide_eq_false_iff_not]
                  omega)
                go_wp2_with fail
                go_ret
                exact ⟨ret_bool HRF.out, HXA.out⟩
              by_cases b8 : (NC : Int) > 400
              · have HRF := Lib.hid (show false = R from by
                  rw [← HR.out, may_funs (all_take_no HF.out ?_)]
                  unfold bodyOk
                  rw [hNC.out]
                  simp only [Bool.and_eq_false_iff, decide_eq_false_iff_not]
                  omega)
                go_wp2_with fail
                go_ret
                exact ⟨ret_bool HRF.out, HXA.out⟩
              go_wp2_with fail
              obtain ⟨B3, hB3⟩ : ∃ B, Hid (wr.heap.size = B) := ⟨_, Lib.hid rfl⟩
              rw [hB3.out] at HB3 ⊢
              clear x0 x1 x2 x3 k0
              generalize wr.alloc _ = W3 at HB3 HXA HKA ⊢
              go_loopg [7, 8] NC (fun g jv s8 wr => ∃ j : Nat, j + g = NC ∧ jv = .int .i64 (j : Int) ∧ Hid ((code.take j).all insOk = true) ∧ Hid (Below w.heap.size w wr) ∧ Hid (Bk wr B #[.slice (some ⟨b, off, none⟩) NF fc, .slice io NI ic, .slice to_ NT tc, .int .i64 LT] 27) ∧ Hid (Bk wr B3 #[.int .i64 ke, .int .i64 lo, .int .i64 st, .slice co NC cc] 49))
              case atStart => exact ⟨0, Nat.zero_add _, rfl, Lib.hid rfl, HXA, HKA, HB3⟩
              case round =>
                clear HXA HKA HB3
                obtain ⟨j, hj, rfl, HAJ, HX, HK, HB4⟩ := hrel
                have y3 := HB4.out.cell 3 _ rfl
                by_cases hltj : j < NC
                · obtain ⟨g4, rfl⟩ : ∃ g, gk = g + 1 := ⟨gk - 1, by omega⟩
                  have hne : code ≠ [] := by intro e; have := hNC.out; rw [e] at this; simp at this; omega
                  have hro := HROW.out
                  rw [← hNC.out] at hro
                  obtain ⟨b5, off5, cap5, hve, _, hblt5, hcells⟩ := hro.open_ hne
                  cases hve
                  obtain ⟨ins, hi⟩ := getElem?_of_lt (l := code) (k := j) (by rw [hNC.out]; exact hltj)
                  obtain ⟨q, hL, _⟩ := hcells j ins hi
                  have hL2 := hL.keep HX.out hblt5
                  have HIN := Lib.hid hi
                  obtain ⟨op, ia, ib⟩ := ins
                  have x0 : wr.cell? ⟨b5, off5 + j * 3, none⟩ = some (.int .i64 op) := hL2 0 _ rfl
                  have x1 : wr.cell? ⟨b5, off5 + j * 3 + 1, none⟩ = some (.int .i64 ia) := hL2 1 _ rfl
                  have x2 : wr.cell? ⟨b5, off5 + j * 3 + 2, none⟩ = some (.int .i64 ib) := hL2 2 _ rfl
                  have i2 : (0 : Int) ≤ (j : Int) := by omega
                  have i3' : (j : Int) < (code.length : Int) := by rw [hNC.out]; omega
                  have C1 := fun w => instr_c ⟨op, ia, ib⟩ w
                  simp only at C1
                  clear hcells hL hL2 hi hne hro
                  cases hok : insOk ⟨op, ia, ib⟩
                  · rw [hok] at C1
                    have HRF := Lib.hid (show false = R from by
                      rw [← HR.out, may_funs (all_take_no HF.out ?_)]
                      unfold bodyOk
                      rw [show ((⟨ke, lo, st, code⟩ : Bd).code.all insOk) = false from all_take_no HIN.out hok]
                      simp)
                    clear hok
                    go_wp2_with (go_at_call 23; refine (C1 _).mono ?_; rintro e w5 ⟨rfl, hb5⟩; have HX5 := Lib.hid (bnext HX.out hb5); clear hb5)
                    go_ret
                    exact ⟨ret_bool HRF.out, HX5.out⟩
                  · rw [hok] at C1
                    have HA2 := Lib.hid (all_take_yes HIN.out hok HAJ.out)
                    clear hok
                    go_wp2_with (go_at_call 23; refine (C1 _).mono ?_; rintro e w5 ⟨rfl, hb5⟩; have HX5 := Lib.hid (bnext HX.out hb5); have HK5 := Lib.hid (HK.out.keep hb5); have HB5 := Lib.hid (HB4.out.keep hb5); clear hb5)
                    go_roundg g4
                    case rel => exact ⟨j + 1, by omega, by go_num, HA2, HX5, HK5, HB5⟩
                    case measure => omega
                · have HA2 := Lib.hid (all_take_yes HF.out (show bodyOk ⟨ke, lo, st, code⟩ = true from by
                    have h := HAJ.out
                    rw [List.take_of_length_le (by rw [hNC.out]; omega)] at h
                    unfold bodyOk
                    rw [h, hNC.out]
                    simp
                    omega) HA.out)
                  go_wp2_with fail
                  go_roundg g
                  case rel => exact ⟨i3 + 1, by omega, by go_num, HA2, HX, HK⟩
                  case measure => omega
            · have HA4 := Lib.hid (show c.funs.all bodyOk = true from by have h := HA.out; rw [List.take_of_length_le (by rw [hNF.out]; omega)] at h; exact h)
              have HRT := Lib.hid (show true = R from by rw [← HR.out, may_all HHD.out HA2.out HA3.out HA4.out])
              go_wp2_with fail
              go_ret
              exact ⟨ret_bool HRT.out, HX.out⟩
end Go.Proofs.Ytkhdkepjhifffaa.KC
