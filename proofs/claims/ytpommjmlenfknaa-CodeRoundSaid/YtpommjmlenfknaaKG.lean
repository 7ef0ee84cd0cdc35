/- Whether codes are the same, by the document: of a code and another copy of it the walk tells that they are. -/
import Derived.Test.YtpommjmlenfknaaKC
namespace Go.Proofs.Ytpommjmlenfknaa.KG
open Go.RowKit Go.Proofs.Ytpommjmlenfknaa.RG Go.Proofs.Ytpommjmlenfknaa.KA Go.Proofs.Ytpommjmlenfknaa.KB
set_option linter.unusedVariables false
set_option maxRecDepth 100000
set_option maxRecDepth 100000

theorem str_ne (s t : By) : ((ByteArray.mk s.toArray) != (ByteArray.mk t.toArray)) = !(s == t) := by
  unfold bne; rw [str_eq]
set_option maxHeartbeats 16000000 in
theorem same_c (c : Cd) (fv iv tv fv2 iv2 tv2 : Value) (w : World) (S S2 : Nat → Prop) (h : HasC w S c fv iv tv) (h2 : HasC w S2 c fv2 iv2 tv2) (hl : c.funs.length ≤ 100000 ∧ c.ints.length ≤ 100000 ∧ c.texts.length ≤ 100000 ∧ ∀ f, f ∈ c.funs → f.code.length ≤ 100000) :
    Calls Try.prog 12 #[.agg #[fv, iv, tv, .int .i64 c.lets], .agg #[fv2, iv2, tv2, .int .i64 c.lets]] w fun e w' => e = .returned (.bool true) ∧ Below w.heap.size w w' := by
  obtain ⟨fo, fc, rfl, hfc⟩ := h.funs.val
  obtain ⟨io, ic, rfl, hic⟩ := h.ints.val
  obtain ⟨to_, tc, rfl, htc⟩ := h.texts.val
  obtain ⟨fo2, fc2, rfl, hfc2⟩ := h2.funs.val
  obtain ⟨io2, ic2, rfl, hic2⟩ := h2.ints.val
  obtain ⟨to2, tc2, rfl, htc2⟩ := h2.texts.val
  have HH := Lib.hid h
  have HG := Lib.hid h2
  have HLC := Lib.hid hl.2.2.2
  obtain ⟨NF, hNF⟩ : ∃ x, Hid (c.funs.length = x) := ⟨_, Lib.hid rfl⟩
  obtain ⟨NI, hNI⟩ : ∃ x, Hid (c.ints.length = x) := ⟨_, Lib.hid rfl⟩
  obtain ⟨NT, hNT⟩ : ∃ x, Hid (c.texts.length = x) := ⟨_, Lib.hid rfl⟩
  obtain ⟨LT, hLT⟩ : ∃ x, Hid (c.lets = x) := ⟨_, Lib.hid rfl⟩
  have hl1 := hl.1
  have hl2 := hl.2.1
  have hl3 := hl.2.2.1
  rw [hNF.out] at hfc hfc2 hl1 HH HG ⊢
  rw [hNI.out] at hic hic2 hl2 HH HG ⊢
  rw [hNT.out] at htc htc2 hl3 HH HG ⊢
  rw [hLT.out]
  obtain ⟨B, hB⟩ : ∃ B, Hid (w.heap.size = B) := ⟨_, Lib.hid rfl⟩
  have HK1 := Lib.hid (show Bk ((w.alloc (.cells #[.slice fo NF fc, .slice io NI ic, .slice to_ NT tc, .int .i64 LT] 27)).alloc (.cells #[.slice fo2 NF fc2, .slice io2 NI ic2, .slice to2 NT tc2, .int .i64 LT] 27)) w.heap.size #[.slice fo NF fc, .slice io NI ic, .slice to_ NT tc, .int .i64 LT] 27 from (Bk.new w _ _).alloc _)
  have HK2 := Lib.hid (Bk.new (w.alloc (.cells #[.slice fo NF fc, .slice io NI ic, .slice to_ NT tc, .int .i64 LT] 27)) #[.slice fo2 NF fc2, .slice io2 NI ic2, .slice to2 NT tc2, .int .i64 LT] 27)
  have HX := Lib.hid (bnext (balloc w (.cells #[.slice fo NF fc, .slice io NI ic, .slice to_ NT tc, .int .i64 LT] 27)) (balloc _ (.cells #[.slice fo2 NF fc2, .slice io2 NI ic2, .slice to2 NT tc2, .int .i64 LT] 27)))
  rw [World.size_alloc] at HK2
  have e1 : ((NF : Int) != (NF : Int)) = false := by simp
  have e2 : ((NI : Int) != (NI : Int)) = false := by simp
  have e3 : ((NT : Int) != (NT : Int)) = false := by simp
  have e4 : (LT != LT) = false := by simp
  clear h h2 hl
  go_enter Try.func12, Try.ntmps12
  go_wp2_with fail
  rw [hB.out] at HK1 HK2 ⊢
  generalize World.alloc (World.alloc w _) _ = W at HK1 HK2 HX ⊢
  go_loopg [5] NI (fun g iv wr => ∃ i : Nat, i + g = NI ∧ iv = .int .i64 (i : Int) ∧ Hid (Below w.heap.size w wr) ∧ Hid (Bk wr B #[.slice fo NF fc, .slice io NI ic, .slice to_ NT tc, .int .i64 LT] 27) ∧ Hid (Bk wr (B + 1) #[.slice fo2 NF fc2, .slice io2 NI ic2, .slice to2 NT tc2, .int .i64 LT] 27))
  case atStart => exact ⟨0, Nat.zero_add _, rfl, HX, HK1, HK2⟩
  case round =>
    clear HX HK1 HK2
    obtain ⟨i, hi, rfl, HX, HK1, HK2⟩ := hrel
    have k1 := HK1.out.cell 1 _ rfl
    have k2 := HK1.out.cell 2 _ rfl
    have m1 := HK2.out.cell 1 _ rfl
    have m2 := HK2.out.cell 2 _ rfl
    by_cases hlt : i < NI
    · obtain ⟨g, rfl⟩ : ∃ g, gk = g + 1 := ⟨gk - 1, by omega⟩
      have hne : c.ints ≠ [] := by intro e; have := hNI.out; rw [e] at this; simp at this; omega
      obtain ⟨b, off, cap, hve, _, hblt, hcells⟩ := HH.out.ints.open_ hne
      obtain ⟨b2, off2, cap2, hve2, _, hblt2, hcells2⟩ := HG.out.ints.open_ hne
      rw [hNI.out] at hve hve2
      cases hve
      cases hve2
      obtain ⟨n, hn⟩ := getElem?_of_lt (l := c.ints) (k := i) (by rw [hNI.out]; exact hlt)
      obtain ⟨q, hL, _⟩ := hcells i n hn
      obtain ⟨q2, hL2, _⟩ := hcells2 i n hn
      have x0 : wr.cell? ⟨b, off + i, none⟩ = some (.int .i64 n) := (HX.out.cell (p := ⟨b, off + i, none⟩) hblt).trans (by have := hL 0 _ rfl; simpa [TI, Ty.flat] using this)
      have y0 : wr.cell? ⟨b2, off2 + i, none⟩ = some (.int .i64 n) := (HX.out.cell (p := ⟨b2, off2 + i, none⟩) hblt2).trans (by have := hL2 0 _ rfl; simpa [TI, Ty.flat] using this)
      have i0 : (0 : Int) ≤ (i : Int) := by omega
      have i1 : (i : Int) < (NI : Int) := by omega
      have e5 : (n != n) = false := by simp
      clear hcells hcells2 hL hL2 hn hne
      go_wp2_with fail
      go_quiet (fail)
      go_wp2_with fail
      go_roundg g
      case rel => exact ⟨i + 1, by omega, by go_num, Lib.hid (below_dN HX.out _), Lib.hid (HK1.out.dN _), Lib.hid (HK2.out.dN _)⟩
      case measure => omega
    · go_wp2_with fail
      go_loopg [6] NT (fun g iv wr => ∃ i : Nat, i + g = NT ∧ iv = .int .i64 (i : Int) ∧ Hid (Below w.heap.size w wr) ∧ Hid (Bk wr B #[.slice fo NF fc, .slice io NI ic, .slice to_ NT tc, .int .i64 LT] 27) ∧ Hid (Bk wr (B + 1) #[.slice fo2 NF fc2, .slice io2 NI ic2, .slice to2 NT tc2, .int .i64 LT] 27))
      case atStart => exact ⟨0, Nat.zero_add _, rfl, HX, HK1, HK2⟩
      case round =>
        clear HX HK1 HK2 k1 k2 m1 m2
        obtain ⟨i2, hi2, rfl, HX, HK1, HK2⟩ := hrel
        have k2 := HK1.out.cell 2 _ rfl
        have m2 := HK2.out.cell 2 _ rfl
        by_cases hlt2 : i2 < NT
        · obtain ⟨g, rfl⟩ : ∃ g, gk = g + 1 := ⟨gk - 1, by omega⟩
          have hne : c.texts ≠ [] := by intro e; have := hNT.out; rw [e] at this; simp at this; omega
          obtain ⟨b, off, cap, hve, _, hblt, hcells⟩ := HH.out.texts.open_ hne
          obtain ⟨b2, off2, cap2, hve2, _, hblt2, hcells2⟩ := HG.out.texts.open_ hne
          rw [hNT.out] at hve hve2
          cases hve
          cases hve2
          obtain ⟨s, hn⟩ := getElem?_of_lt (l := c.texts) (k := i2) (by rw [hNT.out]; exact hlt2)
          obtain ⟨q, hL, _⟩ := hcells i2 s hn
          obtain ⟨q2, hL2, _⟩ := hcells2 i2 s hn
          have x0 : wr.cell? ⟨b, off + i2, none⟩ = some (.string ⟨s.toArray⟩) := (HX.out.cell (p := ⟨b, off + i2, none⟩) hblt).trans (by have := hL 0 _ rfl; simpa [TT, Ty.flat] using this)
          have y0 : wr.cell? ⟨b2, off2 + i2, none⟩ = some (.string ⟨s.toArray⟩) := (HX.out.cell (p := ⟨b2, off2 + i2, none⟩) hblt2).trans (by have := hL2 0 _ rfl; simpa [TT, Ty.flat] using this)
          have i0 : (0 : Int) ≤ (i2 : Int) := by omega
          have i1 : (i2 : Int) < (NT : Int) := by omega
          have es := str_ne s s
          rw [beq_self_eq_true, Bool.not_true] at es
          clear hcells hcells2 hL hL2 hn hne
          have hss : (s == s) = true := by simp
          go_wp2_with fail
          go_quiet (fail)
          go_wp2_with fail
          go_roundg g
          case rel => exact ⟨i2 + 1, by omega, by go_num, Lib.hid (below_dN HX.out _), Lib.hid (HK1.out.dN _), Lib.hid (HK2.out.dN _)⟩
          case measure => omega
        · go_wp2_with fail
          clear k2 m2
          have HX0 := HX
          go_loopg [7, 8, 9, 10] NF (fun g iv s8 s9 s10 wr => ∃ i : Nat, i + g = NF ∧ iv = .int .i64 (i : Int) ∧ Hid (Below w.heap.size w wr) ∧ Hid (Bk wr B #[.slice fo NF fc, .slice io NI ic, .slice to_ NT tc, .int .i64 LT] 27) ∧ Hid (Bk wr (B + 1) #[.slice fo2 NF fc2, .slice io2 NI ic2, .slice to2 NT tc2, .int .i64 LT] 27))
          case atStart => exact ⟨0, Nat.zero_add _, rfl, HX0, HK1, HK2⟩
          case round =>
            clear HX HX0 HK1 HK2
            obtain ⟨i3, hi3, rfl, HX, HK1, HK2⟩ := hrel
            have k0 := HK1.out.cell 0 _ rfl
            by_cases hlt3 : i3 < NF
            · obtain ⟨g, rfl⟩ : ∃ g, gk = g + 1 := ⟨gk - 1, by omega⟩
              have hne : c.funs ≠ [] := by intro e; have := hNF.out; rw [e] at this; simp at this; omega
              obtain ⟨b, off, cap, hve, _, hblt, hcells⟩ := HH.out.funs.open_ hne
              obtain ⟨b2, off2, cap2, hve2, _, hblt2, hcells2⟩ := HG.out.funs.open_ hne
              rw [hNF.out] at hve hve2
              cases hve
              cases hve2
              obtain ⟨f, hf⟩ := getElem?_of_lt (l := c.funs) (k := i3) (by rw [hNF.out]; exact hlt3)
              obtain ⟨q, hL, hq⟩ := hcells i3 f hf
              obtain ⟨q2, hL2, hq2⟩ := hcells2 i3 f hf
              obtain ⟨qv, rfl, hrow⟩ := hasBd_row hq
              obtain ⟨qv2, rfl, hrow2⟩ := hasBd_row hq2
              obtain ⟨co, cc, rfl, hcc⟩ := hrow.val
              obtain ⟨co2, cc2, rfl, hcc2⟩ := hrow2.val
              have HLC2 := Lib.hid (HLC.out f (List.mem_of_getElem? hf))
              have hM := hL.keep HX.out hblt
              have hM2 := hL2.keep HX.out hblt2
              obtain ⟨ke, lo, st, code⟩ := f
              simp only at hcc hcc2 hrow hrow2 hM hM2 HLC2
              obtain ⟨NC, hNC⟩ : ∃ x, Hid (code.length = x) := ⟨_, Lib.hid rfl⟩
              rw [hNC.out] at hcc hcc2 HLC2 hM hM2 hrow hrow2
              have x0 : wr.cell? ⟨b, off + i3 * 4, none⟩ = some (.int .i64 ke) := hM 0 _ rfl
              have x1 : wr.cell? ⟨b, off + i3 * 4 + 1, none⟩ = some (.int .i64 lo) := hM 1 _ rfl
              have x2 : wr.cell? ⟨b, off + i3 * 4 + 2, none⟩ = some (.int .i64 st) := hM 2 _ rfl
              have x3 : wr.cell? ⟨b, off + i3 * 4 + 3, none⟩ = some (.slice co NC cc) := hM 3 _ rfl
              have y0 : wr.cell? ⟨b2, off2 + i3 * 4, none⟩ = some (.int .i64 ke) := hM2 0 _ rfl
              have y1 : wr.cell? ⟨b2, off2 + i3 * 4 + 1, none⟩ = some (.int .i64 lo) := hM2 1 _ rfl
              have y2 : wr.cell? ⟨b2, off2 + i3 * 4 + 2, none⟩ = some (.int .i64 st) := hM2 2 _ rfl
              have y3 : wr.cell? ⟨b2, off2 + i3 * 4 + 3, none⟩ = some (.slice co2 NC cc2) := hM2 3 _ rfl
              have m0 := HK2.out.cell 0 _ rfl
              have l2 := HK2.out.lt
              have hNCb := HLC2.out
              have HROW := Lib.hid hrow
              have HROW2 := Lib.hid hrow2
              have i0 : (0 : Int) ≤ (i3 : Int) := by omega
              have i1 : (i3 : Int) < (NF : Int) := by omega
              have f1 : (ke != ke) = false := by simp
              have f2 : (lo != lo) = false := by simp
              have f3 : (st != st) = false := by simp
              have f4 : ((NC : Int) != (NC : Int)) = false := by simp
              have hbw : b < wr.heap.size := Nat.lt_of_lt_of_le hblt HX.out.size
              have hbw2 : b2 < wr.heap.size := Nat.lt_of_lt_of_le hblt2 HX.out.size
              obtain ⟨P, hP⟩ : ∃ P, Hid (wr.heap.size = P) := ⟨_, Lib.hid rfl⟩
              have HQ1 := Lib.hid (show Bk ((wr.alloc (.cells #[.int .i64 ke, .int .i64 lo, .int .i64 st, .slice co NC cc] 49)).alloc (.cells #[.int .i64 ke, .int .i64 lo, .int .i64 st, .slice co2 NC cc2] 49)) wr.heap.size #[.int .i64 ke, .int .i64 lo, .int .i64 st, .slice co NC cc] 49 from (Bk.new wr _ _).alloc _)
              have HQ2 := Lib.hid (Bk.new (wr.alloc (.cells #[.int .i64 ke, .int .i64 lo, .int .i64 st, .slice co NC cc] 49)) #[.int .i64 ke, .int .i64 lo, .int .i64 st, .slice co2 NC cc2] 49)
              rw [World.size_alloc] at HQ2
              have HXA := Lib.hid (bnext HX.out (bnext (balloc wr (.cells #[.int .i64 ke, .int .i64 lo, .int .i64 st, .slice co NC cc] 49)) (balloc _ (.cells #[.int .i64 ke, .int .i64 lo, .int .i64 st, .slice co2 NC cc2] 49))))
              have HKA1 := Lib.hid ((HK1.out.alloc (.cells #[.int .i64 ke, .int .i64 lo, .int .i64 st, .slice co NC cc] 49)).alloc (.cells #[.int .i64 ke, .int .i64 lo, .int .i64 st, .slice co2 NC cc2] 49))
              have HKA2 := Lib.hid ((HK2.out.alloc (.cells #[.int .i64 ke, .int .i64 lo, .int .i64 st, .slice co NC cc] 49)).alloc (.cells #[.int .i64 ke, .int .i64 lo, .int .i64 st, .slice co2 NC cc2] 49))
              clear hcells hcells2 hL hL2 hM hM2 hf hne hq hq2 hrow hrow2 HK1 HK2 HX
              go_wp2_with fail
              rw [hP.out] at HQ1 HQ2 ⊢
              clear x0 x1 x2 x3 y0 y1 y2 y3 k0 m0 l2 hbw hbw2
              generalize World.alloc (World.alloc wr _) _ = W3 at HQ1 HQ2 HXA HKA1 HKA2 ⊢
              go_loopg [10] NC (fun g jv wr => ∃ j : Nat, j + g = NC ∧ jv = .int .i64 (j : Int) ∧ Hid (Below w.heap.size w wr) ∧ Hid (Bk wr B #[.slice (some ⟨b, off, none⟩) NF fc, .slice io NI ic, .slice to_ NT tc, .int .i64 LT] 27) ∧ Hid (Bk wr (B + 1) #[.slice (some ⟨b2, off2, none⟩) NF fc2, .slice io2 NI ic2, .slice to2 NT tc2, .int .i64 LT] 27) ∧ Hid (Bk wr P #[.int .i64 ke, .int .i64 lo, .int .i64 st, .slice co NC cc] 49) ∧ Hid (Bk wr (P + 1) #[.int .i64 ke, .int .i64 lo, .int .i64 st, .slice co2 NC cc2] 49))
              case atStart => exact ⟨0, Nat.zero_add _, rfl, HXA, HKA1, HKA2, HQ1, HQ2⟩
              case round =>
                clear HXA HKA1 HKA2 HQ1 HQ2
                obtain ⟨j, hj, rfl, HXA, HKA1, HKA2, HQ1, HQ2⟩ := hrel
                have z3 := HQ1.out.cell 3 _ rfl
                have v3 := HQ2.out.cell 3 _ rfl
                by_cases hltj : j < NC
                · obtain ⟨g4, rfl⟩ : ∃ g, gk = g + 1 := ⟨gk - 1, by omega⟩
                  have hne : code ≠ [] := by intro e; have := hNC.out; rw [e] at this; simp at this; omega
                  have hro := HROW.out
                  have hro2 := HROW2.out
                  rw [← hNC.out] at hro hro2
                  obtain ⟨b5, off5, cap5, hve, _, hblt5, hcells⟩ := hro.open_ hne
                  obtain ⟨b6, off6, cap6, hve2, _, hblt6, hcells2⟩ := hro2.open_ hne
                  cases hve
                  cases hve2
                  obtain ⟨ins, hi⟩ := getElem?_of_lt (l := code) (k := j) (by rw [hNC.out]; exact hltj)
                  obtain ⟨q, hL, _⟩ := hcells j ins hi
                  obtain ⟨q2, hL2, _⟩ := hcells2 j ins hi
                  have hM := hL.keep HXA.out hblt5
                  have hM2 := hL2.keep HXA.out hblt6
                  obtain ⟨op, ia, ib⟩ := ins
                  have x0 : wr.cell? ⟨b5, off5 + j * 3, none⟩ = some (.int .i64 op) := hM 0 _ rfl
                  have x1 : wr.cell? ⟨b5, off5 + j * 3 + 1, none⟩ = some (.int .i64 ia) := hM 1 _ rfl
                  have x2 : wr.cell? ⟨b5, off5 + j * 3 + 2, none⟩ = some (.int .i64 ib) := hM 2 _ rfl
                  have y0 : wr.cell? ⟨b6, off6 + j * 3, none⟩ = some (.int .i64 op) := hM2 0 _ rfl
                  have y1 : wr.cell? ⟨b6, off6 + j * 3 + 1, none⟩ = some (.int .i64 ia) := hM2 1 _ rfl
                  have y2 : wr.cell? ⟨b6, off6 + j * 3 + 2, none⟩ = some (.int .i64 ib) := hM2 2 _ rfl
                  have i2 : (0 : Int) ≤ (j : Int) := by omega
                  have i3' : (j : Int) < (code.length : Int) := by rw [hNC.out]; omega
                  clear hcells hcells2 hL hL2 hM hM2 hi hne hro hro2
                  go_wp2_with fail
                  go_quiet (fail)
                  go_wp2_with fail
                  go_roundg g4
                  case rel => exact ⟨j + 1, by omega, by go_num, Lib.hid (below_dN HXA.out _), Lib.hid (HKA1.out.dN _), Lib.hid (HKA2.out.dN _), Lib.hid (HQ1.out.dN _), Lib.hid (HQ2.out.dN _)⟩
                  case measure => omega
                · go_wp2_with fail
                  go_roundg g
                  case rel => exact ⟨i3 + 1, by omega, by go_num, HXA, HKA1, HKA2⟩
                  case measure => omega
            · go_wp2_with fail
              go_ret
              exact ⟨rfl, HX.out⟩
end Go.Proofs.Ytpommjmlenfknaa.KG
