/- The document's Code and Depths. -/
import Derived.Test.YtkhdkepjhifffaaVR
import Derived.Test.YtkhdkepjhifffaaVP
import Derived.Test.YtkhdkepjhifffaaKC
namespace Go.Proofs.Ytkhdkepjhifffaa.VS
open Go.RowKit Go.Proofs.Ytkhdkepjhifffaa.RG Go.Proofs.Ytkhdkepjhifffaa.RB Go.Proofs.Ytkhdkepjhifffaa.KA Go.Proofs.Ytkhdkepjhifffaa.KB Go.Proofs.Ytkhdkepjhifffaa.KC Go.Proofs.Ytkhdkepjhifffaa.KH Go.Proofs.Ytkhdkepjhifffaa.VA Go.Proofs.Ytkhdkepjhifffaa.VB Go.Proofs.Ytkhdkepjhifffaa.VE Go.Proofs.Ytkhdkepjhifffaa.VF Go.Proofs.Ytkhdkepjhifffaa.VH Go.Proofs.Ytkhdkepjhifffaa.VM Go.Proofs.Ytkhdkepjhifffaa.VN Go.Proofs.Ytkhdkepjhifffaa.VO Go.Proofs.Ytkhdkepjhifffaa.VP Go.Proofs.Ytkhdkepjhifffaa.VR
set_option linter.unusedVariables false
set_option maxRecDepth 100000
set_option maxRecDepth 100000

set_option maxHeartbeats 16000000 in
theorem dcode_c (c : Cd) (fv iv tv : Value) (w : World) (S : Nat → Prop) (h : HasC w S c fv iv tv) (hl : c.funs.length ≤ 100000 ∧ c.ints.length ≤ 100000 ∧ c.texts.length ≤ 100000 ∧ ∀ f, f ∈ c.funs → f.code.length ≤ 100000) :
    Calls Try.prog 18 #[.agg #[fv, iv, tv, .int .i64 c.lets]] w (CodeRes c w) := by
  obtain ⟨fo, fc, rfl, _⟩ := h.funs.val
  obtain ⟨io, ic, rfl, _⟩ := h.ints.val
  obtain ⟨to_, tc, rfl, _⟩ := h.texts.val
  have HC := Lib.hid h
  have HMAY := Lib.hid (fun w' (hb : Below w.heap.size w w') => may_c c _ _ _ w' S (h.keep hb) hl)
  obtain ⟨NF, hNF⟩ : ∃ x, Hid (c.funs.length = x) := ⟨_, Lib.hid rfl⟩
  obtain ⟨NI, hNI⟩ : ∃ x, Hid (c.ints.length = x) := ⟨_, Lib.hid rfl⟩
  obtain ⟨NT, hNT⟩ : ∃ x, Hid (c.texts.length = x) := ⟨_, Lib.hid rfl⟩
  obtain ⟨LT, hLT⟩ : ∃ x, Hid (c.lets = x) := ⟨_, Lib.hid rfl⟩
  obtain ⟨MB, hMB⟩ : ∃ x, Hid (mayB c = x) := ⟨_, Lib.hid rfl⟩
  have HW : Hid (∀ (n : Nat) (f : Bd) (w' : World), Below w.heap.size w w' → mayB c = true → c.funs[n]? = some f → Calls Try.prog 34 #[.agg #[.slice fo NF fc, .slice io NI ic, .slice to_ NT tc, .int .i64 LT], .int .i64 (n : Int)] w' (WalkRes c n f w')) := Lib.hid fun n f w' hb hm hf => by
    have F := fok_of hm hf
    have := walk_c c _ _ _ n f w' S (h.keep hb) hf ⟨hl.1, hl.2.1, hl.2.2.1⟩ F hl.1
    rw [hNF.out, hNI.out, hNT.out, hLT.out] at this
    exact this
  rw [hNF.out, hNI.out, hNT.out, hLT.out] at HMAY ⊢
  rw [hMB.out] at HMAY
  have HX := Lib.hid (balloc w (.cells #[.slice fo NF fc, .slice io NI ic, .slice to_ NT tc, .int .i64 LT] 27))
  have HK := Lib.hid (Bk.new w #[.slice fo NF fc, .slice io NI ic, .slice to_ NT tc, .int .i64 LT] 27)
  have c0 := HK.out.cell 0 (.slice fo NF fc) rfl
  have c1 := HK.out.cell 1 (.slice io NI ic) rfl
  have c2 := HK.out.cell 2 (.slice to_ NT tc) rfl
  have c3 := HK.out.cell 3 (.int .i64 LT) rfl
  clear h hl
  go_enter Try.func18, Try.ntmps18
  go_wp2_with fail
  refine (HMAY.out _ HX.out).mono ?_
  rintro e w1 ⟨rfl, hb1⟩
  have HX1 := Lib.hid (bnext HX.out hb1)
  have HK1 := Lib.hid (HK.out.keep hb1)
  clear hb1 c0 c1 c2 c3
  cases MB
  · go_wp2_with fail
    go_ret
    exact ⟨HX1.out, .inl ⟨hMB.out, rfl⟩⟩
  · have k0 := HK1.out.cell 0 (.slice fo NF fc) rfl
    go_wp2_with fail
    go_loopg [4, 5, 6] NF (fun g jv s5 s6 wr => ∃ i : Nat, i + g = NF ∧ jv = .int .i64 (i : Int) ∧ Hid (Below w.heap.size w wr) ∧ Hid (Bk wr w.heap.size #[.slice fo NF fc, .slice io NI ic, .slice to_ NT tc, .int .i64 LT] 27) ∧ Hid (∀ (n : Nat) (f : Bd), n < i → c.funs[n]? = some f → Ok f.code.length f.stack (goes c n f)))
    case atStart => exact ⟨0, Nat.zero_add _, rfl, HX1, HK1, Lib.hid (fun n f h => by omega)⟩
    case round =>
      clear HX1 HK1 k0
      obtain ⟨i, hin, rfl, HXR, HKR, HALL⟩ := hrel
      have k0 := HKR.out.cell 0 (.slice fo NF fc) rfl
      by_cases hlt : i < NF
      · obtain ⟨g, rfl⟩ : ∃ g, gk = g + 1 := ⟨gk - 1, by omega⟩
        obtain ⟨f, hf⟩ := getElem?_of_lt (l := c.funs) (k := i) (by rw [hNF.out]; exact hlt)
        have k1 := HKR.out.cell 1 (.slice io NI ic) rfl
        have k2 := HKR.out.cell 2 (.slice to_ NT tc) rfl
        have k3 := HKR.out.cell 3 (.int .i64 LT) rfl
        have HF := Lib.hid hf
        have i4 : (i : Int) < (NF : Int) := by omega
        clear hf
        go_wp2_with fail
        refine (HW.out i f wr HXR.out hMB.out HF.out).mono ?_
        rintro e w4 ⟨hb, (⟨A, b, hans, rfl, _, _⟩ | ⟨hans, rfl⟩)⟩
        · have hok := ans_yes hans
          have HX4 := Lib.hid (bnext HXR.out hb)
          have HK4 := Lib.hid (HKR.out.keep hb)
          have HALL4 : Hid (∀ (n : Nat) (f : Bd), n < i + 1 → c.funs[n]? = some f → Ok f.code.length f.stack (goes c n f)) := Lib.hid fun n f' hn hf' => by
            rcases Nat.lt_or_eq_of_le (Nat.le_of_lt_succ hn) with h | h
            · exact HALL.out n f' h hf'
            · subst h
              have e := HF.out
              rw [hf'] at e
              cases e
              exact hok
          clear hans hok hb k0 k1 k2 k3
          go_wp2_with fail
          go_roundg g
          case rel => exact ⟨i + 1, by omega, by have hn9 := (may_sizes hMB.out).1; rw [hNF.out] at hn9; congr 1; unfold wrap64; omega, HX4, HK4, HALL4⟩
          case measure => omega
        · have hno := ans_no hans
          have HRES : Hid (CodeRes c w (.returned (.int .i64 30)) w4) := Lib.hid ⟨bnext HXR.out hb, .inr (.inr ⟨hMB.out, fun h => hno (h i f HF.out), rfl⟩)⟩
          clear hans hno hb k0 k1 k2 k3
          go_wp2_with fail
          go_ret
          exact HRES.out
      · have HRES : Hid (CodeRes c w (.returned (.int .i64 0)) wr) := Lib.hid ⟨HXR.out, .inr (.inl ⟨hMB.out, fun n f hf => HALL.out n f (by have := (List.getElem?_eq_some_iff.1 hf).1; rw [hNF.out] at this; omega) hf, rfl⟩)⟩
        have i4 : ¬ (i : Int) < (NF : Int) := by omega
        go_wp2_with fail
        go_ret
        exact HRES.out
end Go.Proofs.Ytkhdkepjhifffaa.VS
