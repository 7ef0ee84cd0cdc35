/- The program's Code and Depths. -/
import Derived.Test.YtkhdkepjhifffaaVN
import Derived.Test.YtkhdkepjhifffaaPC
import Derived.Test.YtkhdkepjhifffaaPE
namespace Go.Proofs.Ytkhdkepjhifffaa.VO
open Go.RowKit Go.Proofs.Ytkhdkepjhifffaa.RG Go.Proofs.Ytkhdkepjhifffaa.RB Go.Proofs.Ytkhdkepjhifffaa.KA Go.Proofs.Ytkhdkepjhifffaa.KB Go.Proofs.Ytkhdkepjhifffaa.KH Go.Proofs.Ytkhdkepjhifffaa.PC Go.Proofs.Ytkhdkepjhifffaa.PE Go.Proofs.Ytkhdkepjhifffaa.VA Go.Proofs.Ytkhdkepjhifffaa.VB Go.Proofs.Ytkhdkepjhifffaa.VE Go.Proofs.Ytkhdkepjhifffaa.VF Go.Proofs.Ytkhdkepjhifffaa.VJ Go.Proofs.Ytkhdkepjhifffaa.VK Go.Proofs.Ytkhdkepjhifffaa.VL Go.Proofs.Ytkhdkepjhifffaa.VM Go.Proofs.Ytkhdkepjhifffaa.VN
set_option linter.unusedVariables false
set_option maxRecDepth 100000
set_option maxRecDepth 100000

theorem fok_of {c : Cd} {n : Nat} {f : Bd} (h : mayB c = true) (hf : c.funs[n]? = some f) : FOk f := by
  unfold mayB at h
  simp only [Bool.and_eq_true] at h
  have h9 := List.all_eq_true.1 h.2 f (List.mem_of_getElem? hf)
  unfold bodyOk at h9
  simp only [Bool.and_eq_true, decide_eq_true_eq] at h9
  obtain ⟨⟨⟨⟨⟨⟨⟨⟨a1, a2⟩, a3⟩, a4⟩, a5⟩, a6⟩, a7⟩, a8⟩, a9⟩ := h9
  refine ⟨by omega, a8, a5, a6, fun a i hi => ?_⟩
  have hk := List.all_eq_true.1 a9 i (List.mem_of_getElem? hi)
  unfold insOk at hk
  simp only [Bool.and_eq_true, Bool.not_eq_true', Bool.or_eq_false_iff, decide_eq_false_iff_not] at hk
  obtain ⟨⟨⟨⟨⟨h1, h2⟩, h3⟩, h4⟩, h5⟩, _⟩ := hk
  have hop : ¬ (i.op < 1 ∨ 33 < i.op) := fun hx => h1 (by unfold uses; rw [if_pos hx]; decide)
  omega
theorem may_sizes {c : Cd} (h : mayB c = true) : c.funs.length ≤ 120 ∧ 1 ≤ c.funs.length := by
  unfold mayB headOk at h
  simp only [Bool.and_eq_true, decide_eq_true_eq] at h
  omega
/-- All functions hold together. -/
def AllOk (c : Cd) : Prop := ∀ (n : Nat) (f : Bd), c.funs[n]? = some f → Ok f.code.length f.stack (goes c n f)
def CodeRes (c : Cd) (w : World) (e : Ending) (w' : World) : Prop :=
  Below w.heap.size w w' ∧ ((mayB c = false ∧ e = .returned (.int .i64 1)) ∨ (mayB c = true ∧ AllOk c ∧ e = .returned (.int .i64 0)) ∨ (mayB c = true ∧ ¬ AllOk c ∧ e = .returned (.int .i64 30)))
theorem ans_yes {N : Nat} {K : Int} {nx : Nat → Sx → Option (List (Nat × Sx))} {A : Row} (h : Ans N K nx (some A)) : Ok N K nx := by
  cases h with
  | yes _ h _ => exact h
theorem ans_no {N : Nat} {K : Int} {nx : Nat → Sx → Option (List (Nat × Sx))} (h : Ans N K nx none) : ¬ Ok N K nx := by
  cases h with
  | no h => exact h
set_option maxHeartbeats 16000000 in
theorem code_c (c : Cd) (fv iv tv : Value) (w : World) (S : Nat → Prop) (h : HasC w S c fv iv tv) (hl : c.funs.length ≤ 100000000000 ∧ c.ints.length ≤ 100000000000 ∧ c.texts.length ≤ 100000000000 ∧ ∀ f, f ∈ c.funs → f.code.length ≤ 100000000000) :
    Calls Try.prog 17 #[.agg #[fv, iv, tv, .int .i64 c.lets]] w (CodeRes c w) := by
  obtain ⟨fo, fc, rfl, _⟩ := h.funs.val
  obtain ⟨io, ic, rfl, _⟩ := h.ints.val
  obtain ⟨to_, tc, rfl, _⟩ := h.texts.val
  have HC := Lib.hid h
  have HMAY := Lib.hid (fun w' (hb : Below w.heap.size w w') => pmay_c c _ _ _ w' S (h.keep hb) hl)
  obtain ⟨NF, hNF⟩ : ∃ x, Hid (c.funs.length = x) := ⟨_, Lib.hid rfl⟩
  obtain ⟨NI, hNI⟩ : ∃ x, Hid (c.ints.length = x) := ⟨_, Lib.hid rfl⟩
  obtain ⟨NT, hNT⟩ : ∃ x, Hid (c.texts.length = x) := ⟨_, Lib.hid rfl⟩
  obtain ⟨LT, hLT⟩ : ∃ x, Hid (c.lets = x) := ⟨_, Lib.hid rfl⟩
  obtain ⟨MB, hMB⟩ : ∃ x, Hid (mayB c = x) := ⟨_, Lib.hid rfl⟩
  have HBEG : Hid (∀ (n : Nat) (f : Bd) (r : Nat) (w' : World), Below w.heap.size w w' → mayB c = true → c.funs[n]? = some f → Calls Try.prog 32 #[.agg #[.slice fo NF fc, .slice io NI ic, .slice to_ NT tc, .int .i64 LT], .int .i64 (n : Int), .map (some r)] w' (BeginRes c n f (.map (some r)) S w')) := Lib.hid fun n f r w' hb hm hf => by
    have F := fok_of hm hf
    have := begin_c c _ _ _ n f r w' S (h.keep hb) hf (Nat.le_trans F.n1 (by decide)) (Nat.le_trans (may_sizes hm).1 (by decide))
    rw [hNF.out, hNI.out, hNT.out, hLT.out] at this
    exact this
  rw [hNF.out, hNI.out, hNT.out, hLT.out] at HMAY ⊢
  rw [hMB.out] at HMAY
  have HX := Lib.hid (balloc w (.cells #[.slice fo NF fc, .slice io NI ic, .slice to_ NT tc, .int .i64 LT] 27))
  have HK := Lib.hid (Bk.new w #[.slice fo NF fc, .slice io NI ic, .slice to_ NT tc, .int .i64 LT] 27)
  have c0 := HK.out.cell 0 (.slice fo NF fc) rfl
  have c1 := HK.out.cell 1 (.slice io NI ic) rfl
  have c2 := HK.out.cell 2 (.slice to_ NT tc) rfl
  have c3 := HK.out.cell 3 (.int .i64 LT) rfl
  clear h hl
  go_enter Try.func17, Try.ntmps17
  go_wp2_with fail
  refine (HMAY.out _ HX.out).mono ?_
  rintro e w1 ⟨rfl, hb1⟩
  have HX1 := Lib.hid (bnext HX.out hb1)
  have HK1 := Lib.hid (HK.out.keep hb1)
  clear hb1 c0 c1 c2 c3
  cases MB
  · go_wp2_with fail
    go_ret
    exact ⟨HX1.out, .inl ⟨hMB.out, rfl⟩⟩
  · have k0 := HK1.out.cell 0 (.slice fo NF fc) rfl
    go_wp2_with fail
    refine (rules_c w1).mono ?_
    rintro e w2 ⟨r, vs, rfl, hri, hvs⟩
    have HX2 := Lib.hid (bnext HX1.out hri.bel)
    have HK2 := Lib.hid (HK1.out.keep hri.bel)
    have HRI := Lib.hid hri
    have HVS := Lib.hid hvs
    clear hri hvs k0
    have k0 := HK2.out.cell 0 (.slice fo NF fc) rfl
    go_wp2_with fail
    go_loopg [4, 5, 13] NF (fun g s4 s5 jv wr => ∃ i : Nat, i + g = NF ∧ jv = .int .i64 (i : Int) ∧ Hid (Below w.heap.size w wr) ∧ Hid (Bk wr w.heap.size #[.slice fo NF fc, .slice io NI ic, .slice to_ NT tc, .int .i64 LT] 27) ∧ Hid (RI w1 wr r vs) ∧ Hid (∀ (n : Nat) (f : Bd), n < i → c.funs[n]? = some f → Ok f.code.length f.stack (goes c n f)))
    case atStart => exact ⟨0, Nat.zero_add _, rfl, HX2, HK2, HRI, Lib.hid (fun n f h => by omega)⟩
    case round =>
      clear HX2 HK2 HRI k0
      obtain ⟨i, hin, rfl, HXR, HKR, HRI, HALL⟩ := hrel
      by_cases hlt : i < NF
      · obtain ⟨g, rfl⟩ : ∃ g, gk = g + 1 := ⟨gk - 1, by omega⟩
        obtain ⟨f, hf⟩ := getElem?_of_lt (l := c.funs) (k := i) (by rw [hNF.out]; exact hlt)
        have k0 := HKR.out.cell 0 (.slice fo NF fc) rfl
        have k1 := HKR.out.cell 1 (.slice io NI ic) rfl
        have k2 := HKR.out.cell 2 (.slice to_ NT tc) rfl
        have k3 := HKR.out.cell 3 (.int .i64 LT) rfl
        have HF := Lib.hid hf
        have i4 : (i : Int) < (NF : Int) := by omega
        clear hf
        go_wp2_with fail
        refine (HBEG.out i f r wr HXR.out hMB.out HF.out).mono ?_
        rintro e w3 ⟨p, k, rfl, hwk, hwok, hmp, hb3⟩
        have HB3 := Lib.hid hb3
        have HOL := Lib.hid (holds_c wr.heap.size wr p k c i f S r vs w1 w3 hwk hwok HRI.out HVS.out hmp rfl hb3 (fok_of hMB.out HF.out))
        have HWN := Lib.hid (And.intro hwok.N hwok.st)
        clear hwk hwok hmp hb3 k0 k1 k2 k3
        go_wp2_with fail
        refine HOL.out.mono ?_
        rintro e w4 ⟨hb4, (⟨A, ov, hans, rfl, _⟩ | ⟨hans, rfl⟩)⟩
        · have hok := ans_yes hans
          rw [HWN.out.1, HWN.out.2] at hok
          have hb := HB3.out.trans hb4
          have HX4 := Lib.hid (bnext HXR.out hb)
          have HK4 := Lib.hid (HKR.out.keep hb)
          have HR4 := Lib.hid (HRI.out.keep hb)
          have HALL4 : Hid (∀ (n : Nat) (f : Bd), n < i + 1 → c.funs[n]? = some f → Ok f.code.length f.stack (goes c n f)) := Lib.hid fun n f' hn hf' => by
            rcases Nat.lt_or_eq_of_le (Nat.le_of_lt_succ hn) with h | h
            · exact HALL.out n f' h hf'
            · subst h
              have e := HF.out
              rw [hf'] at e
              cases e
              exact hok
          clear hans hok hb hb4
          go_wp2_with fail
          go_roundg g
          case rel => exact ⟨i + 1, by omega, by have hn9 := (may_sizes hMB.out).1; rw [hNF.out] at hn9; congr 1; unfold wrap64; omega, HX4, HK4, HR4, HALL4⟩
          case measure => omega
        · have hno := ans_no hans
          rw [HWN.out.1, HWN.out.2] at hno
          have HRES : Hid (CodeRes c w (.returned (.int .i64 30)) w4) := Lib.hid ⟨bnext HXR.out (HB3.out.trans hb4), .inr (.inr ⟨hMB.out, fun h => hno (h i f HF.out), rfl⟩)⟩
          clear hans hno hb4
          go_wp2_with fail
          go_ret
          exact HRES.out
      · have HRES : Hid (CodeRes c w (.returned (.int .i64 0)) wr) := Lib.hid ⟨HXR.out, .inr (.inl ⟨hMB.out, fun n f hf => HALL.out n f (by have := (List.getElem?_eq_some_iff.1 hf).1; rw [hNF.out] at this; omega) hf, rfl⟩)⟩
        go_wp2_with fail
        go_ret
        exact HRES.out
end Go.Proofs.Ytkhdkepjhifffaa.VO
