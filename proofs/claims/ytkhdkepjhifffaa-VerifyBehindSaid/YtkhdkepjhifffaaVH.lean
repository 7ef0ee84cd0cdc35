/- What the document says that an instruction takes and puts. -/
import Derived.Test.YtkhdkepjhifffaaVB
import Derived.BigQuiet
namespace Go.Proofs.Ytkhdkepjhifffaa.VH
open Go.RowKit Go.Proofs.Ytkhdkepjhifffaa.RG Go.Proofs.Ytkhdkepjhifffaa.RB Go.Proofs.Ytkhdkepjhifffaa.KA Go.Proofs.Ytkhdkepjhifffaa.KB Go.Proofs.Ytkhdkepjhifffaa.VA Go.Proofs.Ytkhdkepjhifffaa.VB
set_option linter.unusedVariables false
set_option maxRecDepth 100000
set_option maxRecDepth 100000

def EffRes (c : Cd) (n : Nat) (f : Bd) (i : In) (w : World) (e : Ending) (w' : World) : Prop :=
  e = .returned (.tuple #[.bool (rightB c n f i), .int .i64 (takesN i), .int .i64 (putsN i.op)]) ∧ Below w.heap.size w w'
theorem eff_of {c : Cd} {n : Nat} {f : Bd} {i : In} {w w' : World} {b : Bool} {t p : Int} (h1 : rightB c n f i = b) (h2 : takesN i = t) (h3 : putsN i.op = p) (h4 : Below w.heap.size w w') : EffRes c n f i w (.returned (.tuple #[.bool b, .int .i64 t, .int .i64 p])) w' := by
  subst h1 h2 h3; exact ⟨rfl, h4⟩
/-- The sizes of a code that may be. -/
structure Sz (c : Cd) : Prop where
  funs : c.funs.length ≤ 100000
  ints : c.ints.length ≤ 100000
  texts : c.texts.length ≤ 100000
set_option maxHeartbeats 4000000 in
theorem eff_1 (c : Cd) (fv iv tv : Value) (n : Nat) (f : Bd) (an bn : Nat) (w : World) (S : Nat → Prop) (h : HasC w S c fv iv tv) (hf : c.funs[n]? = some f) (hz : Sz c) :
    Calls Try.prog 72 #[.agg #[fv, iv, tv, .int .i64 c.lets], .int .i64 (n : Int), .agg #[.int .i64 1, .int .i64 (an : Int), .int .i64 (bn : Int)]] w (EffRes c n f ⟨1, an, bn⟩ w) := by
  have hn := (List.getElem?_eq_some_iff.1 hf).1
  obtain ⟨io, ic, rfl, _⟩ := h.ints.val
  obtain ⟨to_, tc, rfl, _⟩ := h.texts.val
  obtain ⟨fb, fo, fc, rfl, _, hfb, hcell⟩ := h.funs.open_ (by intro e; rw [e] at hn; simp at hn)
  obtain ⟨q, hL, hq⟩ := hcell n f hf
  obtain ⟨qv, rfl, hrow⟩ := hasBd_row hq
  obtain ⟨co, cc, rfl, _⟩ := hrow.val
  obtain ⟨ke, lo, st, code⟩ := f
  have h1 := hz.funs
  have h2 := hz.ints
  have h3 := hz.texts
  obtain ⟨NF, hNF⟩ : ∃ x, Hid (c.funs.length = x) := ⟨_, Lib.hid rfl⟩
  obtain ⟨NI, hNI⟩ : ∃ x, Hid (c.ints.length = x) := ⟨_, Lib.hid rfl⟩
  obtain ⟨NT, hNT⟩ : ∃ x, Hid (c.texts.length = x) := ⟨_, Lib.hid rfl⟩
  obtain ⟨LT, hLT⟩ : ∃ x, Hid (c.lets = x) := ⟨_, Lib.hid rfl⟩
  have HC := Lib.hid h
  rw [hNF.out] at hn h1 ⊢
  rw [hNI.out] at h2 ⊢
  rw [hNT.out] at h3 ⊢
  rw [hLT.out]
  simp only at hrow hL ⊢
  obtain ⟨NC, hNC⟩ : ∃ x, Hid (code.length = x) := ⟨_, Lib.hid rfl⟩
  rw [hNC.out] at hL
  have HX2 := Lib.hid (bnext (balloc w (.cells #[.slice (some ⟨fb, fo, none⟩) NF fc, .slice io NI ic, .slice to_ NT tc, .int .i64 LT] 27)) (balloc _ (.cells #[.int .i64 1, .int .i64 (an : Int), .int .i64 (bn : Int)] 45)))
  have HX := Lib.hid (bnext HX2.out (balloc _ (.cells #[.int .i64 ke, .int .i64 lo, .int .i64 st, .slice co NC cc] 49)))
  have hM := hL.keep HX2.out hfb
  have y0 : ((w.alloc (.cells #[.slice (some ⟨fb, fo, none⟩) NF fc, .slice io NI ic, .slice to_ NT tc, .int .i64 LT] 27)).alloc (.cells #[.int .i64 1, .int .i64 (an : Int), .int .i64 (bn : Int)] 45)).cell? ⟨fb, fo + n * 4, none⟩ = some (.int .i64 ke) := hM 0 _ rfl
  have y1 : ((w.alloc (.cells #[.slice (some ⟨fb, fo, none⟩) NF fc, .slice io NI ic, .slice to_ NT tc, .int .i64 LT] 27)).alloc (.cells #[.int .i64 1, .int .i64 (an : Int), .int .i64 (bn : Int)] 45)).cell? ⟨fb, fo + n * 4 + 1, none⟩ = some (.int .i64 lo) := hM 1 _ rfl
  have y2 : ((w.alloc (.cells #[.slice (some ⟨fb, fo, none⟩) NF fc, .slice io NI ic, .slice to_ NT tc, .int .i64 LT] 27)).alloc (.cells #[.int .i64 1, .int .i64 (an : Int), .int .i64 (bn : Int)] 45)).cell? ⟨fb, fo + n * 4 + 2, none⟩ = some (.int .i64 st) := hM 2 _ rfl
  have y3 : ((w.alloc (.cells #[.slice (some ⟨fb, fo, none⟩) NF fc, .slice io NI ic, .slice to_ NT tc, .int .i64 LT] 27)).alloc (.cells #[.int .i64 1, .int .i64 (an : Int), .int .i64 (bn : Int)] 45)).cell? ⟨fb, fo + n * 4 + 3, none⟩ = some (.slice co NC cc) := hM 3 _ rfl
  have i0 : (0 : Int) ≤ (n : Int) := by omega
  have i1 : (n : Int) < (NF : Int) := by omega
  clear h hcell hL hq hrow hM hf hz
  by_cases hc : (an : Int) < (NI : Int)
  · have HR : Hid (rightB c n ⟨ke, lo, st, code⟩ ⟨1, an, bn⟩ = true) := Lib.hid (by simp only [rightB]; simp [hNI.out] <;> omega)
    have hc2 : an < NI := by omega
    go_enter Try.func72, Try.ntmps72
    go_wp2_with fail
    exact bodyPost_ret (v := .tuple #[.bool true, .int .i64 0, .int .i64 1]) (by simp [results, Try.results72, go_sem]) rfl (eff_of HR.out (by simp [takesN]) (by simp [putsN]) HX.out)
  · have HR : Hid (rightB c n ⟨ke, lo, st, code⟩ ⟨1, an, bn⟩ = false) := Lib.hid (by simp only [rightB]; simp [hNI.out] <;> omega)
    have hc2 : NI ≤ an := by omega
    go_enter Try.func72, Try.ntmps72
    go_wp2_with fail
    exact bodyPost_ret (v := .tuple #[.bool false, .int .i64 0, .int .i64 1]) (by simp [results, Try.results72, go_sem]) rfl (eff_of HR.out (by simp [takesN]) (by simp [putsN]) HX.out)
set_option maxHeartbeats 4000000 in
theorem eff_2 (c : Cd) (fv iv tv : Value) (n : Nat) (f : Bd) (an bn : Nat) (w : World) (S : Nat → Prop) (h : HasC w S c fv iv tv) (hf : c.funs[n]? = some f) (hz : Sz c) :
    Calls Try.prog 72 #[.agg #[fv, iv, tv, .int .i64 c.lets], .int .i64 (n : Int), .agg #[.int .i64 2, .int .i64 (an : Int), .int .i64 (bn : Int)]] w (EffRes c n f ⟨2, an, bn⟩ w) := by
  have hn := (List.getElem?_eq_some_iff.1 hf).1
  obtain ⟨io, ic, rfl, _⟩ := h.ints.val
  obtain ⟨to_, tc, rfl, _⟩ := h.texts.val
  obtain ⟨fb, fo, fc, rfl, _, hfb, hcell⟩ := h.funs.open_ (by intro e; rw [e] at hn; simp at hn)
  obtain ⟨q, hL, hq⟩ := hcell n f hf
  obtain ⟨qv, rfl, hrow⟩ := hasBd_row hq
  obtain ⟨co, cc, rfl, _⟩ := hrow.val
  obtain ⟨ke, lo, st, code⟩ := f
  have h1 := hz.funs
  have h2 := hz.ints
  have h3 := hz.texts
  obtain ⟨NF, hNF⟩ : ∃ x, Hid (c.funs.length = x) := ⟨_, Lib.hid rfl⟩
  obtain ⟨NI, hNI⟩ : ∃ x, Hid (c.ints.length = x) := ⟨_, Lib.hid rfl⟩
  obtain ⟨NT, hNT⟩ : ∃ x, Hid (c.texts.length = x) := ⟨_, Lib.hid rfl⟩
  obtain ⟨LT, hLT⟩ : ∃ x, Hid (c.lets = x) := ⟨_, Lib.hid rfl⟩
  have HC := Lib.hid h
  rw [hNF.out] at hn h1 ⊢
  rw [hNI.out] at h2 ⊢
  rw [hNT.out] at h3 ⊢
  rw [hLT.out]
  simp only at hrow hL ⊢
  obtain ⟨NC, hNC⟩ : ∃ x, Hid (code.length = x) := ⟨_, Lib.hid rfl⟩
  rw [hNC.out] at hL
  have HX2 := Lib.hid (bnext (balloc w (.cells #[.slice (some ⟨fb, fo, none⟩) NF fc, .slice io NI ic, .slice to_ NT tc, .int .i64 LT] 27)) (balloc _ (.cells #[.int .i64 2, .int .i64 (an : Int), .int .i64 (bn : Int)] 45)))
  have HX := Lib.hid (bnext HX2.out (balloc _ (.cells #[.int .i64 ke, .int .i64 lo, .int .i64 st, .slice co NC cc] 49)))
  have hM := hL.keep HX2.out hfb
  have y0 : ((w.alloc (.cells #[.slice (some ⟨fb, fo, none⟩) NF fc, .slice io NI ic, .slice to_ NT tc, .int .i64 LT] 27)).alloc (.cells #[.int .i64 2, .int .i64 (an : Int), .int .i64 (bn : Int)] 45)).cell? ⟨fb, fo + n * 4, none⟩ = some (.int .i64 ke) := hM 0 _ rfl
  have y1 : ((w.alloc (.cells #[.slice (some ⟨fb, fo, none⟩) NF fc, .slice io NI ic, .slice to_ NT tc, .int .i64 LT] 27)).alloc (.cells #[.int .i64 2, .int .i64 (an : Int), .int .i64 (bn : Int)] 45)).cell? ⟨fb, fo + n * 4 + 1, none⟩ = some (.int .i64 lo) := hM 1 _ rfl
  have y2 : ((w.alloc (.cells #[.slice (some ⟨fb, fo, none⟩) NF fc, .slice io NI ic, .slice to_ NT tc, .int .i64 LT] 27)).alloc (.cells #[.int .i64 2, .int .i64 (an : Int), .int .i64 (bn : Int)] 45)).cell? ⟨fb, fo + n * 4 + 2, none⟩ = some (.int .i64 st) := hM 2 _ rfl
  have y3 : ((w.alloc (.cells #[.slice (some ⟨fb, fo, none⟩) NF fc, .slice io NI ic, .slice to_ NT tc, .int .i64 LT] 27)).alloc (.cells #[.int .i64 2, .int .i64 (an : Int), .int .i64 (bn : Int)] 45)).cell? ⟨fb, fo + n * 4 + 3, none⟩ = some (.slice co NC cc) := hM 3 _ rfl
  have i0 : (0 : Int) ≤ (n : Int) := by omega
  have i1 : (n : Int) < (NF : Int) := by omega
  clear h hcell hL hq hrow hM hf hz
  by_cases hc : (an : Int) < (NT : Int)
  · have HR : Hid (rightB c n ⟨ke, lo, st, code⟩ ⟨2, an, bn⟩ = true) := Lib.hid (by simp only [rightB]; simp [hNT.out] <;> omega)
    have hc2 : an < NT := by omega
    go_enter Try.func72, Try.ntmps72
    go_wp2_with fail
    exact bodyPost_ret (v := .tuple #[.bool true, .int .i64 0, .int .i64 1]) (by simp [results, Try.results72, go_sem]) rfl (eff_of HR.out (by simp [takesN]) (by simp [putsN]) HX.out)
  · have HR : Hid (rightB c n ⟨ke, lo, st, code⟩ ⟨2, an, bn⟩ = false) := Lib.hid (by simp only [rightB]; simp [hNT.out] <;> omega)
    have hc2 : NT ≤ an := by omega
    go_enter Try.func72, Try.ntmps72
    go_wp2_with fail
    exact bodyPost_ret (v := .tuple #[.bool false, .int .i64 0, .int .i64 1]) (by simp [results, Try.results72, go_sem]) rfl (eff_of HR.out (by simp [takesN]) (by simp [putsN]) HX.out)
set_option maxHeartbeats 4000000 in
theorem eff_3 (c : Cd) (fv iv tv : Value) (n : Nat) (f : Bd) (an bn : Nat) (w : World) (S : Nat → Prop) (h : HasC w S c fv iv tv) (hf : c.funs[n]? = some f) (hz : Sz c) :
    Calls Try.prog 72 #[.agg #[fv, iv, tv, .int .i64 c.lets], .int .i64 (n : Int), .agg #[.int .i64 3, .int .i64 (an : Int), .int .i64 (bn : Int)]] w (EffRes c n f ⟨3, an, bn⟩ w) := by
  have hn := (List.getElem?_eq_some_iff.1 hf).1
  obtain ⟨io, ic, rfl, _⟩ := h.ints.val
  obtain ⟨to_, tc, rfl, _⟩ := h.texts.val
  obtain ⟨fb, fo, fc, rfl, _, hfb, hcell⟩ := h.funs.open_ (by intro e; rw [e] at hn; simp at hn)
  obtain ⟨q, hL, hq⟩ := hcell n f hf
  obtain ⟨qv, rfl, hrow⟩ := hasBd_row hq
  obtain ⟨co, cc, rfl, _⟩ := hrow.val
  obtain ⟨ke, lo, st, code⟩ := f
  have h1 := hz.funs
  have h2 := hz.ints
  have h3 := hz.texts
  obtain ⟨NF, hNF⟩ : ∃ x, Hid (c.funs.length = x) := ⟨_, Lib.hid rfl⟩
  obtain ⟨NI, hNI⟩ : ∃ x, Hid (c.ints.length = x) := ⟨_, Lib.hid rfl⟩
  obtain ⟨NT, hNT⟩ : ∃ x, Hid (c.texts.length = x) := ⟨_, Lib.hid rfl⟩
  obtain ⟨LT, hLT⟩ : ∃ x, Hid (c.lets = x) := ⟨_, Lib.hid rfl⟩
  have HC := Lib.hid h
  rw [hNF.out] at hn h1 ⊢
  rw [hNI.out] at h2 ⊢
  rw [hNT.out] at h3 ⊢
  rw [hLT.out]
  simp only at hrow hL ⊢
  obtain ⟨NC, hNC⟩ : ∃ x, Hid (code.length = x) := ⟨_, Lib.hid rfl⟩
  rw [hNC.out] at hL
  have HX2 := Lib.hid (bnext (balloc w (.cells #[.slice (some ⟨fb, fo, none⟩) NF fc, .slice io NI ic, .slice to_ NT tc, .int .i64 LT] 27)) (balloc _ (.cells #[.int .i64 3, .int .i64 (an : Int), .int .i64 (bn : Int)] 45)))
  have HX := Lib.hid (bnext HX2.out (balloc _ (.cells #[.int .i64 ke, .int .i64 lo, .int .i64 st, .slice co NC cc] 49)))
  have hM := hL.keep HX2.out hfb
  have y0 : ((w.alloc (.cells #[.slice (some ⟨fb, fo, none⟩) NF fc, .slice io NI ic, .slice to_ NT tc, .int .i64 LT] 27)).alloc (.cells #[.int .i64 3, .int .i64 (an : Int), .int .i64 (bn : Int)] 45)).cell? ⟨fb, fo + n * 4, none⟩ = some (.int .i64 ke) := hM 0 _ rfl
  have y1 : ((w.alloc (.cells #[.slice (some ⟨fb, fo, none⟩) NF fc, .slice io NI ic, .slice to_ NT tc, .int .i64 LT] 27)).alloc (.cells #[.int .i64 3, .int .i64 (an : Int), .int .i64 (bn : Int)] 45)).cell? ⟨fb, fo + n * 4 + 1, none⟩ = some (.int .i64 lo) := hM 1 _ rfl
  have y2 : ((w.alloc (.cells #[.slice (some ⟨fb, fo, none⟩) NF fc, .slice io NI ic, .slice to_ NT tc, .int .i64 LT] 27)).alloc (.cells #[.int .i64 3, .int .i64 (an : Int), .int .i64 (bn : Int)] 45)).cell? ⟨fb, fo + n * 4 + 2, none⟩ = some (.int .i64 st) := hM 2 _ rfl
  have y3 : ((w.alloc (.cells #[.slice (some ⟨fb, fo, none⟩) NF fc, .slice io NI ic, .slice to_ NT tc, .int .i64 LT] 27)).alloc (.cells #[.int .i64 3, .int .i64 (an : Int), .int .i64 (bn : Int)] 45)).cell? ⟨fb, fo + n * 4 + 3, none⟩ = some (.slice co NC cc) := hM 3 _ rfl
  have i0 : (0 : Int) ≤ (n : Int) := by omega
  have i1 : (n : Int) < (NF : Int) := by omega
  clear h hcell hL hq hrow hM hf hz
  by_cases hc : (an : Int) < lo
  · have HR : Hid (rightB c n ⟨ke, lo, st, code⟩ ⟨3, an, bn⟩ = true) := Lib.hid (by simp only [rightB]; simp [hc] <;> omega)
    go_enter Try.func72, Try.ntmps72
    go_wp2_with fail
    exact bodyPost_ret (v := .tuple #[.bool true, .int .i64 0, .int .i64 1]) (by simp [results, Try.results72, go_sem]) rfl (eff_of HR.out (by simp [takesN]) (by simp [putsN]) HX.out)
  · have HR : Hid (rightB c n ⟨ke, lo, st, code⟩ ⟨3, an, bn⟩ = false) := Lib.hid (by simp only [rightB]; simp [hc] <;> omega)
    go_enter Try.func72, Try.ntmps72
    go_wp2_with fail
    exact bodyPost_ret (v := .tuple #[.bool false, .int .i64 0, .int .i64 1]) (by simp [results, Try.results72, go_sem]) rfl (eff_of HR.out (by simp [takesN]) (by simp [putsN]) HX.out)
set_option maxHeartbeats 4000000 in
theorem eff_4 (c : Cd) (fv iv tv : Value) (n : Nat) (f : Bd) (an bn : Nat) (w : World) (S : Nat → Prop) (h : HasC w S c fv iv tv) (hf : c.funs[n]? = some f) (hz : Sz c) :
    Calls Try.prog 72 #[.agg #[fv, iv, tv, .int .i64 c.lets], .int .i64 (n : Int), .agg #[.int .i64 4, .int .i64 (an : Int), .int .i64 (bn : Int)]] w (EffRes c n f ⟨4, an, bn⟩ w) := by
  have hn := (List.getElem?_eq_some_iff.1 hf).1
  obtain ⟨io, ic, rfl, _⟩ := h.ints.val
  obtain ⟨to_, tc, rfl, _⟩ := h.texts.val
  obtain ⟨fb, fo, fc, rfl, _, hfb, hcell⟩ := h.funs.open_ (by intro e; rw [e] at hn; simp at hn)
  obtain ⟨q, hL, hq⟩ := hcell n f hf
  obtain ⟨qv, rfl, hrow⟩ := hasBd_row hq
  obtain ⟨co, cc, rfl, _⟩ := hrow.val
  obtain ⟨ke, lo, st, code⟩ := f
  have h1 := hz.funs
  have h2 := hz.ints
  have h3 := hz.texts
  obtain ⟨NF, hNF⟩ : ∃ x, Hid (c.funs.length = x) := ⟨_, Lib.hid rfl⟩
  obtain ⟨NI, hNI⟩ : ∃ x, Hid (c.ints.length = x) := ⟨_, Lib.hid rfl⟩
  obtain ⟨NT, hNT⟩ : ∃ x, Hid (c.texts.length = x) := ⟨_, Lib.hid rfl⟩
  obtain ⟨LT, hLT⟩ : ∃ x, Hid (c.lets = x) := ⟨_, Lib.hid rfl⟩
  have HC := Lib.hid h
  rw [hNF.out] at hn h1 ⊢
  rw [hNI.out] at h2 ⊢
  rw [hNT.out] at h3 ⊢
  rw [hLT.out]
  simp only at hrow hL ⊢
  obtain ⟨NC, hNC⟩ : ∃ x, Hid (code.length = x) := ⟨_, Lib.hid rfl⟩
  rw [hNC.out] at hL
  have HX2 := Lib.hid (bnext (balloc w (.cells #[.slice (some ⟨fb, fo, none⟩) NF fc, .slice io NI ic, .slice to_ NT tc, .int .i64 LT] 27)) (balloc _ (.cells #[.int .i64 4, .int .i64 (an : Int), .int .i64 (bn : Int)] 45)))
  have HX := Lib.hid (bnext HX2.out (balloc _ (.cells #[.int .i64 ke, .int .i64 lo, .int .i64 st, .slice co NC cc] 49)))
  have hM := hL.keep HX2.out hfb
  have y0 : ((w.alloc (.cells #[.slice (some ⟨fb, fo, none⟩) NF fc, .slice io NI ic, .slice to_ NT tc, .int .i64 LT] 27)).alloc (.cells #[.int .i64 4, .int .i64 (an : Int), .int .i64 (bn : Int)] 45)).cell? ⟨fb, fo + n * 4, none⟩ = some (.int .i64 ke) := hM 0 _ rfl
  have y1 : ((w.alloc (.cells #[.slice (some ⟨fb, fo, none⟩) NF fc, .slice io NI ic, .slice to_ NT tc, .int .i64 LT] 27)).alloc (.cells #[.int .i64 4, .int .i64 (an : Int), .int .i64 (bn : Int)] 45)).cell? ⟨fb, fo + n * 4 + 1, none⟩ = some (.int .i64 lo) := hM 1 _ rfl
  have y2 : ((w.alloc (.cells #[.slice (some ⟨fb, fo, none⟩) NF fc, .slice io NI ic, .slice to_ NT tc, .int .i64 LT] 27)).alloc (.cells #[.int .i64 4, .int .i64 (an : Int), .int .i64 (bn : Int)] 45)).cell? ⟨fb, fo + n * 4 + 2, none⟩ = some (.int .i64 st) := hM 2 _ rfl
  have y3 : ((w.alloc (.cells #[.slice (some ⟨fb, fo, none⟩) NF fc, .slice io NI ic, .slice to_ NT tc, .int .i64 LT] 27)).alloc (.cells #[.int .i64 4, .int .i64 (an : Int), .int .i64 (bn : Int)] 45)).cell? ⟨fb, fo + n * 4 + 3, none⟩ = some (.slice co NC cc) := hM 3 _ rfl
  have i0 : (0 : Int) ≤ (n : Int) := by omega
  have i1 : (n : Int) < (NF : Int) := by omega
  clear h hcell hL hq hrow hM hf hz
  by_cases hc : (an : Int) < ke
  · have HR : Hid (rightB c n ⟨ke, lo, st, code⟩ ⟨4, an, bn⟩ = true) := Lib.hid (by simp only [rightB]; simp [hc] <;> omega)
    go_enter Try.func72, Try.ntmps72
    go_wp2_with fail
    exact bodyPost_ret (v := .tuple #[.bool true, .int .i64 0, .int .i64 1]) (by simp [results, Try.results72, go_sem]) rfl (eff_of HR.out (by simp [takesN]) (by simp [putsN]) HX.out)
  · have HR : Hid (rightB c n ⟨ke, lo, st, code⟩ ⟨4, an, bn⟩ = false) := Lib.hid (by simp only [rightB]; simp [hc] <;> omega)
    go_enter Try.func72, Try.ntmps72
    go_wp2_with fail
    exact bodyPost_ret (v := .tuple #[.bool false, .int .i64 0, .int .i64 1]) (by simp [results, Try.results72, go_sem]) rfl (eff_of HR.out (by simp [takesN]) (by simp [putsN]) HX.out)
set_option maxHeartbeats 4000000 in
theorem eff_5 (c : Cd) (fv iv tv : Value) (n : Nat) (f : Bd) (an bn : Nat) (w : World) (S : Nat → Prop) (h : HasC w S c fv iv tv) (hf : c.funs[n]? = some f) (hz : Sz c) :
    Calls Try.prog 72 #[.agg #[fv, iv, tv, .int .i64 c.lets], .int .i64 (n : Int), .agg #[.int .i64 5, .int .i64 (an : Int), .int .i64 (bn : Int)]] w (EffRes c n f ⟨5, an, bn⟩ w) := by
  have hn := (List.getElem?_eq_some_iff.1 hf).1
  obtain ⟨io, ic, rfl, _⟩ := h.ints.val
  obtain ⟨to_, tc, rfl, _⟩ := h.texts.val
  obtain ⟨fb, fo, fc, rfl, _, hfb, hcell⟩ := h.funs.open_ (by intro e; rw [e] at hn; simp at hn)
  obtain ⟨q, hL, hq⟩ := hcell n f hf
  obtain ⟨qv, rfl, hrow⟩ := hasBd_row hq
  obtain ⟨co, cc, rfl, _⟩ := hrow.val
  obtain ⟨ke, lo, st, code⟩ := f
  have h1 := hz.funs
  have h2 := hz.ints
  have h3 := hz.texts
  obtain ⟨NF, hNF⟩ : ∃ x, Hid (c.funs.length = x) := ⟨_, Lib.hid rfl⟩
  obtain ⟨NI, hNI⟩ : ∃ x, Hid (c.ints.length = x) := ⟨_, Lib.hid rfl⟩
  obtain ⟨NT, hNT⟩ : ∃ x, Hid (c.texts.length = x) := ⟨_, Lib.hid rfl⟩
  obtain ⟨LT, hLT⟩ : ∃ x, Hid (c.lets = x) := ⟨_, Lib.hid rfl⟩
  have HC := Lib.hid h
  rw [hNF.out] at hn h1 ⊢
  rw [hNI.out] at h2 ⊢
  rw [hNT.out] at h3 ⊢
  rw [hLT.out]
  simp only at hrow hL ⊢
  obtain ⟨NC, hNC⟩ : ∃ x, Hid (code.length = x) := ⟨_, Lib.hid rfl⟩
  rw [hNC.out] at hL
  have HX2 := Lib.hid (bnext (balloc w (.cells #[.slice (some ⟨fb, fo, none⟩) NF fc, .slice io NI ic, .slice to_ NT tc, .int .i64 LT] 27)) (balloc _ (.cells #[.int .i64 5, .int .i64 (an : Int), .int .i64 (bn : Int)] 45)))
  have HX := Lib.hid (bnext HX2.out (balloc _ (.cells #[.int .i64 ke, .int .i64 lo, .int .i64 st, .slice co NC cc] 49)))
  have hM := hL.keep HX2.out hfb
  have y0 : ((w.alloc (.cells #[.slice (some ⟨fb, fo, none⟩) NF fc, .slice io NI ic, .slice to_ NT tc, .int .i64 LT] 27)).alloc (.cells #[.int .i64 5, .int .i64 (an : Int), .int .i64 (bn : Int)] 45)).cell? ⟨fb, fo + n * 4, none⟩ = some (.int .i64 ke) := hM 0 _ rfl
  have y1 : ((w.alloc (.cells #[.slice (some ⟨fb, fo, none⟩) NF fc, .slice io NI ic, .slice to_ NT tc, .int .i64 LT] 27)).alloc (.cells #[.int .i64 5, .int .i64 (an : Int), .int .i64 (bn : Int)] 45)).cell? ⟨fb, fo + n * 4 + 1, none⟩ = some (.int .i64 lo) := hM 1 _ rfl
  have y2 : ((w.alloc (.cells #[.slice (some ⟨fb, fo, none⟩) NF fc, .slice io NI ic, .slice to_ NT tc, .int .i64 LT] 27)).alloc (.cells #[.int .i64 5, .int .i64 (an : Int), .int .i64 (bn : Int)] 45)).cell? ⟨fb, fo + n * 4 + 2, none⟩ = some (.int .i64 st) := hM 2 _ rfl
  have y3 : ((w.alloc (.cells #[.slice (some ⟨fb, fo, none⟩) NF fc, .slice io NI ic, .slice to_ NT tc, .int .i64 LT] 27)).alloc (.cells #[.int .i64 5, .int .i64 (an : Int), .int .i64 (bn : Int)] 45)).cell? ⟨fb, fo + n * 4 + 3, none⟩ = some (.slice co NC cc) := hM 3 _ rfl
  have i0 : (0 : Int) ≤ (n : Int) := by omega
  have i1 : (n : Int) < (NF : Int) := by omega
  clear h hcell hL hq hrow hM hf hz
  by_cases hc : n = 0
  · have HR : Hid (rightB c n ⟨ke, lo, st, code⟩ ⟨5, an, bn⟩ = false) := Lib.hid (by simp [rightB, hc])
    have t0 : ((n : Int) != 0) = false := by simp [hc]
    clear hc
    go_enter Try.func72, Try.ntmps72
    go_wp2_with fail
    exact bodyPost_ret (v := .tuple #[.bool false, .int .i64 0, .int .i64 1]) (by simp [results, Try.results72, go_sem]) rfl (eff_of HR.out (by simp [takesN]) (by simp [putsN]) HX.out)
  · have HR : Hid (rightB c n ⟨ke, lo, st, code⟩ ⟨5, an, bn⟩ = true) := Lib.hid (by simp [rightB, hc])
    have t0 : ((n : Int) != 0) = true := by simp [hc]
    clear hc
    go_enter Try.func72, Try.ntmps72
    go_wp2_with fail
    exact bodyPost_ret (v := .tuple #[.bool true, .int .i64 0, .int .i64 1]) (by simp [results, Try.results72, go_sem]) rfl (eff_of HR.out (by simp [takesN]) (by simp [putsN]) HX.out)
set_option maxHeartbeats 4000000 in
theorem eff_6 (c : Cd) (fv iv tv : Value) (n : Nat) (f : Bd) (an bn : Nat) (w : World) (S : Nat → Prop) (h : HasC w S c fv iv tv) (hf : c.funs[n]? = some f) (hz : Sz c) :
    Calls Try.prog 72 #[.agg #[fv, iv, tv, .int .i64 c.lets], .int .i64 (n : Int), .agg #[.int .i64 6, .int .i64 (an : Int), .int .i64 (bn : Int)]] w (EffRes c n f ⟨6, an, bn⟩ w) := by
  have hn := (List.getElem?_eq_some_iff.1 hf).1
  obtain ⟨io, ic, rfl, _⟩ := h.ints.val
  obtain ⟨to_, tc, rfl, _⟩ := h.texts.val
  obtain ⟨fb, fo, fc, rfl, _, hfb, hcell⟩ := h.funs.open_ (by intro e; rw [e] at hn; simp at hn)
  obtain ⟨q, hL, hq⟩ := hcell n f hf
  obtain ⟨qv, rfl, hrow⟩ := hasBd_row hq
  obtain ⟨co, cc, rfl, _⟩ := hrow.val
  obtain ⟨ke, lo, st, code⟩ := f
  have h1 := hz.funs
  have h2 := hz.ints
  have h3 := hz.texts
  obtain ⟨NF, hNF⟩ : ∃ x, Hid (c.funs.length = x) := ⟨_, Lib.hid rfl⟩
  obtain ⟨NI, hNI⟩ : ∃ x, Hid (c.ints.length = x) := ⟨_, Lib.hid rfl⟩
  obtain ⟨NT, hNT⟩ : ∃ x, Hid (c.texts.length = x) := ⟨_, Lib.hid rfl⟩
  obtain ⟨LT, hLT⟩ : ∃ x, Hid (c.lets = x) := ⟨_, Lib.hid rfl⟩
  have HC := Lib.hid h
  rw [hNF.out] at hn h1 ⊢
  rw [hNI.out] at h2 ⊢
  rw [hNT.out] at h3 ⊢
  rw [hLT.out]
  simp only at hrow hL ⊢
  obtain ⟨NC, hNC⟩ : ∃ x, Hid (code.length = x) := ⟨_, Lib.hid rfl⟩
  rw [hNC.out] at hL
  have HX2 := Lib.hid (bnext (balloc w (.cells #[.slice (some ⟨fb, fo, none⟩) NF fc, .slice io NI ic, .slice to_ NT tc, .int .i64 LT] 27)) (balloc _ (.cells #[.int .i64 6, .int .i64 (an : Int), .int .i64 (bn : Int)] 45)))
  have HX := Lib.hid (bnext HX2.out (balloc _ (.cells #[.int .i64 ke, .int .i64 lo, .int .i64 st, .slice co NC cc] 49)))
  have hM := hL.keep HX2.out hfb
  have y0 : ((w.alloc (.cells #[.slice (some ⟨fb, fo, none⟩) NF fc, .slice io NI ic, .slice to_ NT tc, .int .i64 LT] 27)).alloc (.cells #[.int .i64 6, .int .i64 (an : Int), .int .i64 (bn : Int)] 45)).cell? ⟨fb, fo + n * 4, none⟩ = some (.int .i64 ke) := hM 0 _ rfl
  have y1 : ((w.alloc (.cells #[.slice (some ⟨fb, fo, none⟩) NF fc, .slice io NI ic, .slice to_ NT tc, .int .i64 LT] 27)).alloc (.cells #[.int .i64 6, .int .i64 (an : Int), .int .i64 (bn : Int)] 45)).cell? ⟨fb, fo + n * 4 + 1, none⟩ = some (.int .i64 lo) := hM 1 _ rfl
  have y2 : ((w.alloc (.cells #[.slice (some ⟨fb, fo, none⟩) NF fc, .slice io NI ic, .slice to_ NT tc, .int .i64 LT] 27)).alloc (.cells #[.int .i64 6, .int .i64 (an : Int), .int .i64 (bn : Int)] 45)).cell? ⟨fb, fo + n * 4 + 2, none⟩ = some (.int .i64 st) := hM 2 _ rfl
  have y3 : ((w.alloc (.cells #[.slice (some ⟨fb, fo, none⟩) NF fc, .slice io NI ic, .slice to_ NT tc, .int .i64 LT] 27)).alloc (.cells #[.int .i64 6, .int .i64 (an : Int), .int .i64 (bn : Int)] 45)).cell? ⟨fb, fo + n * 4 + 3, none⟩ = some (.slice co NC cc) := hM 3 _ rfl
  have i0 : (0 : Int) ≤ (n : Int) := by omega
  have i1 : (n : Int) < (NF : Int) := by omega
  clear h hcell hL hq hrow hM hf hz
  by_cases hc : (an : Int) < LT
  · have HR : Hid (rightB c n ⟨ke, lo, st, code⟩ ⟨6, an, bn⟩ = true) := Lib.hid (by simp only [rightB]; simp [hLT.out] <;> omega)
    go_enter Try.func72, Try.ntmps72
    go_wp2_with fail
    exact bodyPost_ret (v := .tuple #[.bool true, .int .i64 0, .int .i64 1]) (by simp [results, Try.results72, go_sem]) rfl (eff_of HR.out (by simp [takesN]) (by simp [putsN]) HX.out)
  · have HR : Hid (rightB c n ⟨ke, lo, st, code⟩ ⟨6, an, bn⟩ = false) := Lib.hid (by simp only [rightB]; simp [hLT.out] <;> omega)
    go_enter Try.func72, Try.ntmps72
    go_wp2_with fail
    exact bodyPost_ret (v := .tuple #[.bool false, .int .i64 0, .int .i64 1]) (by simp [results, Try.results72, go_sem]) rfl (eff_of HR.out (by simp [takesN]) (by simp [putsN]) HX.out)
set_option maxHeartbeats 4000000 in
theorem eff_7 (c : Cd) (fv iv tv : Value) (n : Nat) (f : Bd) (an bn : Nat) (w : World) (S : Nat → Prop) (h : HasC w S c fv iv tv) (hf : c.funs[n]? = some f) (hz : Sz c) :
    Calls Try.prog 72 #[.agg #[fv, iv, tv, .int .i64 c.lets], .int .i64 (n : Int), .agg #[.int .i64 7, .int .i64 (an : Int), .int .i64 (bn : Int)]] w (EffRes c n f ⟨7, an, bn⟩ w) := by
  have hn := (List.getElem?_eq_some_iff.1 hf).1
  obtain ⟨io, ic, rfl, _⟩ := h.ints.val
  obtain ⟨to_, tc, rfl, _⟩ := h.texts.val
  obtain ⟨fb, fo, fc, rfl, _, hfb, hcell⟩ := h.funs.open_ (by intro e; rw [e] at hn; simp at hn)
  obtain ⟨q, hL, hq⟩ := hcell n f hf
  obtain ⟨qv, rfl, hrow⟩ := hasBd_row hq
  obtain ⟨co, cc, rfl, _⟩ := hrow.val
  obtain ⟨ke, lo, st, code⟩ := f
  have h1 := hz.funs
  have h2 := hz.ints
  have h3 := hz.texts
  obtain ⟨NF, hNF⟩ : ∃ x, Hid (c.funs.length = x) := ⟨_, Lib.hid rfl⟩
  obtain ⟨NI, hNI⟩ : ∃ x, Hid (c.ints.length = x) := ⟨_, Lib.hid rfl⟩
  obtain ⟨NT, hNT⟩ : ∃ x, Hid (c.texts.length = x) := ⟨_, Lib.hid rfl⟩
  obtain ⟨LT, hLT⟩ : ∃ x, Hid (c.lets = x) := ⟨_, Lib.hid rfl⟩
  have HC := Lib.hid h
  rw [hNF.out] at hn h1 ⊢
  rw [hNI.out] at h2 ⊢
  rw [hNT.out] at h3 ⊢
  rw [hLT.out]
  simp only at hrow hL ⊢
  obtain ⟨NC, hNC⟩ : ∃ x, Hid (code.length = x) := ⟨_, Lib.hid rfl⟩
  rw [hNC.out] at hL
  have HX2 := Lib.hid (bnext (balloc w (.cells #[.slice (some ⟨fb, fo, none⟩) NF fc, .slice io NI ic, .slice to_ NT tc, .int .i64 LT] 27)) (balloc _ (.cells #[.int .i64 7, .int .i64 (an : Int), .int .i64 (bn : Int)] 45)))
  have HX := Lib.hid (bnext HX2.out (balloc _ (.cells #[.int .i64 ke, .int .i64 lo, .int .i64 st, .slice co NC cc] 49)))
  have hM := hL.keep HX2.out hfb
  have y0 : ((w.alloc (.cells #[.slice (some ⟨fb, fo, none⟩) NF fc, .slice io NI ic, .slice to_ NT tc, .int .i64 LT] 27)).alloc (.cells #[.int .i64 7, .int .i64 (an : Int), .int .i64 (bn : Int)] 45)).cell? ⟨fb, fo + n * 4, none⟩ = some (.int .i64 ke) := hM 0 _ rfl
  have y1 : ((w.alloc (.cells #[.slice (some ⟨fb, fo, none⟩) NF fc, .slice io NI ic, .slice to_ NT tc, .int .i64 LT] 27)).alloc (.cells #[.int .i64 7, .int .i64 (an : Int), .int .i64 (bn : Int)] 45)).cell? ⟨fb, fo + n * 4 + 1, none⟩ = some (.int .i64 lo) := hM 1 _ rfl
  have y2 : ((w.alloc (.cells #[.slice (some ⟨fb, fo, none⟩) NF fc, .slice io NI ic, .slice to_ NT tc, .int .i64 LT] 27)).alloc (.cells #[.int .i64 7, .int .i64 (an : Int), .int .i64 (bn : Int)] 45)).cell? ⟨fb, fo + n * 4 + 2, none⟩ = some (.int .i64 st) := hM 2 _ rfl
  have y3 : ((w.alloc (.cells #[.slice (some ⟨fb, fo, none⟩) NF fc, .slice io NI ic, .slice to_ NT tc, .int .i64 LT] 27)).alloc (.cells #[.int .i64 7, .int .i64 (an : Int), .int .i64 (bn : Int)] 45)).cell? ⟨fb, fo + n * 4 + 3, none⟩ = some (.slice co NC cc) := hM 3 _ rfl
  have i0 : (0 : Int) ≤ (n : Int) := by omega
  have i1 : (n : Int) < (NF : Int) := by omega
  clear h hcell hL hq hrow hM hf hz
  by_cases hc : (an : Int) < lo
  · have HR : Hid (rightB c n ⟨ke, lo, st, code⟩ ⟨7, an, bn⟩ = true) := Lib.hid (by simp only [rightB]; simp [hc] <;> omega)
    go_enter Try.func72, Try.ntmps72
    go_wp2_with fail
    exact bodyPost_ret (v := .tuple #[.bool true, .int .i64 1, .int .i64 0]) (by simp [results, Try.results72, go_sem]) rfl (eff_of HR.out (by simp [takesN]) (by simp [putsN]) HX.out)
  · have HR : Hid (rightB c n ⟨ke, lo, st, code⟩ ⟨7, an, bn⟩ = false) := Lib.hid (by simp only [rightB]; simp [hc] <;> omega)
    go_enter Try.func72, Try.ntmps72
    go_wp2_with fail
    exact bodyPost_ret (v := .tuple #[.bool false, .int .i64 1, .int .i64 0]) (by simp [results, Try.results72, go_sem]) rfl (eff_of HR.out (by simp [takesN]) (by simp [putsN]) HX.out)
set_option maxHeartbeats 4000000 in
theorem eff_8 (c : Cd) (fv iv tv : Value) (n : Nat) (f : Bd) (an bn : Nat) (w : World) (S : Nat → Prop) (h : HasC w S c fv iv tv) (hf : c.funs[n]? = some f) (hz : Sz c) :
    Calls Try.prog 72 #[.agg #[fv, iv, tv, .int .i64 c.lets], .int .i64 (n : Int), .agg #[.int .i64 8, .int .i64 (an : Int), .int .i64 (bn : Int)]] w (EffRes c n f ⟨8, an, bn⟩ w) := by
  have hn := (List.getElem?_eq_some_iff.1 hf).1
  obtain ⟨io, ic, rfl, _⟩ := h.ints.val
  obtain ⟨to_, tc, rfl, _⟩ := h.texts.val
  obtain ⟨fb, fo, fc, rfl, _, hfb, hcell⟩ := h.funs.open_ (by intro e; rw [e] at hn; simp at hn)
  obtain ⟨q, hL, hq⟩ := hcell n f hf
  obtain ⟨qv, rfl, hrow⟩ := hasBd_row hq
  obtain ⟨co, cc, rfl, _⟩ := hrow.val
  obtain ⟨ke, lo, st, code⟩ := f
  have h1 := hz.funs
  have h2 := hz.ints
  have h3 := hz.texts
  obtain ⟨NF, hNF⟩ : ∃ x, Hid (c.funs.length = x) := ⟨_, Lib.hid rfl⟩
  obtain ⟨NI, hNI⟩ : ∃ x, Hid (c.ints.length = x) := ⟨_, Lib.hid rfl⟩
  obtain ⟨NT, hNT⟩ : ∃ x, Hid (c.texts.length = x) := ⟨_, Lib.hid rfl⟩
  obtain ⟨LT, hLT⟩ : ∃ x, Hid (c.lets = x) := ⟨_, Lib.hid rfl⟩
  have HC := Lib.hid h
  rw [hNF.out] at hn h1 ⊢
  rw [hNI.out] at h2 ⊢
  rw [hNT.out] at h3 ⊢
  rw [hLT.out]
  simp only at hrow hL ⊢
  obtain ⟨NC, hNC⟩ : ∃ x, Hid (code.length = x) := ⟨_, Lib.hid rfl⟩
  rw [hNC.out] at hL
  have HX2 := Lib.hid (bnext (balloc w (.cells #[.slice (some ⟨fb, fo, none⟩) NF fc, .slice io NI ic, .slice to_ NT tc, .int .i64 LT] 27)) (balloc _ (.cells #[.int .i64 8, .int .i64 (an : Int), .int .i64 (bn : Int)] 45)))
  have HX := Lib.hid (bnext HX2.out (balloc _ (.cells #[.int .i64 ke, .int .i64 lo, .int .i64 st, .slice co NC cc] 49)))
  have hM := hL.keep HX2.out hfb
  have y0 : ((w.alloc (.cells #[.slice (some ⟨fb, fo, none⟩) NF fc, .slice io NI ic, .slice to_ NT tc, .int .i64 LT] 27)).alloc (.cells #[.int .i64 8, .int .i64 (an : Int), .int .i64 (bn : Int)] 45)).cell? ⟨fb, fo + n * 4, none⟩ = some (.int .i64 ke) := hM 0 _ rfl
  have y1 : ((w.alloc (.cells #[.slice (some ⟨fb, fo, none⟩) NF fc, .slice io NI ic, .slice to_ NT tc, .int .i64 LT] 27)).alloc (.cells #[.int .i64 8, .int .i64 (an : Int), .int .i64 (bn : Int)] 45)).cell? ⟨fb, fo + n * 4 + 1, none⟩ = some (.int .i64 lo) := hM 1 _ rfl
  have y2 : ((w.alloc (.cells #[.slice (some ⟨fb, fo, none⟩) NF fc, .slice io NI ic, .slice to_ NT tc, .int .i64 LT] 27)).alloc (.cells #[.int .i64 8, .int .i64 (an : Int), .int .i64 (bn : Int)] 45)).cell? ⟨fb, fo + n * 4 + 2, none⟩ = some (.int .i64 st) := hM 2 _ rfl
  have y3 : ((w.alloc (.cells #[.slice (some ⟨fb, fo, none⟩) NF fc, .slice io NI ic, .slice to_ NT tc, .int .i64 LT] 27)).alloc (.cells #[.int .i64 8, .int .i64 (an : Int), .int .i64 (bn : Int)] 45)).cell? ⟨fb, fo + n * 4 + 3, none⟩ = some (.slice co NC cc) := hM 3 _ rfl
  have i0 : (0 : Int) ≤ (n : Int) := by omega
  have i1 : (n : Int) < (NF : Int) := by omega
  clear h hcell hL hq hrow hM hf hz
  by_cases hc : (an : Int) < LT
  · have HR : Hid (rightB c n ⟨ke, lo, st, code⟩ ⟨8, an, bn⟩ = true) := Lib.hid (by simp only [rightB]; simp [hLT.out] <;> omega)
    go_enter Try.func72, Try.ntmps72
    go_wp2_with fail
    exact bodyPost_ret (v := .tuple #[.bool true, .int .i64 1, .int .i64 0]) (by simp [results, Try.results72, go_sem]) rfl (eff_of HR.out (by simp [takesN]) (by simp [putsN]) HX.out)
  · have HR : Hid (rightB c n ⟨ke, lo, st, code⟩ ⟨8, an, bn⟩ = false) := Lib.hid (by simp only [rightB]; simp [hLT.out] <;> omega)
    go_enter Try.func72, Try.ntmps72
    go_wp2_with fail
    exact bodyPost_ret (v := .tuple #[.bool false, .int .i64 1, .int .i64 0]) (by simp [results, Try.results72, go_sem]) rfl (eff_of HR.out (by simp [takesN]) (by simp [putsN]) HX.out)
set_option maxHeartbeats 4000000 in
theorem eff_9 (c : Cd) (fv iv tv : Value) (n : Nat) (f : Bd) (an bn : Nat) (w : World) (S : Nat → Prop) (h : HasC w S c fv iv tv) (hf : c.funs[n]? = some f) (hz : Sz c) :
    Calls Try.prog 72 #[.agg #[fv, iv, tv, .int .i64 c.lets], .int .i64 (n : Int), .agg #[.int .i64 9, .int .i64 (an : Int), .int .i64 (bn : Int)]] w (EffRes c n f ⟨9, an, bn⟩ w) := by
  have hn := (List.getElem?_eq_some_iff.1 hf).1
  obtain ⟨io, ic, rfl, _⟩ := h.ints.val
  obtain ⟨to_, tc, rfl, _⟩ := h.texts.val
  obtain ⟨fb, fo, fc, rfl, _, hfb, hcell⟩ := h.funs.open_ (by intro e; rw [e] at hn; simp at hn)
  obtain ⟨q, hL, hq⟩ := hcell n f hf
  obtain ⟨qv, rfl, hrow⟩ := hasBd_row hq
  obtain ⟨co, cc, rfl, _⟩ := hrow.val
  obtain ⟨ke, lo, st, code⟩ := f
  have h1 := hz.funs
  have h2 := hz.ints
  have h3 := hz.texts
  obtain ⟨NF, hNF⟩ : ∃ x, Hid (c.funs.length = x) := ⟨_, Lib.hid rfl⟩
  obtain ⟨NI, hNI⟩ : ∃ x, Hid (c.ints.length = x) := ⟨_, Lib.hid rfl⟩
  obtain ⟨NT, hNT⟩ : ∃ x, Hid (c.texts.length = x) := ⟨_, Lib.hid rfl⟩
  obtain ⟨LT, hLT⟩ : ∃ x, Hid (c.lets = x) := ⟨_, Lib.hid rfl⟩
  have HC := Lib.hid h
  rw [hNF.out] at hn h1 ⊢
  rw [hNI.out] at h2 ⊢
  rw [hNT.out] at h3 ⊢
  rw [hLT.out]
  simp only at hrow hL ⊢
  obtain ⟨NC, hNC⟩ : ∃ x, Hid (code.length = x) := ⟨_, Lib.hid rfl⟩
  rw [hNC.out] at hL
  have HX2 := Lib.hid (bnext (balloc w (.cells #[.slice (some ⟨fb, fo, none⟩) NF fc, .slice io NI ic, .slice to_ NT tc, .int .i64 LT] 27)) (balloc _ (.cells #[.int .i64 9, .int .i64 (an : Int), .int .i64 (bn : Int)] 45)))
  have HX := Lib.hid (bnext HX2.out (balloc _ (.cells #[.int .i64 ke, .int .i64 lo, .int .i64 st, .slice co NC cc] 49)))
  have hM := hL.keep HX2.out hfb
  have y0 : ((w.alloc (.cells #[.slice (some ⟨fb, fo, none⟩) NF fc, .slice io NI ic, .slice to_ NT tc, .int .i64 LT] 27)).alloc (.cells #[.int .i64 9, .int .i64 (an : Int), .int .i64 (bn : Int)] 45)).cell? ⟨fb, fo + n * 4, none⟩ = some (.int .i64 ke) := hM 0 _ rfl
  have y1 : ((w.alloc (.cells #[.slice (some ⟨fb, fo, none⟩) NF fc, .slice io NI ic, .slice to_ NT tc, .int .i64 LT] 27)).alloc (.cells #[.int .i64 9, .int .i64 (an : Int), .int .i64 (bn : Int)] 45)).cell? ⟨fb, fo + n * 4 + 1, none⟩ = some (.int .i64 lo) := hM 1 _ rfl
  have y2 : ((w.alloc (.cells #[.slice (some ⟨fb, fo, none⟩) NF fc, .slice io NI ic, .slice to_ NT tc, .int .i64 LT] 27)).alloc (.cells #[.int .i64 9, .int .i64 (an : Int), .int .i64 (bn : Int)] 45)).cell? ⟨fb, fo + n * 4 + 2, none⟩ = some (.int .i64 st) := hM 2 _ rfl
  have y3 : ((w.alloc (.cells #[.slice (some ⟨fb, fo, none⟩) NF fc, .slice io NI ic, .slice to_ NT tc, .int .i64 LT] 27)).alloc (.cells #[.int .i64 9, .int .i64 (an : Int), .int .i64 (bn : Int)] 45)).cell? ⟨fb, fo + n * 4 + 3, none⟩ = some (.slice co NC cc) := hM 3 _ rfl
  have i0 : (0 : Int) ≤ (n : Int) := by omega
  have i1 : (n : Int) < (NF : Int) := by omega
  clear h hcell hL hq hrow hM hf hz
  go_enter Try.func72, Try.ntmps72
  go_wp2_with fail
  exact bodyPost_ret (v := .tuple #[.bool true, .int .i64 1, .int .i64 0]) (by simp [results, Try.results72, go_sem]) rfl (eff_of (by simp [rightB]) (by simp [takesN]) (by simp [putsN]) HX.out)
set_option maxHeartbeats 4000000 in
theorem eff_12 (c : Cd) (fv iv tv : Value) (n : Nat) (f : Bd) (an bn : Nat) (w : World) (S : Nat → Prop) (h : HasC w S c fv iv tv) (hf : c.funs[n]? = some f) (hz : Sz c) :
    Calls Try.prog 72 #[.agg #[fv, iv, tv, .int .i64 c.lets], .int .i64 (n : Int), .agg #[.int .i64 12, .int .i64 (an : Int), .int .i64 (bn : Int)]] w (EffRes c n f ⟨12, an, bn⟩ w) := by
  have hn := (List.getElem?_eq_some_iff.1 hf).1
  obtain ⟨io, ic, rfl, _⟩ := h.ints.val
  obtain ⟨to_, tc, rfl, _⟩ := h.texts.val
  obtain ⟨fb, fo, fc, rfl, _, hfb, hcell⟩ := h.funs.open_ (by intro e; rw [e] at hn; simp at hn)
  obtain ⟨q, hL, hq⟩ := hcell n f hf
  obtain ⟨qv, rfl, hrow⟩ := hasBd_row hq
  obtain ⟨co, cc, rfl, _⟩ := hrow.val
  obtain ⟨ke, lo, st, code⟩ := f
  have h1 := hz.funs
  have h2 := hz.ints
  have h3 := hz.texts
  obtain ⟨NF, hNF⟩ : ∃ x, Hid (c.funs.length = x) := ⟨_, Lib.hid rfl⟩
  obtain ⟨NI, hNI⟩ : ∃ x, Hid (c.ints.length = x) := ⟨_, Lib.hid rfl⟩
  obtain ⟨NT, hNT⟩ : ∃ x, Hid (c.texts.length = x) := ⟨_, Lib.hid rfl⟩
  obtain ⟨LT, hLT⟩ : ∃ x, Hid (c.lets = x) := ⟨_, Lib.hid rfl⟩
  have HC := Lib.hid h
  rw [hNF.out] at hn h1 ⊢
  rw [hNI.out] at h2 ⊢
  rw [hNT.out] at h3 ⊢
  rw [hLT.out]
  simp only at hrow hL ⊢
  obtain ⟨NC, hNC⟩ : ∃ x, Hid (code.length = x) := ⟨_, Lib.hid rfl⟩
  rw [hNC.out] at hL
  have HX2 := Lib.hid (bnext (balloc w (.cells #[.slice (some ⟨fb, fo, none⟩) NF fc, .slice io NI ic, .slice to_ NT tc, .int .i64 LT] 27)) (balloc _ (.cells #[.int .i64 12, .int .i64 (an : Int), .int .i64 (bn : Int)] 45)))
  have HX := Lib.hid (bnext HX2.out (balloc _ (.cells #[.int .i64 ke, .int .i64 lo, .int .i64 st, .slice co NC cc] 49)))
  have hM := hL.keep HX2.out hfb
  have y0 : ((w.alloc (.cells #[.slice (some ⟨fb, fo, none⟩) NF fc, .slice io NI ic, .slice to_ NT tc, .int .i64 LT] 27)).alloc (.cells #[.int .i64 12, .int .i64 (an : Int), .int .i64 (bn : Int)] 45)).cell? ⟨fb, fo + n * 4, none⟩ = some (.int .i64 ke) := hM 0 _ rfl
  have y1 : ((w.alloc (.cells #[.slice (some ⟨fb, fo, none⟩) NF fc, .slice io NI ic, .slice to_ NT tc, .int .i64 LT] 27)).alloc (.cells #[.int .i64 12, .int .i64 (an : Int), .int .i64 (bn : Int)] 45)).cell? ⟨fb, fo + n * 4 + 1, none⟩ = some (.int .i64 lo) := hM 1 _ rfl
  have y2 : ((w.alloc (.cells #[.slice (some ⟨fb, fo, none⟩) NF fc, .slice io NI ic, .slice to_ NT tc, .int .i64 LT] 27)).alloc (.cells #[.int .i64 12, .int .i64 (an : Int), .int .i64 (bn : Int)] 45)).cell? ⟨fb, fo + n * 4 + 2, none⟩ = some (.int .i64 st) := hM 2 _ rfl
  have y3 : ((w.alloc (.cells #[.slice (some ⟨fb, fo, none⟩) NF fc, .slice io NI ic, .slice to_ NT tc, .int .i64 LT] 27)).alloc (.cells #[.int .i64 12, .int .i64 (an : Int), .int .i64 (bn : Int)] 45)).cell? ⟨fb, fo + n * 4 + 3, none⟩ = some (.slice co NC cc) := hM 3 _ rfl
  have i0 : (0 : Int) ≤ (n : Int) := by omega
  have i1 : (n : Int) < (NF : Int) := by omega
  clear h hcell hL hq hrow hM hf hz
  by_cases hc : (an : Int) < 4
  · have HR : Hid (rightB c n ⟨ke, lo, st, code⟩ ⟨12, an, bn⟩ = true) := Lib.hid (by simp only [rightB]; simp [hc] <;> omega)
    go_enter Try.func72, Try.ntmps72
    go_wp2_with fail
    exact bodyPost_ret (v := .tuple #[.bool true, .int .i64 1, .int .i64 1]) (by simp [results, Try.results72, go_sem]) rfl (eff_of HR.out (by simp [takesN]) (by simp [putsN]) HX.out)
  · have HR : Hid (rightB c n ⟨ke, lo, st, code⟩ ⟨12, an, bn⟩ = false) := Lib.hid (by simp only [rightB]; simp [hc] <;> omega)
    go_enter Try.func72, Try.ntmps72
    go_wp2_with fail
    exact bodyPost_ret (v := .tuple #[.bool false, .int .i64 1, .int .i64 1]) (by simp [results, Try.results72, go_sem]) rfl (eff_of HR.out (by simp [takesN]) (by simp [putsN]) HX.out)
set_option maxHeartbeats 4000000 in
theorem eff_13 (c : Cd) (fv iv tv : Value) (n : Nat) (f : Bd) (an bn : Nat) (w : World) (S : Nat → Prop) (h : HasC w S c fv iv tv) (hf : c.funs[n]? = some f) (hz : Sz c) :
    Calls Try.prog 72 #[.agg #[fv, iv, tv, .int .i64 c.lets], .int .i64 (n : Int), .agg #[.int .i64 13, .int .i64 (an : Int), .int .i64 (bn : Int)]] w (EffRes c n f ⟨13, an, bn⟩ w) := by
  have hn := (List.getElem?_eq_some_iff.1 hf).1
  obtain ⟨io, ic, rfl, _⟩ := h.ints.val
  obtain ⟨to_, tc, rfl, _⟩ := h.texts.val
  obtain ⟨fb, fo, fc, rfl, _, hfb, hcell⟩ := h.funs.open_ (by intro e; rw [e] at hn; simp at hn)
  obtain ⟨q, hL, hq⟩ := hcell n f hf
  obtain ⟨qv, rfl, hrow⟩ := hasBd_row hq
  obtain ⟨co, cc, rfl, _⟩ := hrow.val
  obtain ⟨ke, lo, st, code⟩ := f
  have h1 := hz.funs
  have h2 := hz.ints
  have h3 := hz.texts
  obtain ⟨NF, hNF⟩ : ∃ x, Hid (c.funs.length = x) := ⟨_, Lib.hid rfl⟩
  obtain ⟨NI, hNI⟩ : ∃ x, Hid (c.ints.length = x) := ⟨_, Lib.hid rfl⟩
  obtain ⟨NT, hNT⟩ : ∃ x, Hid (c.texts.length = x) := ⟨_, Lib.hid rfl⟩
  obtain ⟨LT, hLT⟩ : ∃ x, Hid (c.lets = x) := ⟨_, Lib.hid rfl⟩
  have HC := Lib.hid h
  rw [hNF.out] at hn h1 ⊢
  rw [hNI.out] at h2 ⊢
  rw [hNT.out] at h3 ⊢
  rw [hLT.out]
  simp only at hrow hL ⊢
  obtain ⟨NC, hNC⟩ : ∃ x, Hid (code.length = x) := ⟨_, Lib.hid rfl⟩
  rw [hNC.out] at hL
  have HX2 := Lib.hid (bnext (balloc w (.cells #[.slice (some ⟨fb, fo, none⟩) NF fc, .slice io NI ic, .slice to_ NT tc, .int .i64 LT] 27)) (balloc _ (.cells #[.int .i64 13, .int .i64 (an : Int), .int .i64 (bn : Int)] 45)))
  have HX := Lib.hid (bnext HX2.out (balloc _ (.cells #[.int .i64 ke, .int .i64 lo, .int .i64 st, .slice co NC cc] 49)))
  have hM := hL.keep HX2.out hfb
  have y0 : ((w.alloc (.cells #[.slice (some ⟨fb, fo, none⟩) NF fc, .slice io NI ic, .slice to_ NT tc, .int .i64 LT] 27)).alloc (.cells #[.int .i64 13, .int .i64 (an : Int), .int .i64 (bn : Int)] 45)).cell? ⟨fb, fo + n * 4, none⟩ = some (.int .i64 ke) := hM 0 _ rfl
  have y1 : ((w.alloc (.cells #[.slice (some ⟨fb, fo, none⟩) NF fc, .slice io NI ic, .slice to_ NT tc, .int .i64 LT] 27)).alloc (.cells #[.int .i64 13, .int .i64 (an : Int), .int .i64 (bn : Int)] 45)).cell? ⟨fb, fo + n * 4 + 1, none⟩ = some (.int .i64 lo) := hM 1 _ rfl
  have y2 : ((w.alloc (.cells #[.slice (some ⟨fb, fo, none⟩) NF fc, .slice io NI ic, .slice to_ NT tc, .int .i64 LT] 27)).alloc (.cells #[.int .i64 13, .int .i64 (an : Int), .int .i64 (bn : Int)] 45)).cell? ⟨fb, fo + n * 4 + 2, none⟩ = some (.int .i64 st) := hM 2 _ rfl
  have y3 : ((w.alloc (.cells #[.slice (some ⟨fb, fo, none⟩) NF fc, .slice io NI ic, .slice to_ NT tc, .int .i64 LT] 27)).alloc (.cells #[.int .i64 13, .int .i64 (an : Int), .int .i64 (bn : Int)] 45)).cell? ⟨fb, fo + n * 4 + 3, none⟩ = some (.slice co NC cc) := hM 3 _ rfl
  have i0 : (0 : Int) ≤ (n : Int) := by omega
  have i1 : (n : Int) < (NF : Int) := by omega
  clear h hcell hL hq hrow hM hf hz
  go_enter Try.func72, Try.ntmps72
  go_wp2_with fail
  exact bodyPost_ret (v := .tuple #[.bool true, .int .i64 2, .int .i64 1]) (by simp [results, Try.results72, go_sem]) rfl (eff_of (by simp [rightB]) (by simp [takesN]) (by simp [putsN]) HX.out)
set_option maxHeartbeats 4000000 in
theorem eff_14 (c : Cd) (fv iv tv : Value) (n : Nat) (f : Bd) (an bn : Nat) (w : World) (S : Nat → Prop) (h : HasC w S c fv iv tv) (hf : c.funs[n]? = some f) (hz : Sz c) :
    Calls Try.prog 72 #[.agg #[fv, iv, tv, .int .i64 c.lets], .int .i64 (n : Int), .agg #[.int .i64 14, .int .i64 (an : Int), .int .i64 (bn : Int)]] w (EffRes c n f ⟨14, an, bn⟩ w) := by
  have hn := (List.getElem?_eq_some_iff.1 hf).1
  obtain ⟨io, ic, rfl, _⟩ := h.ints.val
  obtain ⟨to_, tc, rfl, _⟩ := h.texts.val
  obtain ⟨fb, fo, fc, rfl, _, hfb, hcell⟩ := h.funs.open_ (by intro e; rw [e] at hn; simp at hn)
  obtain ⟨q, hL, hq⟩ := hcell n f hf
  obtain ⟨qv, rfl, hrow⟩ := hasBd_row hq
  obtain ⟨co, cc, rfl, _⟩ := hrow.val
  obtain ⟨ke, lo, st, code⟩ := f
  have h1 := hz.funs
  have h2 := hz.ints
  have h3 := hz.texts
  obtain ⟨NF, hNF⟩ : ∃ x, Hid (c.funs.length = x) := ⟨_, Lib.hid rfl⟩
  obtain ⟨NI, hNI⟩ : ∃ x, Hid (c.ints.length = x) := ⟨_, Lib.hid rfl⟩
  obtain ⟨NT, hNT⟩ : ∃ x, Hid (c.texts.length = x) := ⟨_, Lib.hid rfl⟩
  obtain ⟨LT, hLT⟩ : ∃ x, Hid (c.lets = x) := ⟨_, Lib.hid rfl⟩
  have HC := Lib.hid h
  rw [hNF.out] at hn h1 ⊢
  rw [hNI.out] at h2 ⊢
  rw [hNT.out] at h3 ⊢
  rw [hLT.out]
  simp only at hrow hL ⊢
  obtain ⟨NC, hNC⟩ : ∃ x, Hid (code.length = x) := ⟨_, Lib.hid rfl⟩
  rw [hNC.out] at hL
  have HX2 := Lib.hid (bnext (balloc w (.cells #[.slice (some ⟨fb, fo, none⟩) NF fc, .slice io NI ic, .slice to_ NT tc, .int .i64 LT] 27)) (balloc _ (.cells #[.int .i64 14, .int .i64 (an : Int), .int .i64 (bn : Int)] 45)))
  have HX := Lib.hid (bnext HX2.out (balloc _ (.cells #[.int .i64 ke, .int .i64 lo, .int .i64 st, .slice co NC cc] 49)))
  have hM := hL.keep HX2.out hfb
  have y0 : ((w.alloc (.cells #[.slice (some ⟨fb, fo, none⟩) NF fc, .slice io NI ic, .slice to_ NT tc, .int .i64 LT] 27)).alloc (.cells #[.int .i64 14, .int .i64 (an : Int), .int .i64 (bn : Int)] 45)).cell? ⟨fb, fo + n * 4, none⟩ = some (.int .i64 ke) := hM 0 _ rfl
  have y1 : ((w.alloc (.cells #[.slice (some ⟨fb, fo, none⟩) NF fc, .slice io NI ic, .slice to_ NT tc, .int .i64 LT] 27)).alloc (.cells #[.int .i64 14, .int .i64 (an : Int), .int .i64 (bn : Int)] 45)).cell? ⟨fb, fo + n * 4 + 1, none⟩ = some (.int .i64 lo) := hM 1 _ rfl
  have y2 : ((w.alloc (.cells #[.slice (some ⟨fb, fo, none⟩) NF fc, .slice io NI ic, .slice to_ NT tc, .int .i64 LT] 27)).alloc (.cells #[.int .i64 14, .int .i64 (an : Int), .int .i64 (bn : Int)] 45)).cell? ⟨fb, fo + n * 4 + 2, none⟩ = some (.int .i64 st) := hM 2 _ rfl
  have y3 : ((w.alloc (.cells #[.slice (some ⟨fb, fo, none⟩) NF fc, .slice io NI ic, .slice to_ NT tc, .int .i64 LT] 27)).alloc (.cells #[.int .i64 14, .int .i64 (an : Int), .int .i64 (bn : Int)] 45)).cell? ⟨fb, fo + n * 4 + 3, none⟩ = some (.slice co NC cc) := hM 3 _ rfl
  have i0 : (0 : Int) ≤ (n : Int) := by omega
  have i1 : (n : Int) < (NF : Int) := by omega
  clear h hcell hL hq hrow hM hf hz
  go_enter Try.func72, Try.ntmps72
  go_wp2_with fail
  exact bodyPost_ret (v := .tuple #[.bool true, .int .i64 2, .int .i64 0]) (by simp [results, Try.results72, go_sem]) rfl (eff_of (by simp [rightB]) (by simp [takesN]) (by simp [putsN]) HX.out)
set_option maxHeartbeats 4000000 in
theorem eff_15 (c : Cd) (fv iv tv : Value) (n : Nat) (f : Bd) (an bn : Nat) (w : World) (S : Nat → Prop) (h : HasC w S c fv iv tv) (hf : c.funs[n]? = some f) (hz : Sz c) :
    Calls Try.prog 72 #[.agg #[fv, iv, tv, .int .i64 c.lets], .int .i64 (n : Int), .agg #[.int .i64 15, .int .i64 (an : Int), .int .i64 (bn : Int)]] w (EffRes c n f ⟨15, an, bn⟩ w) := by
  have hn := (List.getElem?_eq_some_iff.1 hf).1
  obtain ⟨io, ic, rfl, _⟩ := h.ints.val
  obtain ⟨to_, tc, rfl, _⟩ := h.texts.val
  obtain ⟨fb, fo, fc, rfl, _, hfb, hcell⟩ := h.funs.open_ (by intro e; rw [e] at hn; simp at hn)
  obtain ⟨q, hL, hq⟩ := hcell n f hf
  obtain ⟨qv, rfl, hrow⟩ := hasBd_row hq
  obtain ⟨co, cc, rfl, _⟩ := hrow.val
  obtain ⟨ke, lo, st, code⟩ := f
  have h1 := hz.funs
  have h2 := hz.ints
  have h3 := hz.texts
  obtain ⟨NF, hNF⟩ : ∃ x, Hid (c.funs.length = x) := ⟨_, Lib.hid rfl⟩
  obtain ⟨NI, hNI⟩ : ∃ x, Hid (c.ints.length = x) := ⟨_, Lib.hid rfl⟩
  obtain ⟨NT, hNT⟩ : ∃ x, Hid (c.texts.length = x) := ⟨_, Lib.hid rfl⟩
  obtain ⟨LT, hLT⟩ : ∃ x, Hid (c.lets = x) := ⟨_, Lib.hid rfl⟩
  have HC := Lib.hid h
  rw [hNF.out] at hn h1 ⊢
  rw [hNI.out] at h2 ⊢
  rw [hNT.out] at h3 ⊢
  rw [hLT.out]
  simp only at hrow hL ⊢
  obtain ⟨NC, hNC⟩ : ∃ x, Hid (code.length = x) := ⟨_, Lib.hid rfl⟩
  rw [hNC.out] at hL
  have HX2 := Lib.hid (bnext (balloc w (.cells #[.slice (some ⟨fb, fo, none⟩) NF fc, .slice io NI ic, .slice to_ NT tc, .int .i64 LT] 27)) (balloc _ (.cells #[.int .i64 15, .int .i64 (an : Int), .int .i64 (bn : Int)] 45)))
  have HX := Lib.hid (bnext HX2.out (balloc _ (.cells #[.int .i64 ke, .int .i64 lo, .int .i64 st, .slice co NC cc] 49)))
  have hM := hL.keep HX2.out hfb
  have y0 : ((w.alloc (.cells #[.slice (some ⟨fb, fo, none⟩) NF fc, .slice io NI ic, .slice to_ NT tc, .int .i64 LT] 27)).alloc (.cells #[.int .i64 15, .int .i64 (an : Int), .int .i64 (bn : Int)] 45)).cell? ⟨fb, fo + n * 4, none⟩ = some (.int .i64 ke) := hM 0 _ rfl
  have y1 : ((w.alloc (.cells #[.slice (some ⟨fb, fo, none⟩) NF fc, .slice io NI ic, .slice to_ NT tc, .int .i64 LT] 27)).alloc (.cells #[.int .i64 15, .int .i64 (an : Int), .int .i64 (bn : Int)] 45)).cell? ⟨fb, fo + n * 4 + 1, none⟩ = some (.int .i64 lo) := hM 1 _ rfl
  have y2 : ((w.alloc (.cells #[.slice (some ⟨fb, fo, none⟩) NF fc, .slice io NI ic, .slice to_ NT tc, .int .i64 LT] 27)).alloc (.cells #[.int .i64 15, .int .i64 (an : Int), .int .i64 (bn : Int)] 45)).cell? ⟨fb, fo + n * 4 + 2, none⟩ = some (.int .i64 st) := hM 2 _ rfl
  have y3 : ((w.alloc (.cells #[.slice (some ⟨fb, fo, none⟩) NF fc, .slice io NI ic, .slice to_ NT tc, .int .i64 LT] 27)).alloc (.cells #[.int .i64 15, .int .i64 (an : Int), .int .i64 (bn : Int)] 45)).cell? ⟨fb, fo + n * 4 + 3, none⟩ = some (.slice co NC cc) := hM 3 _ rfl
  have i0 : (0 : Int) ≤ (n : Int) := by omega
  have i1 : (n : Int) < (NF : Int) := by omega
  clear h hcell hL hq hrow hM hf hz
  go_enter Try.func72, Try.ntmps72
  go_wp2_with fail
  exact bodyPost_ret (v := .tuple #[.bool true, .int .i64 1, .int .i64 0]) (by simp [results, Try.results72, go_sem]) rfl (eff_of (by simp [rightB]) (by simp [takesN]) (by simp [putsN]) HX.out)
set_option maxHeartbeats 4000000 in
theorem eff_16 (c : Cd) (fv iv tv : Value) (n : Nat) (f : Bd) (an bn : Nat) (w : World) (S : Nat → Prop) (h : HasC w S c fv iv tv) (hf : c.funs[n]? = some f) (hz : Sz c) :
    Calls Try.prog 72 #[.agg #[fv, iv, tv, .int .i64 c.lets], .int .i64 (n : Int), .agg #[.int .i64 16, .int .i64 (an : Int), .int .i64 (bn : Int)]] w (EffRes c n f ⟨16, an, bn⟩ w) := by
  have hn := (List.getElem?_eq_some_iff.1 hf).1
  obtain ⟨io, ic, rfl, _⟩ := h.ints.val
  obtain ⟨to_, tc, rfl, _⟩ := h.texts.val
  obtain ⟨fb, fo, fc, rfl, _, hfb, hcell⟩ := h.funs.open_ (by intro e; rw [e] at hn; simp at hn)
  obtain ⟨q, hL, hq⟩ := hcell n f hf
  obtain ⟨qv, rfl, hrow⟩ := hasBd_row hq
  obtain ⟨co, cc, rfl, _⟩ := hrow.val
  obtain ⟨ke, lo, st, code⟩ := f
  have h1 := hz.funs
  have h2 := hz.ints
  have h3 := hz.texts
  obtain ⟨NF, hNF⟩ : ∃ x, Hid (c.funs.length = x) := ⟨_, Lib.hid rfl⟩
  obtain ⟨NI, hNI⟩ : ∃ x, Hid (c.ints.length = x) := ⟨_, Lib.hid rfl⟩
  obtain ⟨NT, hNT⟩ : ∃ x, Hid (c.texts.length = x) := ⟨_, Lib.hid rfl⟩
  obtain ⟨LT, hLT⟩ : ∃ x, Hid (c.lets = x) := ⟨_, Lib.hid rfl⟩
  have HC := Lib.hid h
  rw [hNF.out] at hn h1 ⊢
  rw [hNI.out] at h2 ⊢
  rw [hNT.out] at h3 ⊢
  rw [hLT.out]
  simp only at hrow hL ⊢
  obtain ⟨NC, hNC⟩ : ∃ x, Hid (code.length = x) := ⟨_, Lib.hid rfl⟩
  rw [hNC.out] at hL
  have HX2 := Lib.hid (bnext (balloc w (.cells #[.slice (some ⟨fb, fo, none⟩) NF fc, .slice io NI ic, .slice to_ NT tc, .int .i64 LT] 27)) (balloc _ (.cells #[.int .i64 16, .int .i64 (an : Int), .int .i64 (bn : Int)] 45)))
  have HX := Lib.hid (bnext HX2.out (balloc _ (.cells #[.int .i64 ke, .int .i64 lo, .int .i64 st, .slice co NC cc] 49)))
  have hM := hL.keep HX2.out hfb
  have y0 : ((w.alloc (.cells #[.slice (some ⟨fb, fo, none⟩) NF fc, .slice io NI ic, .slice to_ NT tc, .int .i64 LT] 27)).alloc (.cells #[.int .i64 16, .int .i64 (an : Int), .int .i64 (bn : Int)] 45)).cell? ⟨fb, fo + n * 4, none⟩ = some (.int .i64 ke) := hM 0 _ rfl
  have y1 : ((w.alloc (.cells #[.slice (some ⟨fb, fo, none⟩) NF fc, .slice io NI ic, .slice to_ NT tc, .int .i64 LT] 27)).alloc (.cells #[.int .i64 16, .int .i64 (an : Int), .int .i64 (bn : Int)] 45)).cell? ⟨fb, fo + n * 4 + 1, none⟩ = some (.int .i64 lo) := hM 1 _ rfl
  have y2 : ((w.alloc (.cells #[.slice (some ⟨fb, fo, none⟩) NF fc, .slice io NI ic, .slice to_ NT tc, .int .i64 LT] 27)).alloc (.cells #[.int .i64 16, .int .i64 (an : Int), .int .i64 (bn : Int)] 45)).cell? ⟨fb, fo + n * 4 + 2, none⟩ = some (.int .i64 st) := hM 2 _ rfl
  have y3 : ((w.alloc (.cells #[.slice (some ⟨fb, fo, none⟩) NF fc, .slice io NI ic, .slice to_ NT tc, .int .i64 LT] 27)).alloc (.cells #[.int .i64 16, .int .i64 (an : Int), .int .i64 (bn : Int)] 45)).cell? ⟨fb, fo + n * 4 + 3, none⟩ = some (.slice co NC cc) := hM 3 _ rfl
  have i0 : (0 : Int) ≤ (n : Int) := by omega
  have i1 : (n : Int) < (NF : Int) := by omega
  clear h hcell hL hq hrow hM hf hz
  go_enter Try.func72, Try.ntmps72
  go_wp2_with fail
  exact bodyPost_ret (v := .tuple #[.bool true, .int .i64 0, .int .i64 0]) (by simp [results, Try.results72, go_sem]) rfl (eff_of (by simp [rightB]) (by simp [takesN]) (by simp [putsN]) HX.out)
set_option maxHeartbeats 4000000 in
theorem eff_17 (c : Cd) (fv iv tv : Value) (n : Nat) (f : Bd) (an bn : Nat) (w : World) (S : Nat → Prop) (h : HasC w S c fv iv tv) (hf : c.funs[n]? = some f) (hz : Sz c) :
    Calls Try.prog 72 #[.agg #[fv, iv, tv, .int .i64 c.lets], .int .i64 (n : Int), .agg #[.int .i64 17, .int .i64 (an : Int), .int .i64 (bn : Int)]] w (EffRes c n f ⟨17, an, bn⟩ w) := by
  have hn := (List.getElem?_eq_some_iff.1 hf).1
  obtain ⟨io, ic, rfl, _⟩ := h.ints.val
  obtain ⟨to_, tc, rfl, _⟩ := h.texts.val
  obtain ⟨fb, fo, fc, rfl, _, hfb, hcell⟩ := h.funs.open_ (by intro e; rw [e] at hn; simp at hn)
  obtain ⟨q, hL, hq⟩ := hcell n f hf
  obtain ⟨qv, rfl, hrow⟩ := hasBd_row hq
  obtain ⟨co, cc, rfl, _⟩ := hrow.val
  obtain ⟨ke, lo, st, code⟩ := f
  have h1 := hz.funs
  have h2 := hz.ints
  have h3 := hz.texts
  obtain ⟨NF, hNF⟩ : ∃ x, Hid (c.funs.length = x) := ⟨_, Lib.hid rfl⟩
  obtain ⟨NI, hNI⟩ : ∃ x, Hid (c.ints.length = x) := ⟨_, Lib.hid rfl⟩
  obtain ⟨NT, hNT⟩ : ∃ x, Hid (c.texts.length = x) := ⟨_, Lib.hid rfl⟩
  obtain ⟨LT, hLT⟩ : ∃ x, Hid (c.lets = x) := ⟨_, Lib.hid rfl⟩
  have HC := Lib.hid h
  rw [hNF.out] at hn h1 ⊢
  rw [hNI.out] at h2 ⊢
  rw [hNT.out] at h3 ⊢
  rw [hLT.out]
  simp only at hrow hL ⊢
  obtain ⟨NC, hNC⟩ : ∃ x, Hid (code.length = x) := ⟨_, Lib.hid rfl⟩
  rw [hNC.out] at hL
  have HX2 := Lib.hid (bnext (balloc w (.cells #[.slice (some ⟨fb, fo, none⟩) NF fc, .slice io NI ic, .slice to_ NT tc, .int .i64 LT] 27)) (balloc _ (.cells #[.int .i64 17, .int .i64 (an : Int), .int .i64 (bn : Int)] 45)))
  have HX := Lib.hid (bnext HX2.out (balloc _ (.cells #[.int .i64 ke, .int .i64 lo, .int .i64 st, .slice co NC cc] 49)))
  have hM := hL.keep HX2.out hfb
  have y0 : ((w.alloc (.cells #[.slice (some ⟨fb, fo, none⟩) NF fc, .slice io NI ic, .slice to_ NT tc, .int .i64 LT] 27)).alloc (.cells #[.int .i64 17, .int .i64 (an : Int), .int .i64 (bn : Int)] 45)).cell? ⟨fb, fo + n * 4, none⟩ = some (.int .i64 ke) := hM 0 _ rfl
  have y1 : ((w.alloc (.cells #[.slice (some ⟨fb, fo, none⟩) NF fc, .slice io NI ic, .slice to_ NT tc, .int .i64 LT] 27)).alloc (.cells #[.int .i64 17, .int .i64 (an : Int), .int .i64 (bn : Int)] 45)).cell? ⟨fb, fo + n * 4 + 1, none⟩ = some (.int .i64 lo) := hM 1 _ rfl
  have y2 : ((w.alloc (.cells #[.slice (some ⟨fb, fo, none⟩) NF fc, .slice io NI ic, .slice to_ NT tc, .int .i64 LT] 27)).alloc (.cells #[.int .i64 17, .int .i64 (an : Int), .int .i64 (bn : Int)] 45)).cell? ⟨fb, fo + n * 4 + 2, none⟩ = some (.int .i64 st) := hM 2 _ rfl
  have y3 : ((w.alloc (.cells #[.slice (some ⟨fb, fo, none⟩) NF fc, .slice io NI ic, .slice to_ NT tc, .int .i64 LT] 27)).alloc (.cells #[.int .i64 17, .int .i64 (an : Int), .int .i64 (bn : Int)] 45)).cell? ⟨fb, fo + n * 4 + 3, none⟩ = some (.slice co NC cc) := hM 3 _ rfl
  have i0 : (0 : Int) ≤ (n : Int) := by omega
  have i1 : (n : Int) < (NF : Int) := by omega
  clear h hcell hL hq hrow hM hf hz
  go_enter Try.func72, Try.ntmps72
  go_wp2_with fail
  exact bodyPost_ret (v := .tuple #[.bool true, .int .i64 1, .int .i64 0]) (by simp [results, Try.results72, go_sem]) rfl (eff_of (by simp [rightB]) (by simp [takesN]) (by simp [putsN]) HX.out)
set_option maxHeartbeats 4000000 in
theorem eff_18 (c : Cd) (fv iv tv : Value) (n : Nat) (f : Bd) (an bn : Nat) (w : World) (S : Nat → Prop) (h : HasC w S c fv iv tv) (hf : c.funs[n]? = some f) (hz : Sz c) :
    Calls Try.prog 72 #[.agg #[fv, iv, tv, .int .i64 c.lets], .int .i64 (n : Int), .agg #[.int .i64 18, .int .i64 (an : Int), .int .i64 (bn : Int)]] w (EffRes c n f ⟨18, an, bn⟩ w) := by
  have hn := (List.getElem?_eq_some_iff.1 hf).1
  obtain ⟨io, ic, rfl, _⟩ := h.ints.val
  obtain ⟨to_, tc, rfl, _⟩ := h.texts.val
  obtain ⟨fb, fo, fc, rfl, _, hfb, hcell⟩ := h.funs.open_ (by intro e; rw [e] at hn; simp at hn)
  obtain ⟨q, hL, hq⟩ := hcell n f hf
  obtain ⟨qv, rfl, hrow⟩ := hasBd_row hq
  obtain ⟨co, cc, rfl, _⟩ := hrow.val
  obtain ⟨ke, lo, st, code⟩ := f
  have h1 := hz.funs
  have h2 := hz.ints
  have h3 := hz.texts
  obtain ⟨NF, hNF⟩ : ∃ x, Hid (c.funs.length = x) := ⟨_, Lib.hid rfl⟩
  obtain ⟨NI, hNI⟩ : ∃ x, Hid (c.ints.length = x) := ⟨_, Lib.hid rfl⟩
  obtain ⟨NT, hNT⟩ : ∃ x, Hid (c.texts.length = x) := ⟨_, Lib.hid rfl⟩
  obtain ⟨LT, hLT⟩ : ∃ x, Hid (c.lets = x) := ⟨_, Lib.hid rfl⟩
  have HC := Lib.hid h
  rw [hNF.out] at hn h1 ⊢
  rw [hNI.out] at h2 ⊢
  rw [hNT.out] at h3 ⊢
  rw [hLT.out]
  simp only at hrow hL ⊢
  obtain ⟨NC, hNC⟩ : ∃ x, Hid (code.length = x) := ⟨_, Lib.hid rfl⟩
  rw [hNC.out] at hL
  have HX2 := Lib.hid (bnext (balloc w (.cells #[.slice (some ⟨fb, fo, none⟩) NF fc, .slice io NI ic, .slice to_ NT tc, .int .i64 LT] 27)) (balloc _ (.cells #[.int .i64 18, .int .i64 (an : Int), .int .i64 (bn : Int)] 45)))
  have HX := Lib.hid (bnext HX2.out (balloc _ (.cells #[.int .i64 ke, .int .i64 lo, .int .i64 st, .slice co NC cc] 49)))
  have hM := hL.keep HX2.out hfb
  have y0 : ((w.alloc (.cells #[.slice (some ⟨fb, fo, none⟩) NF fc, .slice io NI ic, .slice to_ NT tc, .int .i64 LT] 27)).alloc (.cells #[.int .i64 18, .int .i64 (an : Int), .int .i64 (bn : Int)] 45)).cell? ⟨fb, fo + n * 4, none⟩ = some (.int .i64 ke) := hM 0 _ rfl
  have y1 : ((w.alloc (.cells #[.slice (some ⟨fb, fo, none⟩) NF fc, .slice io NI ic, .slice to_ NT tc, .int .i64 LT] 27)).alloc (.cells #[.int .i64 18, .int .i64 (an : Int), .int .i64 (bn : Int)] 45)).cell? ⟨fb, fo + n * 4 + 1, none⟩ = some (.int .i64 lo) := hM 1 _ rfl
  have y2 : ((w.alloc (.cells #[.slice (some ⟨fb, fo, none⟩) NF fc, .slice io NI ic, .slice to_ NT tc, .int .i64 LT] 27)).alloc (.cells #[.int .i64 18, .int .i64 (an : Int), .int .i64 (bn : Int)] 45)).cell? ⟨fb, fo + n * 4 + 2, none⟩ = some (.int .i64 st) := hM 2 _ rfl
  have y3 : ((w.alloc (.cells #[.slice (some ⟨fb, fo, none⟩) NF fc, .slice io NI ic, .slice to_ NT tc, .int .i64 LT] 27)).alloc (.cells #[.int .i64 18, .int .i64 (an : Int), .int .i64 (bn : Int)] 45)).cell? ⟨fb, fo + n * 4 + 3, none⟩ = some (.slice co NC cc) := hM 3 _ rfl
  have i0 : (0 : Int) ≤ (n : Int) := by omega
  have i1 : (n : Int) < (NF : Int) := by omega
  clear h hcell hL hq hrow hM hf hz
  go_enter Try.func72, Try.ntmps72
  go_wp2_with fail
  exact bodyPost_ret (v := .tuple #[.bool true, .int .i64 1, .int .i64 0]) (by simp [results, Try.results72, go_sem]) rfl (eff_of (by simp [rightB]) (by simp [takesN]) (by simp [putsN]) HX.out)
set_option maxHeartbeats 4000000 in
theorem eff_19 (c : Cd) (fv iv tv : Value) (n : Nat) (f : Bd) (an bn : Nat) (w : World) (S : Nat → Prop) (h : HasC w S c fv iv tv) (hf : c.funs[n]? = some f) (hz : Sz c) :
    Calls Try.prog 72 #[.agg #[fv, iv, tv, .int .i64 c.lets], .int .i64 (n : Int), .agg #[.int .i64 19, .int .i64 (an : Int), .int .i64 (bn : Int)]] w (EffRes c n f ⟨19, an, bn⟩ w) := by
  have hn := (List.getElem?_eq_some_iff.1 hf).1
  obtain ⟨io, ic, rfl, _⟩ := h.ints.val
  obtain ⟨to_, tc, rfl, _⟩ := h.texts.val
  obtain ⟨fb, fo, fc, rfl, _, hfb, hcell⟩ := h.funs.open_ (by intro e; rw [e] at hn; simp at hn)
  obtain ⟨q, hL, hq⟩ := hcell n f hf
  obtain ⟨qv, rfl, hrow⟩ := hasBd_row hq
  obtain ⟨co, cc, rfl, _⟩ := hrow.val
  obtain ⟨ke, lo, st, code⟩ := f
  have h1 := hz.funs
  have h2 := hz.ints
  have h3 := hz.texts
  obtain ⟨NF, hNF⟩ : ∃ x, Hid (c.funs.length = x) := ⟨_, Lib.hid rfl⟩
  obtain ⟨NI, hNI⟩ : ∃ x, Hid (c.ints.length = x) := ⟨_, Lib.hid rfl⟩
  obtain ⟨NT, hNT⟩ : ∃ x, Hid (c.texts.length = x) := ⟨_, Lib.hid rfl⟩
  obtain ⟨LT, hLT⟩ : ∃ x, Hid (c.lets = x) := ⟨_, Lib.hid rfl⟩
  have HC := Lib.hid h
  rw [hNF.out] at hn h1 ⊢
  rw [hNI.out] at h2 ⊢
  rw [hNT.out] at h3 ⊢
  rw [hLT.out]
  simp only at hrow hL ⊢
  obtain ⟨NC, hNC⟩ : ∃ x, Hid (code.length = x) := ⟨_, Lib.hid rfl⟩
  rw [hNC.out] at hL
  have HX2 := Lib.hid (bnext (balloc w (.cells #[.slice (some ⟨fb, fo, none⟩) NF fc, .slice io NI ic, .slice to_ NT tc, .int .i64 LT] 27)) (balloc _ (.cells #[.int .i64 19, .int .i64 (an : Int), .int .i64 (bn : Int)] 45)))
  have HX := Lib.hid (bnext HX2.out (balloc _ (.cells #[.int .i64 ke, .int .i64 lo, .int .i64 st, .slice co NC cc] 49)))
  have hM := hL.keep HX2.out hfb
  have y0 : ((w.alloc (.cells #[.slice (some ⟨fb, fo, none⟩) NF fc, .slice io NI ic, .slice to_ NT tc, .int .i64 LT] 27)).alloc (.cells #[.int .i64 19, .int .i64 (an : Int), .int .i64 (bn : Int)] 45)).cell? ⟨fb, fo + n * 4, none⟩ = some (.int .i64 ke) := hM 0 _ rfl
  have y1 : ((w.alloc (.cells #[.slice (some ⟨fb, fo, none⟩) NF fc, .slice io NI ic, .slice to_ NT tc, .int .i64 LT] 27)).alloc (.cells #[.int .i64 19, .int .i64 (an : Int), .int .i64 (bn : Int)] 45)).cell? ⟨fb, fo + n * 4 + 1, none⟩ = some (.int .i64 lo) := hM 1 _ rfl
  have y2 : ((w.alloc (.cells #[.slice (some ⟨fb, fo, none⟩) NF fc, .slice io NI ic, .slice to_ NT tc, .int .i64 LT] 27)).alloc (.cells #[.int .i64 19, .int .i64 (an : Int), .int .i64 (bn : Int)] 45)).cell? ⟨fb, fo + n * 4 + 2, none⟩ = some (.int .i64 st) := hM 2 _ rfl
  have y3 : ((w.alloc (.cells #[.slice (some ⟨fb, fo, none⟩) NF fc, .slice io NI ic, .slice to_ NT tc, .int .i64 LT] 27)).alloc (.cells #[.int .i64 19, .int .i64 (an : Int), .int .i64 (bn : Int)] 45)).cell? ⟨fb, fo + n * 4 + 3, none⟩ = some (.slice co NC cc) := hM 3 _ rfl
  have i0 : (0 : Int) ≤ (n : Int) := by omega
  have i1 : (n : Int) < (NF : Int) := by omega
  clear h hcell hL hq hrow hM hf hz
  by_cases hc : (an : Int) < 7
  · have HR : Hid (rightB c n ⟨ke, lo, st, code⟩ ⟨19, an, bn⟩ = true) := Lib.hid (by simp only [rightB]; simp [hc] <;> omega)
    go_enter Try.func72, Try.ntmps72
    go_wp2_with fail
    exact bodyPost_ret (v := .tuple #[.bool true, .int .i64 2, .int .i64 1]) (by simp [results, Try.results72, go_sem]) rfl (eff_of HR.out (by simp [takesN]) (by simp [putsN]) HX.out)
  · have HR : Hid (rightB c n ⟨ke, lo, st, code⟩ ⟨19, an, bn⟩ = false) := Lib.hid (by simp only [rightB]; simp [hc] <;> omega)
    go_enter Try.func72, Try.ntmps72
    go_wp2_with fail
    exact bodyPost_ret (v := .tuple #[.bool false, .int .i64 2, .int .i64 1]) (by simp [results, Try.results72, go_sem]) rfl (eff_of HR.out (by simp [takesN]) (by simp [putsN]) HX.out)
set_option maxHeartbeats 4000000 in
theorem eff_20 (c : Cd) (fv iv tv : Value) (n : Nat) (f : Bd) (an bn : Nat) (w : World) (S : Nat → Prop) (h : HasC w S c fv iv tv) (hf : c.funs[n]? = some f) (hz : Sz c) :
    Calls Try.prog 72 #[.agg #[fv, iv, tv, .int .i64 c.lets], .int .i64 (n : Int), .agg #[.int .i64 20, .int .i64 (an : Int), .int .i64 (bn : Int)]] w (EffRes c n f ⟨20, an, bn⟩ w) := by
  have hn := (List.getElem?_eq_some_iff.1 hf).1
  obtain ⟨io, ic, rfl, _⟩ := h.ints.val
  obtain ⟨to_, tc, rfl, _⟩ := h.texts.val
  obtain ⟨fb, fo, fc, rfl, _, hfb, hcell⟩ := h.funs.open_ (by intro e; rw [e] at hn; simp at hn)
  obtain ⟨q, hL, hq⟩ := hcell n f hf
  obtain ⟨qv, rfl, hrow⟩ := hasBd_row hq
  obtain ⟨co, cc, rfl, _⟩ := hrow.val
  obtain ⟨ke, lo, st, code⟩ := f
  have h1 := hz.funs
  have h2 := hz.ints
  have h3 := hz.texts
  obtain ⟨NF, hNF⟩ : ∃ x, Hid (c.funs.length = x) := ⟨_, Lib.hid rfl⟩
  obtain ⟨NI, hNI⟩ : ∃ x, Hid (c.ints.length = x) := ⟨_, Lib.hid rfl⟩
  obtain ⟨NT, hNT⟩ : ∃ x, Hid (c.texts.length = x) := ⟨_, Lib.hid rfl⟩
  obtain ⟨LT, hLT⟩ : ∃ x, Hid (c.lets = x) := ⟨_, Lib.hid rfl⟩
  have HC := Lib.hid h
  rw [hNF.out] at hn h1 ⊢
  rw [hNI.out] at h2 ⊢
  rw [hNT.out] at h3 ⊢
  rw [hLT.out]
  simp only at hrow hL ⊢
  obtain ⟨NC, hNC⟩ : ∃ x, Hid (code.length = x) := ⟨_, Lib.hid rfl⟩
  rw [hNC.out] at hL
  have HX2 := Lib.hid (bnext (balloc w (.cells #[.slice (some ⟨fb, fo, none⟩) NF fc, .slice io NI ic, .slice to_ NT tc, .int .i64 LT] 27)) (balloc _ (.cells #[.int .i64 20, .int .i64 (an : Int), .int .i64 (bn : Int)] 45)))
  have HX := Lib.hid (bnext HX2.out (balloc _ (.cells #[.int .i64 ke, .int .i64 lo, .int .i64 st, .slice co NC cc] 49)))
  have hM := hL.keep HX2.out hfb
  have y0 : ((w.alloc (.cells #[.slice (some ⟨fb, fo, none⟩) NF fc, .slice io NI ic, .slice to_ NT tc, .int .i64 LT] 27)).alloc (.cells #[.int .i64 20, .int .i64 (an : Int), .int .i64 (bn : Int)] 45)).cell? ⟨fb, fo + n * 4, none⟩ = some (.int .i64 ke) := hM 0 _ rfl
  have y1 : ((w.alloc (.cells #[.slice (some ⟨fb, fo, none⟩) NF fc, .slice io NI ic, .slice to_ NT tc, .int .i64 LT] 27)).alloc (.cells #[.int .i64 20, .int .i64 (an : Int), .int .i64 (bn : Int)] 45)).cell? ⟨fb, fo + n * 4 + 1, none⟩ = some (.int .i64 lo) := hM 1 _ rfl
  have y2 : ((w.alloc (.cells #[.slice (some ⟨fb, fo, none⟩) NF fc, .slice io NI ic, .slice to_ NT tc, .int .i64 LT] 27)).alloc (.cells #[.int .i64 20, .int .i64 (an : Int), .int .i64 (bn : Int)] 45)).cell? ⟨fb, fo + n * 4 + 2, none⟩ = some (.int .i64 st) := hM 2 _ rfl
  have y3 : ((w.alloc (.cells #[.slice (some ⟨fb, fo, none⟩) NF fc, .slice io NI ic, .slice to_ NT tc, .int .i64 LT] 27)).alloc (.cells #[.int .i64 20, .int .i64 (an : Int), .int .i64 (bn : Int)] 45)).cell? ⟨fb, fo + n * 4 + 3, none⟩ = some (.slice co NC cc) := hM 3 _ rfl
  have i0 : (0 : Int) ≤ (n : Int) := by omega
  have i1 : (n : Int) < (NF : Int) := by omega
  clear h hcell hL hq hrow hM hf hz
  go_enter Try.func72, Try.ntmps72
  go_wp2_with fail
  exact bodyPost_ret (v := .tuple #[.bool true, .int .i64 2, .int .i64 1]) (by simp [results, Try.results72, go_sem]) rfl (eff_of (by simp [rightB]) (by simp [takesN]) (by simp [putsN]) HX.out)
set_option maxHeartbeats 4000000 in
theorem eff_21 (c : Cd) (fv iv tv : Value) (n : Nat) (f : Bd) (an bn : Nat) (w : World) (S : Nat → Prop) (h : HasC w S c fv iv tv) (hf : c.funs[n]? = some f) (hz : Sz c) :
    Calls Try.prog 72 #[.agg #[fv, iv, tv, .int .i64 c.lets], .int .i64 (n : Int), .agg #[.int .i64 21, .int .i64 (an : Int), .int .i64 (bn : Int)]] w (EffRes c n f ⟨21, an, bn⟩ w) := by
  have hn := (List.getElem?_eq_some_iff.1 hf).1
  obtain ⟨io, ic, rfl, _⟩ := h.ints.val
  obtain ⟨to_, tc, rfl, _⟩ := h.texts.val
  obtain ⟨fb, fo, fc, rfl, _, hfb, hcell⟩ := h.funs.open_ (by intro e; rw [e] at hn; simp at hn)
  obtain ⟨q, hL, hq⟩ := hcell n f hf
  obtain ⟨qv, rfl, hrow⟩ := hasBd_row hq
  obtain ⟨co, cc, rfl, _⟩ := hrow.val
  obtain ⟨ke, lo, st, code⟩ := f
  have h1 := hz.funs
  have h2 := hz.ints
  have h3 := hz.texts
  obtain ⟨NF, hNF⟩ : ∃ x, Hid (c.funs.length = x) := ⟨_, Lib.hid rfl⟩
  obtain ⟨NI, hNI⟩ : ∃ x, Hid (c.ints.length = x) := ⟨_, Lib.hid rfl⟩
  obtain ⟨NT, hNT⟩ : ∃ x, Hid (c.texts.length = x) := ⟨_, Lib.hid rfl⟩
  obtain ⟨LT, hLT⟩ : ∃ x, Hid (c.lets = x) := ⟨_, Lib.hid rfl⟩
  have HC := Lib.hid h
  rw [hNF.out] at hn h1 ⊢
  rw [hNI.out] at h2 ⊢
  rw [hNT.out] at h3 ⊢
  rw [hLT.out]
  simp only at hrow hL ⊢
  obtain ⟨NC, hNC⟩ : ∃ x, Hid (code.length = x) := ⟨_, Lib.hid rfl⟩
  rw [hNC.out] at hL
  have HX2 := Lib.hid (bnext (balloc w (.cells #[.slice (some ⟨fb, fo, none⟩) NF fc, .slice io NI ic, .slice to_ NT tc, .int .i64 LT] 27)) (balloc _ (.cells #[.int .i64 21, .int .i64 (an : Int), .int .i64 (bn : Int)] 45)))
  have HX := Lib.hid (bnext HX2.out (balloc _ (.cells #[.int .i64 ke, .int .i64 lo, .int .i64 st, .slice co NC cc] 49)))
  have hM := hL.keep HX2.out hfb
  have y0 : ((w.alloc (.cells #[.slice (some ⟨fb, fo, none⟩) NF fc, .slice io NI ic, .slice to_ NT tc, .int .i64 LT] 27)).alloc (.cells #[.int .i64 21, .int .i64 (an : Int), .int .i64 (bn : Int)] 45)).cell? ⟨fb, fo + n * 4, none⟩ = some (.int .i64 ke) := hM 0 _ rfl
  have y1 : ((w.alloc (.cells #[.slice (some ⟨fb, fo, none⟩) NF fc, .slice io NI ic, .slice to_ NT tc, .int .i64 LT] 27)).alloc (.cells #[.int .i64 21, .int .i64 (an : Int), .int .i64 (bn : Int)] 45)).cell? ⟨fb, fo + n * 4 + 1, none⟩ = some (.int .i64 lo) := hM 1 _ rfl
  have y2 : ((w.alloc (.cells #[.slice (some ⟨fb, fo, none⟩) NF fc, .slice io NI ic, .slice to_ NT tc, .int .i64 LT] 27)).alloc (.cells #[.int .i64 21, .int .i64 (an : Int), .int .i64 (bn : Int)] 45)).cell? ⟨fb, fo + n * 4 + 2, none⟩ = some (.int .i64 st) := hM 2 _ rfl
  have y3 : ((w.alloc (.cells #[.slice (some ⟨fb, fo, none⟩) NF fc, .slice io NI ic, .slice to_ NT tc, .int .i64 LT] 27)).alloc (.cells #[.int .i64 21, .int .i64 (an : Int), .int .i64 (bn : Int)] 45)).cell? ⟨fb, fo + n * 4 + 3, none⟩ = some (.slice co NC cc) := hM 3 _ rfl
  have i0 : (0 : Int) ≤ (n : Int) := by omega
  have i1 : (n : Int) < (NF : Int) := by omega
  clear h hcell hL hq hrow hM hf hz
  go_enter Try.func72, Try.ntmps72
  go_wp2_with fail
  exact bodyPost_ret (v := .tuple #[.bool true, .int .i64 0, .int .i64 0]) (by simp [results, Try.results72, go_sem]) rfl (eff_of (by simp [rightB]) (by simp [takesN]) (by simp [putsN]) HX.out)
set_option maxHeartbeats 4000000 in
theorem eff_22 (c : Cd) (fv iv tv : Value) (n : Nat) (f : Bd) (an bn : Nat) (w : World) (S : Nat → Prop) (h : HasC w S c fv iv tv) (hf : c.funs[n]? = some f) (hz : Sz c) :
    Calls Try.prog 72 #[.agg #[fv, iv, tv, .int .i64 c.lets], .int .i64 (n : Int), .agg #[.int .i64 22, .int .i64 (an : Int), .int .i64 (bn : Int)]] w (EffRes c n f ⟨22, an, bn⟩ w) := by
  have hn := (List.getElem?_eq_some_iff.1 hf).1
  obtain ⟨io, ic, rfl, _⟩ := h.ints.val
  obtain ⟨to_, tc, rfl, _⟩ := h.texts.val
  obtain ⟨fb, fo, fc, rfl, _, hfb, hcell⟩ := h.funs.open_ (by intro e; rw [e] at hn; simp at hn)
  obtain ⟨q, hL, hq⟩ := hcell n f hf
  obtain ⟨qv, rfl, hrow⟩ := hasBd_row hq
  obtain ⟨co, cc, rfl, _⟩ := hrow.val
  obtain ⟨ke, lo, st, code⟩ := f
  have h1 := hz.funs
  have h2 := hz.ints
  have h3 := hz.texts
  obtain ⟨NF, hNF⟩ : ∃ x, Hid (c.funs.length = x) := ⟨_, Lib.hid rfl⟩
  obtain ⟨NI, hNI⟩ : ∃ x, Hid (c.ints.length = x) := ⟨_, Lib.hid rfl⟩
  obtain ⟨NT, hNT⟩ : ∃ x, Hid (c.texts.length = x) := ⟨_, Lib.hid rfl⟩
  obtain ⟨LT, hLT⟩ : ∃ x, Hid (c.lets = x) := ⟨_, Lib.hid rfl⟩
  have HC := Lib.hid h
  rw [hNF.out] at hn h1 ⊢
  rw [hNI.out] at h2 ⊢
  rw [hNT.out] at h3 ⊢
  rw [hLT.out]
  simp only at hrow hL ⊢
  obtain ⟨NC, hNC⟩ : ∃ x, Hid (code.length = x) := ⟨_, Lib.hid rfl⟩
  rw [hNC.out] at hL
  have HX2 := Lib.hid (bnext (balloc w (.cells #[.slice (some ⟨fb, fo, none⟩) NF fc, .slice io NI ic, .slice to_ NT tc, .int .i64 LT] 27)) (balloc _ (.cells #[.int .i64 22, .int .i64 (an : Int), .int .i64 (bn : Int)] 45)))
  have HX := Lib.hid (bnext HX2.out (balloc _ (.cells #[.int .i64 ke, .int .i64 lo, .int .i64 st, .slice co NC cc] 49)))
  have hM := hL.keep HX2.out hfb
  have y0 : ((w.alloc (.cells #[.slice (some ⟨fb, fo, none⟩) NF fc, .slice io NI ic, .slice to_ NT tc, .int .i64 LT] 27)).alloc (.cells #[.int .i64 22, .int .i64 (an : Int), .int .i64 (bn : Int)] 45)).cell? ⟨fb, fo + n * 4, none⟩ = some (.int .i64 ke) := hM 0 _ rfl
  have y1 : ((w.alloc (.cells #[.slice (some ⟨fb, fo, none⟩) NF fc, .slice io NI ic, .slice to_ NT tc, .int .i64 LT] 27)).alloc (.cells #[.int .i64 22, .int .i64 (an : Int), .int .i64 (bn : Int)] 45)).cell? ⟨fb, fo + n * 4 + 1, none⟩ = some (.int .i64 lo) := hM 1 _ rfl
  have y2 : ((w.alloc (.cells #[.slice (some ⟨fb, fo, none⟩) NF fc, .slice io NI ic, .slice to_ NT tc, .int .i64 LT] 27)).alloc (.cells #[.int .i64 22, .int .i64 (an : Int), .int .i64 (bn : Int)] 45)).cell? ⟨fb, fo + n * 4 + 2, none⟩ = some (.int .i64 st) := hM 2 _ rfl
  have y3 : ((w.alloc (.cells #[.slice (some ⟨fb, fo, none⟩) NF fc, .slice io NI ic, .slice to_ NT tc, .int .i64 LT] 27)).alloc (.cells #[.int .i64 22, .int .i64 (an : Int), .int .i64 (bn : Int)] 45)).cell? ⟨fb, fo + n * 4 + 3, none⟩ = some (.slice co NC cc) := hM 3 _ rfl
  have i0 : (0 : Int) ≤ (n : Int) := by omega
  have i1 : (n : Int) < (NF : Int) := by omega
  clear h hcell hL hq hrow hM hf hz
  go_enter Try.func72, Try.ntmps72
  go_wp2_with fail
  exact bodyPost_ret (v := .tuple #[.bool true, .int .i64 0, .int .i64 0]) (by simp [results, Try.results72, go_sem]) rfl (eff_of (by simp [rightB]) (by simp [takesN]) (by simp [putsN]) HX.out)
set_option maxHeartbeats 4000000 in
theorem eff_23 (c : Cd) (fv iv tv : Value) (n : Nat) (f : Bd) (an bn : Nat) (w : World) (S : Nat → Prop) (h : HasC w S c fv iv tv) (hf : c.funs[n]? = some f) (hz : Sz c) :
    Calls Try.prog 72 #[.agg #[fv, iv, tv, .int .i64 c.lets], .int .i64 (n : Int), .agg #[.int .i64 23, .int .i64 (an : Int), .int .i64 (bn : Int)]] w (EffRes c n f ⟨23, an, bn⟩ w) := by
  have hn := (List.getElem?_eq_some_iff.1 hf).1
  obtain ⟨io, ic, rfl, _⟩ := h.ints.val
  obtain ⟨to_, tc, rfl, _⟩ := h.texts.val
  obtain ⟨fb, fo, fc, rfl, _, hfb, hcell⟩ := h.funs.open_ (by intro e; rw [e] at hn; simp at hn)
  obtain ⟨q, hL, hq⟩ := hcell n f hf
  obtain ⟨qv, rfl, hrow⟩ := hasBd_row hq
  obtain ⟨co, cc, rfl, _⟩ := hrow.val
  obtain ⟨ke, lo, st, code⟩ := f
  have h1 := hz.funs
  have h2 := hz.ints
  have h3 := hz.texts
  obtain ⟨NF, hNF⟩ : ∃ x, Hid (c.funs.length = x) := ⟨_, Lib.hid rfl⟩
  obtain ⟨NI, hNI⟩ : ∃ x, Hid (c.ints.length = x) := ⟨_, Lib.hid rfl⟩
  obtain ⟨NT, hNT⟩ : ∃ x, Hid (c.texts.length = x) := ⟨_, Lib.hid rfl⟩
  obtain ⟨LT, hLT⟩ : ∃ x, Hid (c.lets = x) := ⟨_, Lib.hid rfl⟩
  have HC := Lib.hid h
  rw [hNF.out] at hn h1 ⊢
  rw [hNI.out] at h2 ⊢
  rw [hNT.out] at h3 ⊢
  rw [hLT.out]
  simp only at hrow hL ⊢
  obtain ⟨NC, hNC⟩ : ∃ x, Hid (code.length = x) := ⟨_, Lib.hid rfl⟩
  rw [hNC.out] at hL
  have HX2 := Lib.hid (bnext (balloc w (.cells #[.slice (some ⟨fb, fo, none⟩) NF fc, .slice io NI ic, .slice to_ NT tc, .int .i64 LT] 27)) (balloc _ (.cells #[.int .i64 23, .int .i64 (an : Int), .int .i64 (bn : Int)] 45)))
  have HX := Lib.hid (bnext HX2.out (balloc _ (.cells #[.int .i64 ke, .int .i64 lo, .int .i64 st, .slice co NC cc] 49)))
  have hM := hL.keep HX2.out hfb
  have y0 : ((w.alloc (.cells #[.slice (some ⟨fb, fo, none⟩) NF fc, .slice io NI ic, .slice to_ NT tc, .int .i64 LT] 27)).alloc (.cells #[.int .i64 23, .int .i64 (an : Int), .int .i64 (bn : Int)] 45)).cell? ⟨fb, fo + n * 4, none⟩ = some (.int .i64 ke) := hM 0 _ rfl
  have y1 : ((w.alloc (.cells #[.slice (some ⟨fb, fo, none⟩) NF fc, .slice io NI ic, .slice to_ NT tc, .int .i64 LT] 27)).alloc (.cells #[.int .i64 23, .int .i64 (an : Int), .int .i64 (bn : Int)] 45)).cell? ⟨fb, fo + n * 4 + 1, none⟩ = some (.int .i64 lo) := hM 1 _ rfl
  have y2 : ((w.alloc (.cells #[.slice (some ⟨fb, fo, none⟩) NF fc, .slice io NI ic, .slice to_ NT tc, .int .i64 LT] 27)).alloc (.cells #[.int .i64 23, .int .i64 (an : Int), .int .i64 (bn : Int)] 45)).cell? ⟨fb, fo + n * 4 + 2, none⟩ = some (.int .i64 st) := hM 2 _ rfl
  have y3 : ((w.alloc (.cells #[.slice (some ⟨fb, fo, none⟩) NF fc, .slice io NI ic, .slice to_ NT tc, .int .i64 LT] 27)).alloc (.cells #[.int .i64 23, .int .i64 (an : Int), .int .i64 (bn : Int)] 45)).cell? ⟨fb, fo + n * 4 + 3, none⟩ = some (.slice co NC cc) := hM 3 _ rfl
  have i0 : (0 : Int) ≤ (n : Int) := by omega
  have i1 : (n : Int) < (NF : Int) := by omega
  clear h hcell hL hq hrow hM hf hz
  go_enter Try.func72, Try.ntmps72
  go_wp2_with fail
  exact bodyPost_ret (v := .tuple #[.bool true, .int .i64 1, .int .i64 0]) (by simp [results, Try.results72, go_sem]) rfl (eff_of (by simp [rightB]) (by simp [takesN]) (by simp [putsN]) HX.out)
set_option maxHeartbeats 4000000 in
theorem eff_24 (c : Cd) (fv iv tv : Value) (n : Nat) (f : Bd) (an bn : Nat) (w : World) (S : Nat → Prop) (h : HasC w S c fv iv tv) (hf : c.funs[n]? = some f) (hz : Sz c) :
    Calls Try.prog 72 #[.agg #[fv, iv, tv, .int .i64 c.lets], .int .i64 (n : Int), .agg #[.int .i64 24, .int .i64 (an : Int), .int .i64 (bn : Int)]] w (EffRes c n f ⟨24, an, bn⟩ w) := by
  have hn := (List.getElem?_eq_some_iff.1 hf).1
  obtain ⟨io, ic, rfl, _⟩ := h.ints.val
  obtain ⟨to_, tc, rfl, _⟩ := h.texts.val
  obtain ⟨fb, fo, fc, rfl, _, hfb, hcell⟩ := h.funs.open_ (by intro e; rw [e] at hn; simp at hn)
  obtain ⟨q, hL, hq⟩ := hcell n f hf
  obtain ⟨qv, rfl, hrow⟩ := hasBd_row hq
  obtain ⟨co, cc, rfl, _⟩ := hrow.val
  obtain ⟨ke, lo, st, code⟩ := f
  have h1 := hz.funs
  have h2 := hz.ints
  have h3 := hz.texts
  obtain ⟨NF, hNF⟩ : ∃ x, Hid (c.funs.length = x) := ⟨_, Lib.hid rfl⟩
  obtain ⟨NI, hNI⟩ : ∃ x, Hid (c.ints.length = x) := ⟨_, Lib.hid rfl⟩
  obtain ⟨NT, hNT⟩ : ∃ x, Hid (c.texts.length = x) := ⟨_, Lib.hid rfl⟩
  obtain ⟨LT, hLT⟩ : ∃ x, Hid (c.lets = x) := ⟨_, Lib.hid rfl⟩
  have HC := Lib.hid h
  rw [hNF.out] at hn h1 ⊢
  rw [hNI.out] at h2 ⊢
  rw [hNT.out] at h3 ⊢
  rw [hLT.out]
  simp only at hrow hL ⊢
  obtain ⟨NC, hNC⟩ : ∃ x, Hid (code.length = x) := ⟨_, Lib.hid rfl⟩
  rw [hNC.out] at hL
  have HX2 := Lib.hid (bnext (balloc w (.cells #[.slice (some ⟨fb, fo, none⟩) NF fc, .slice io NI ic, .slice to_ NT tc, .int .i64 LT] 27)) (balloc _ (.cells #[.int .i64 24, .int .i64 (an : Int), .int .i64 (bn : Int)] 45)))
  have HX := Lib.hid (bnext HX2.out (balloc _ (.cells #[.int .i64 ke, .int .i64 lo, .int .i64 st, .slice co NC cc] 49)))
  have hM := hL.keep HX2.out hfb
  have y0 : ((w.alloc (.cells #[.slice (some ⟨fb, fo, none⟩) NF fc, .slice io NI ic, .slice to_ NT tc, .int .i64 LT] 27)).alloc (.cells #[.int .i64 24, .int .i64 (an : Int), .int .i64 (bn : Int)] 45)).cell? ⟨fb, fo + n * 4, none⟩ = some (.int .i64 ke) := hM 0 _ rfl
  have y1 : ((w.alloc (.cells #[.slice (some ⟨fb, fo, none⟩) NF fc, .slice io NI ic, .slice to_ NT tc, .int .i64 LT] 27)).alloc (.cells #[.int .i64 24, .int .i64 (an : Int), .int .i64 (bn : Int)] 45)).cell? ⟨fb, fo + n * 4 + 1, none⟩ = some (.int .i64 lo) := hM 1 _ rfl
  have y2 : ((w.alloc (.cells #[.slice (some ⟨fb, fo, none⟩) NF fc, .slice io NI ic, .slice to_ NT tc, .int .i64 LT] 27)).alloc (.cells #[.int .i64 24, .int .i64 (an : Int), .int .i64 (bn : Int)] 45)).cell? ⟨fb, fo + n * 4 + 2, none⟩ = some (.int .i64 st) := hM 2 _ rfl
  have y3 : ((w.alloc (.cells #[.slice (some ⟨fb, fo, none⟩) NF fc, .slice io NI ic, .slice to_ NT tc, .int .i64 LT] 27)).alloc (.cells #[.int .i64 24, .int .i64 (an : Int), .int .i64 (bn : Int)] 45)).cell? ⟨fb, fo + n * 4 + 3, none⟩ = some (.slice co NC cc) := hM 3 _ rfl
  have i0 : (0 : Int) ≤ (n : Int) := by omega
  have i1 : (n : Int) < (NF : Int) := by omega
  clear h hcell hL hq hrow hM hf hz
  go_enter Try.func72, Try.ntmps72
  go_wp2_with fail
  exact bodyPost_ret (v := .tuple #[.bool true, .int .i64 1, .int .i64 1]) (by simp [results, Try.results72, go_sem]) rfl (eff_of (by simp [rightB]) (by simp [takesN]) (by simp [putsN]) HX.out)
set_option maxHeartbeats 4000000 in
theorem eff_25 (c : Cd) (fv iv tv : Value) (n : Nat) (f : Bd) (an bn : Nat) (w : World) (S : Nat → Prop) (h : HasC w S c fv iv tv) (hf : c.funs[n]? = some f) (hz : Sz c) :
    Calls Try.prog 72 #[.agg #[fv, iv, tv, .int .i64 c.lets], .int .i64 (n : Int), .agg #[.int .i64 25, .int .i64 (an : Int), .int .i64 (bn : Int)]] w (EffRes c n f ⟨25, an, bn⟩ w) := by
  have hn := (List.getElem?_eq_some_iff.1 hf).1
  obtain ⟨io, ic, rfl, _⟩ := h.ints.val
  obtain ⟨to_, tc, rfl, _⟩ := h.texts.val
  obtain ⟨fb, fo, fc, rfl, _, hfb, hcell⟩ := h.funs.open_ (by intro e; rw [e] at hn; simp at hn)
  obtain ⟨q, hL, hq⟩ := hcell n f hf
  obtain ⟨qv, rfl, hrow⟩ := hasBd_row hq
  obtain ⟨co, cc, rfl, _⟩ := hrow.val
  obtain ⟨ke, lo, st, code⟩ := f
  have h1 := hz.funs
  have h2 := hz.ints
  have h3 := hz.texts
  obtain ⟨NF, hNF⟩ : ∃ x, Hid (c.funs.length = x) := ⟨_, Lib.hid rfl⟩
  obtain ⟨NI, hNI⟩ : ∃ x, Hid (c.ints.length = x) := ⟨_, Lib.hid rfl⟩
  obtain ⟨NT, hNT⟩ : ∃ x, Hid (c.texts.length = x) := ⟨_, Lib.hid rfl⟩
  obtain ⟨LT, hLT⟩ : ∃ x, Hid (c.lets = x) := ⟨_, Lib.hid rfl⟩
  have HC := Lib.hid h
  rw [hNF.out] at hn h1 ⊢
  rw [hNI.out] at h2 ⊢
  rw [hNT.out] at h3 ⊢
  rw [hLT.out]
  simp only at hrow hL ⊢
  obtain ⟨NC, hNC⟩ : ∃ x, Hid (code.length = x) := ⟨_, Lib.hid rfl⟩
  rw [hNC.out] at hL
  have HX2 := Lib.hid (bnext (balloc w (.cells #[.slice (some ⟨fb, fo, none⟩) NF fc, .slice io NI ic, .slice to_ NT tc, .int .i64 LT] 27)) (balloc _ (.cells #[.int .i64 25, .int .i64 (an : Int), .int .i64 (bn : Int)] 45)))
  have HX := Lib.hid (bnext HX2.out (balloc _ (.cells #[.int .i64 ke, .int .i64 lo, .int .i64 st, .slice co NC cc] 49)))
  have hM := hL.keep HX2.out hfb
  have y0 : ((w.alloc (.cells #[.slice (some ⟨fb, fo, none⟩) NF fc, .slice io NI ic, .slice to_ NT tc, .int .i64 LT] 27)).alloc (.cells #[.int .i64 25, .int .i64 (an : Int), .int .i64 (bn : Int)] 45)).cell? ⟨fb, fo + n * 4, none⟩ = some (.int .i64 ke) := hM 0 _ rfl
  have y1 : ((w.alloc (.cells #[.slice (some ⟨fb, fo, none⟩) NF fc, .slice io NI ic, .slice to_ NT tc, .int .i64 LT] 27)).alloc (.cells #[.int .i64 25, .int .i64 (an : Int), .int .i64 (bn : Int)] 45)).cell? ⟨fb, fo + n * 4 + 1, none⟩ = some (.int .i64 lo) := hM 1 _ rfl
  have y2 : ((w.alloc (.cells #[.slice (some ⟨fb, fo, none⟩) NF fc, .slice io NI ic, .slice to_ NT tc, .int .i64 LT] 27)).alloc (.cells #[.int .i64 25, .int .i64 (an : Int), .int .i64 (bn : Int)] 45)).cell? ⟨fb, fo + n * 4 + 2, none⟩ = some (.int .i64 st) := hM 2 _ rfl
  have y3 : ((w.alloc (.cells #[.slice (some ⟨fb, fo, none⟩) NF fc, .slice io NI ic, .slice to_ NT tc, .int .i64 LT] 27)).alloc (.cells #[.int .i64 25, .int .i64 (an : Int), .int .i64 (bn : Int)] 45)).cell? ⟨fb, fo + n * 4 + 3, none⟩ = some (.slice co NC cc) := hM 3 _ rfl
  have i0 : (0 : Int) ≤ (n : Int) := by omega
  have i1 : (n : Int) < (NF : Int) := by omega
  clear h hcell hL hq hrow hM hf hz
  go_enter Try.func72, Try.ntmps72
  go_wp2_with fail
  exact bodyPost_ret (v := .tuple #[.bool true, .int .i64 1, .int .i64 1]) (by simp [results, Try.results72, go_sem]) rfl (eff_of (by simp [rightB]) (by simp [takesN]) (by simp [putsN]) HX.out)
set_option maxHeartbeats 4000000 in
theorem eff_26 (c : Cd) (fv iv tv : Value) (n : Nat) (f : Bd) (an bn : Nat) (w : World) (S : Nat → Prop) (h : HasC w S c fv iv tv) (hf : c.funs[n]? = some f) (hz : Sz c) :
    Calls Try.prog 72 #[.agg #[fv, iv, tv, .int .i64 c.lets], .int .i64 (n : Int), .agg #[.int .i64 26, .int .i64 (an : Int), .int .i64 (bn : Int)]] w (EffRes c n f ⟨26, an, bn⟩ w) := by
  have hn := (List.getElem?_eq_some_iff.1 hf).1
  obtain ⟨io, ic, rfl, _⟩ := h.ints.val
  obtain ⟨to_, tc, rfl, _⟩ := h.texts.val
  obtain ⟨fb, fo, fc, rfl, _, hfb, hcell⟩ := h.funs.open_ (by intro e; rw [e] at hn; simp at hn)
  obtain ⟨q, hL, hq⟩ := hcell n f hf
  obtain ⟨qv, rfl, hrow⟩ := hasBd_row hq
  obtain ⟨co, cc, rfl, _⟩ := hrow.val
  obtain ⟨ke, lo, st, code⟩ := f
  have h1 := hz.funs
  have h2 := hz.ints
  have h3 := hz.texts
  obtain ⟨NF, hNF⟩ : ∃ x, Hid (c.funs.length = x) := ⟨_, Lib.hid rfl⟩
  obtain ⟨NI, hNI⟩ : ∃ x, Hid (c.ints.length = x) := ⟨_, Lib.hid rfl⟩
  obtain ⟨NT, hNT⟩ : ∃ x, Hid (c.texts.length = x) := ⟨_, Lib.hid rfl⟩
  obtain ⟨LT, hLT⟩ : ∃ x, Hid (c.lets = x) := ⟨_, Lib.hid rfl⟩
  have HC := Lib.hid h
  rw [hNF.out] at hn h1 ⊢
  rw [hNI.out] at h2 ⊢
  rw [hNT.out] at h3 ⊢
  rw [hLT.out]
  simp only at hrow hL ⊢
  obtain ⟨NC, hNC⟩ : ∃ x, Hid (code.length = x) := ⟨_, Lib.hid rfl⟩
  rw [hNC.out] at hL
  have HX2 := Lib.hid (bnext (balloc w (.cells #[.slice (some ⟨fb, fo, none⟩) NF fc, .slice io NI ic, .slice to_ NT tc, .int .i64 LT] 27)) (balloc _ (.cells #[.int .i64 26, .int .i64 (an : Int), .int .i64 (bn : Int)] 45)))
  have HX := Lib.hid (bnext HX2.out (balloc _ (.cells #[.int .i64 ke, .int .i64 lo, .int .i64 st, .slice co NC cc] 49)))
  have hM := hL.keep HX2.out hfb
  have y0 : ((w.alloc (.cells #[.slice (some ⟨fb, fo, none⟩) NF fc, .slice io NI ic, .slice to_ NT tc, .int .i64 LT] 27)).alloc (.cells #[.int .i64 26, .int .i64 (an : Int), .int .i64 (bn : Int)] 45)).cell? ⟨fb, fo + n * 4, none⟩ = some (.int .i64 ke) := hM 0 _ rfl
  have y1 : ((w.alloc (.cells #[.slice (some ⟨fb, fo, none⟩) NF fc, .slice io NI ic, .slice to_ NT tc, .int .i64 LT] 27)).alloc (.cells #[.int .i64 26, .int .i64 (an : Int), .int .i64 (bn : Int)] 45)).cell? ⟨fb, fo + n * 4 + 1, none⟩ = some (.int .i64 lo) := hM 1 _ rfl
  have y2 : ((w.alloc (.cells #[.slice (some ⟨fb, fo, none⟩) NF fc, .slice io NI ic, .slice to_ NT tc, .int .i64 LT] 27)).alloc (.cells #[.int .i64 26, .int .i64 (an : Int), .int .i64 (bn : Int)] 45)).cell? ⟨fb, fo + n * 4 + 2, none⟩ = some (.int .i64 st) := hM 2 _ rfl
  have y3 : ((w.alloc (.cells #[.slice (some ⟨fb, fo, none⟩) NF fc, .slice io NI ic, .slice to_ NT tc, .int .i64 LT] 27)).alloc (.cells #[.int .i64 26, .int .i64 (an : Int), .int .i64 (bn : Int)] 45)).cell? ⟨fb, fo + n * 4 + 3, none⟩ = some (.slice co NC cc) := hM 3 _ rfl
  have i0 : (0 : Int) ≤ (n : Int) := by omega
  have i1 : (n : Int) < (NF : Int) := by omega
  clear h hcell hL hq hrow hM hf hz
  go_enter Try.func72, Try.ntmps72
  go_wp2_with fail
  exact bodyPost_ret (v := .tuple #[.bool true, .int .i64 0, .int .i64 0]) (by simp [results, Try.results72, go_sem]) rfl (eff_of (by simp [rightB]) (by simp [takesN]) (by simp [putsN]) HX.out)
set_option maxHeartbeats 4000000 in
theorem eff_27 (c : Cd) (fv iv tv : Value) (n : Nat) (f : Bd) (an bn : Nat) (w : World) (S : Nat → Prop) (h : HasC w S c fv iv tv) (hf : c.funs[n]? = some f) (hz : Sz c) :
    Calls Try.prog 72 #[.agg #[fv, iv, tv, .int .i64 c.lets], .int .i64 (n : Int), .agg #[.int .i64 27, .int .i64 (an : Int), .int .i64 (bn : Int)]] w (EffRes c n f ⟨27, an, bn⟩ w) := by
  have hn := (List.getElem?_eq_some_iff.1 hf).1
  obtain ⟨io, ic, rfl, _⟩ := h.ints.val
  obtain ⟨to_, tc, rfl, _⟩ := h.texts.val
  obtain ⟨fb, fo, fc, rfl, _, hfb, hcell⟩ := h.funs.open_ (by intro e; rw [e] at hn; simp at hn)
  obtain ⟨q, hL, hq⟩ := hcell n f hf
  obtain ⟨qv, rfl, hrow⟩ := hasBd_row hq
  obtain ⟨co, cc, rfl, _⟩ := hrow.val
  obtain ⟨ke, lo, st, code⟩ := f
  have h1 := hz.funs
  have h2 := hz.ints
  have h3 := hz.texts
  obtain ⟨NF, hNF⟩ : ∃ x, Hid (c.funs.length = x) := ⟨_, Lib.hid rfl⟩
  obtain ⟨NI, hNI⟩ : ∃ x, Hid (c.ints.length = x) := ⟨_, Lib.hid rfl⟩
  obtain ⟨NT, hNT⟩ : ∃ x, Hid (c.texts.length = x) := ⟨_, Lib.hid rfl⟩
  obtain ⟨LT, hLT⟩ : ∃ x, Hid (c.lets = x) := ⟨_, Lib.hid rfl⟩
  have HC := Lib.hid h
  rw [hNF.out] at hn h1 ⊢
  rw [hNI.out] at h2 ⊢
  rw [hNT.out] at h3 ⊢
  rw [hLT.out]
  simp only at hrow hL ⊢
  obtain ⟨NC, hNC⟩ : ∃ x, Hid (code.length = x) := ⟨_, Lib.hid rfl⟩
  rw [hNC.out] at hL
  have HX2 := Lib.hid (bnext (balloc w (.cells #[.slice (some ⟨fb, fo, none⟩) NF fc, .slice io NI ic, .slice to_ NT tc, .int .i64 LT] 27)) (balloc _ (.cells #[.int .i64 27, .int .i64 (an : Int), .int .i64 (bn : Int)] 45)))
  have HX := Lib.hid (bnext HX2.out (balloc _ (.cells #[.int .i64 ke, .int .i64 lo, .int .i64 st, .slice co NC cc] 49)))
  have hM := hL.keep HX2.out hfb
  have y0 : ((w.alloc (.cells #[.slice (some ⟨fb, fo, none⟩) NF fc, .slice io NI ic, .slice to_ NT tc, .int .i64 LT] 27)).alloc (.cells #[.int .i64 27, .int .i64 (an : Int), .int .i64 (bn : Int)] 45)).cell? ⟨fb, fo + n * 4, none⟩ = some (.int .i64 ke) := hM 0 _ rfl
  have y1 : ((w.alloc (.cells #[.slice (some ⟨fb, fo, none⟩) NF fc, .slice io NI ic, .slice to_ NT tc, .int .i64 LT] 27)).alloc (.cells #[.int .i64 27, .int .i64 (an : Int), .int .i64 (bn : Int)] 45)).cell? ⟨fb, fo + n * 4 + 1, none⟩ = some (.int .i64 lo) := hM 1 _ rfl
  have y2 : ((w.alloc (.cells #[.slice (some ⟨fb, fo, none⟩) NF fc, .slice io NI ic, .slice to_ NT tc, .int .i64 LT] 27)).alloc (.cells #[.int .i64 27, .int .i64 (an : Int), .int .i64 (bn : Int)] 45)).cell? ⟨fb, fo + n * 4 + 2, none⟩ = some (.int .i64 st) := hM 2 _ rfl
  have y3 : ((w.alloc (.cells #[.slice (some ⟨fb, fo, none⟩) NF fc, .slice io NI ic, .slice to_ NT tc, .int .i64 LT] 27)).alloc (.cells #[.int .i64 27, .int .i64 (an : Int), .int .i64 (bn : Int)] 45)).cell? ⟨fb, fo + n * 4 + 3, none⟩ = some (.slice co NC cc) := hM 3 _ rfl
  have i0 : (0 : Int) ≤ (n : Int) := by omega
  have i1 : (n : Int) < (NF : Int) := by omega
  clear h hcell hL hq hrow hM hf hz
  go_enter Try.func72, Try.ntmps72
  go_wp2_with fail
  exact bodyPost_ret (v := .tuple #[.bool true, .int .i64 0, .int .i64 0]) (by simp [results, Try.results72, go_sem]) rfl (eff_of (by simp [rightB]) (by simp [takesN]) (by simp [putsN]) HX.out)
set_option maxHeartbeats 4000000 in
theorem eff_28 (c : Cd) (fv iv tv : Value) (n : Nat) (f : Bd) (an bn : Nat) (w : World) (S : Nat → Prop) (h : HasC w S c fv iv tv) (hf : c.funs[n]? = some f) (hz : Sz c) :
    Calls Try.prog 72 #[.agg #[fv, iv, tv, .int .i64 c.lets], .int .i64 (n : Int), .agg #[.int .i64 28, .int .i64 (an : Int), .int .i64 (bn : Int)]] w (EffRes c n f ⟨28, an, bn⟩ w) := by
  have hn := (List.getElem?_eq_some_iff.1 hf).1
  obtain ⟨io, ic, rfl, _⟩ := h.ints.val
  obtain ⟨to_, tc, rfl, _⟩ := h.texts.val
  obtain ⟨fb, fo, fc, rfl, _, hfb, hcell⟩ := h.funs.open_ (by intro e; rw [e] at hn; simp at hn)
  obtain ⟨q, hL, hq⟩ := hcell n f hf
  obtain ⟨qv, rfl, hrow⟩ := hasBd_row hq
  obtain ⟨co, cc, rfl, _⟩ := hrow.val
  obtain ⟨ke, lo, st, code⟩ := f
  have h1 := hz.funs
  have h2 := hz.ints
  have h3 := hz.texts
  obtain ⟨NF, hNF⟩ : ∃ x, Hid (c.funs.length = x) := ⟨_, Lib.hid rfl⟩
  obtain ⟨NI, hNI⟩ : ∃ x, Hid (c.ints.length = x) := ⟨_, Lib.hid rfl⟩
  obtain ⟨NT, hNT⟩ : ∃ x, Hid (c.texts.length = x) := ⟨_, Lib.hid rfl⟩
  obtain ⟨LT, hLT⟩ : ∃ x, Hid (c.lets = x) := ⟨_, Lib.hid rfl⟩
  have HC := Lib.hid h
  rw [hNF.out] at hn h1 ⊢
  rw [hNI.out] at h2 ⊢
  rw [hNT.out] at h3 ⊢
  rw [hLT.out]
  simp only at hrow hL ⊢
  obtain ⟨NC, hNC⟩ : ∃ x, Hid (code.length = x) := ⟨_, Lib.hid rfl⟩
  rw [hNC.out] at hL
  have HX2 := Lib.hid (bnext (balloc w (.cells #[.slice (some ⟨fb, fo, none⟩) NF fc, .slice io NI ic, .slice to_ NT tc, .int .i64 LT] 27)) (balloc _ (.cells #[.int .i64 28, .int .i64 (an : Int), .int .i64 (bn : Int)] 45)))
  have HX := Lib.hid (bnext HX2.out (balloc _ (.cells #[.int .i64 ke, .int .i64 lo, .int .i64 st, .slice co NC cc] 49)))
  have hM := hL.keep HX2.out hfb
  have y0 : ((w.alloc (.cells #[.slice (some ⟨fb, fo, none⟩) NF fc, .slice io NI ic, .slice to_ NT tc, .int .i64 LT] 27)).alloc (.cells #[.int .i64 28, .int .i64 (an : Int), .int .i64 (bn : Int)] 45)).cell? ⟨fb, fo + n * 4, none⟩ = some (.int .i64 ke) := hM 0 _ rfl
  have y1 : ((w.alloc (.cells #[.slice (some ⟨fb, fo, none⟩) NF fc, .slice io NI ic, .slice to_ NT tc, .int .i64 LT] 27)).alloc (.cells #[.int .i64 28, .int .i64 (an : Int), .int .i64 (bn : Int)] 45)).cell? ⟨fb, fo + n * 4 + 1, none⟩ = some (.int .i64 lo) := hM 1 _ rfl
  have y2 : ((w.alloc (.cells #[.slice (some ⟨fb, fo, none⟩) NF fc, .slice io NI ic, .slice to_ NT tc, .int .i64 LT] 27)).alloc (.cells #[.int .i64 28, .int .i64 (an : Int), .int .i64 (bn : Int)] 45)).cell? ⟨fb, fo + n * 4 + 2, none⟩ = some (.int .i64 st) := hM 2 _ rfl
  have y3 : ((w.alloc (.cells #[.slice (some ⟨fb, fo, none⟩) NF fc, .slice io NI ic, .slice to_ NT tc, .int .i64 LT] 27)).alloc (.cells #[.int .i64 28, .int .i64 (an : Int), .int .i64 (bn : Int)] 45)).cell? ⟨fb, fo + n * 4 + 3, none⟩ = some (.slice co NC cc) := hM 3 _ rfl
  have i0 : (0 : Int) ≤ (n : Int) := by omega
  have i1 : (n : Int) < (NF : Int) := by omega
  clear h hcell hL hq hrow hM hf hz
  go_enter Try.func72, Try.ntmps72
  go_wp2_with fail
  exact bodyPost_ret (v := .tuple #[.bool true, .int .i64 0, .int .i64 0]) (by simp [results, Try.results72, go_sem]) rfl (eff_of (by simp [rightB]) (by simp [takesN]) (by simp [putsN]) HX.out)
set_option maxHeartbeats 4000000 in
theorem eff_29 (c : Cd) (fv iv tv : Value) (n : Nat) (f : Bd) (an bn : Nat) (w : World) (S : Nat → Prop) (h : HasC w S c fv iv tv) (hf : c.funs[n]? = some f) (hz : Sz c) :
    Calls Try.prog 72 #[.agg #[fv, iv, tv, .int .i64 c.lets], .int .i64 (n : Int), .agg #[.int .i64 29, .int .i64 (an : Int), .int .i64 (bn : Int)]] w (EffRes c n f ⟨29, an, bn⟩ w) := by
  have hn := (List.getElem?_eq_some_iff.1 hf).1
  obtain ⟨io, ic, rfl, _⟩ := h.ints.val
  obtain ⟨to_, tc, rfl, _⟩ := h.texts.val
  obtain ⟨fb, fo, fc, rfl, _, hfb, hcell⟩ := h.funs.open_ (by intro e; rw [e] at hn; simp at hn)
  obtain ⟨q, hL, hq⟩ := hcell n f hf
  obtain ⟨qv, rfl, hrow⟩ := hasBd_row hq
  obtain ⟨co, cc, rfl, _⟩ := hrow.val
  obtain ⟨ke, lo, st, code⟩ := f
  have h1 := hz.funs
  have h2 := hz.ints
  have h3 := hz.texts
  obtain ⟨NF, hNF⟩ : ∃ x, Hid (c.funs.length = x) := ⟨_, Lib.hid rfl⟩
  obtain ⟨NI, hNI⟩ : ∃ x, Hid (c.ints.length = x) := ⟨_, Lib.hid rfl⟩
  obtain ⟨NT, hNT⟩ : ∃ x, Hid (c.texts.length = x) := ⟨_, Lib.hid rfl⟩
  obtain ⟨LT, hLT⟩ : ∃ x, Hid (c.lets = x) := ⟨_, Lib.hid rfl⟩
  have HC := Lib.hid h
  rw [hNF.out] at hn h1 ⊢
  rw [hNI.out] at h2 ⊢
  rw [hNT.out] at h3 ⊢
  rw [hLT.out]
  simp only at hrow hL ⊢
  obtain ⟨NC, hNC⟩ : ∃ x, Hid (code.length = x) := ⟨_, Lib.hid rfl⟩
  rw [hNC.out] at hL
  have HX2 := Lib.hid (bnext (balloc w (.cells #[.slice (some ⟨fb, fo, none⟩) NF fc, .slice io NI ic, .slice to_ NT tc, .int .i64 LT] 27)) (balloc _ (.cells #[.int .i64 29, .int .i64 (an : Int), .int .i64 (bn : Int)] 45)))
  have HX := Lib.hid (bnext HX2.out (balloc _ (.cells #[.int .i64 ke, .int .i64 lo, .int .i64 st, .slice co NC cc] 49)))
  have hM := hL.keep HX2.out hfb
  have y0 : ((w.alloc (.cells #[.slice (some ⟨fb, fo, none⟩) NF fc, .slice io NI ic, .slice to_ NT tc, .int .i64 LT] 27)).alloc (.cells #[.int .i64 29, .int .i64 (an : Int), .int .i64 (bn : Int)] 45)).cell? ⟨fb, fo + n * 4, none⟩ = some (.int .i64 ke) := hM 0 _ rfl
  have y1 : ((w.alloc (.cells #[.slice (some ⟨fb, fo, none⟩) NF fc, .slice io NI ic, .slice to_ NT tc, .int .i64 LT] 27)).alloc (.cells #[.int .i64 29, .int .i64 (an : Int), .int .i64 (bn : Int)] 45)).cell? ⟨fb, fo + n * 4 + 1, none⟩ = some (.int .i64 lo) := hM 1 _ rfl
  have y2 : ((w.alloc (.cells #[.slice (some ⟨fb, fo, none⟩) NF fc, .slice io NI ic, .slice to_ NT tc, .int .i64 LT] 27)).alloc (.cells #[.int .i64 29, .int .i64 (an : Int), .int .i64 (bn : Int)] 45)).cell? ⟨fb, fo + n * 4 + 2, none⟩ = some (.int .i64 st) := hM 2 _ rfl
  have y3 : ((w.alloc (.cells #[.slice (some ⟨fb, fo, none⟩) NF fc, .slice io NI ic, .slice to_ NT tc, .int .i64 LT] 27)).alloc (.cells #[.int .i64 29, .int .i64 (an : Int), .int .i64 (bn : Int)] 45)).cell? ⟨fb, fo + n * 4 + 3, none⟩ = some (.slice co NC cc) := hM 3 _ rfl
  have i0 : (0 : Int) ≤ (n : Int) := by omega
  have i1 : (n : Int) < (NF : Int) := by omega
  clear h hcell hL hq hrow hM hf hz
  go_enter Try.func72, Try.ntmps72
  go_wp2_with fail
  exact bodyPost_ret (v := .tuple #[.bool true, .int .i64 0, .int .i64 0]) (by simp [results, Try.results72, go_sem]) rfl (eff_of (by simp [rightB]) (by simp [takesN]) (by simp [putsN]) HX.out)
set_option maxHeartbeats 4000000 in
theorem eff_30 (c : Cd) (fv iv tv : Value) (n : Nat) (f : Bd) (an bn : Nat) (w : World) (S : Nat → Prop) (h : HasC w S c fv iv tv) (hf : c.funs[n]? = some f) (hz : Sz c) :
    Calls Try.prog 72 #[.agg #[fv, iv, tv, .int .i64 c.lets], .int .i64 (n : Int), .agg #[.int .i64 30, .int .i64 (an : Int), .int .i64 (bn : Int)]] w (EffRes c n f ⟨30, an, bn⟩ w) := by
  have hn := (List.getElem?_eq_some_iff.1 hf).1
  obtain ⟨io, ic, rfl, _⟩ := h.ints.val
  obtain ⟨to_, tc, rfl, _⟩ := h.texts.val
  obtain ⟨fb, fo, fc, rfl, _, hfb, hcell⟩ := h.funs.open_ (by intro e; rw [e] at hn; simp at hn)
  obtain ⟨q, hL, hq⟩ := hcell n f hf
  obtain ⟨qv, rfl, hrow⟩ := hasBd_row hq
  obtain ⟨co, cc, rfl, _⟩ := hrow.val
  obtain ⟨ke, lo, st, code⟩ := f
  have h1 := hz.funs
  have h2 := hz.ints
  have h3 := hz.texts
  obtain ⟨NF, hNF⟩ : ∃ x, Hid (c.funs.length = x) := ⟨_, Lib.hid rfl⟩
  obtain ⟨NI, hNI⟩ : ∃ x, Hid (c.ints.length = x) := ⟨_, Lib.hid rfl⟩
  obtain ⟨NT, hNT⟩ : ∃ x, Hid (c.texts.length = x) := ⟨_, Lib.hid rfl⟩
  obtain ⟨LT, hLT⟩ : ∃ x, Hid (c.lets = x) := ⟨_, Lib.hid rfl⟩
  have HC := Lib.hid h
  rw [hNF.out] at hn h1 ⊢
  rw [hNI.out] at h2 ⊢
  rw [hNT.out] at h3 ⊢
  rw [hLT.out]
  simp only at hrow hL ⊢
  obtain ⟨NC, hNC⟩ : ∃ x, Hid (code.length = x) := ⟨_, Lib.hid rfl⟩
  rw [hNC.out] at hL
  have HX2 := Lib.hid (bnext (balloc w (.cells #[.slice (some ⟨fb, fo, none⟩) NF fc, .slice io NI ic, .slice to_ NT tc, .int .i64 LT] 27)) (balloc _ (.cells #[.int .i64 30, .int .i64 (an : Int), .int .i64 (bn : Int)] 45)))
  have HX := Lib.hid (bnext HX2.out (balloc _ (.cells #[.int .i64 ke, .int .i64 lo, .int .i64 st, .slice co NC cc] 49)))
  have hM := hL.keep HX2.out hfb
  have y0 : ((w.alloc (.cells #[.slice (some ⟨fb, fo, none⟩) NF fc, .slice io NI ic, .slice to_ NT tc, .int .i64 LT] 27)).alloc (.cells #[.int .i64 30, .int .i64 (an : Int), .int .i64 (bn : Int)] 45)).cell? ⟨fb, fo + n * 4, none⟩ = some (.int .i64 ke) := hM 0 _ rfl
  have y1 : ((w.alloc (.cells #[.slice (some ⟨fb, fo, none⟩) NF fc, .slice io NI ic, .slice to_ NT tc, .int .i64 LT] 27)).alloc (.cells #[.int .i64 30, .int .i64 (an : Int), .int .i64 (bn : Int)] 45)).cell? ⟨fb, fo + n * 4 + 1, none⟩ = some (.int .i64 lo) := hM 1 _ rfl
  have y2 : ((w.alloc (.cells #[.slice (some ⟨fb, fo, none⟩) NF fc, .slice io NI ic, .slice to_ NT tc, .int .i64 LT] 27)).alloc (.cells #[.int .i64 30, .int .i64 (an : Int), .int .i64 (bn : Int)] 45)).cell? ⟨fb, fo + n * 4 + 2, none⟩ = some (.int .i64 st) := hM 2 _ rfl
  have y3 : ((w.alloc (.cells #[.slice (some ⟨fb, fo, none⟩) NF fc, .slice io NI ic, .slice to_ NT tc, .int .i64 LT] 27)).alloc (.cells #[.int .i64 30, .int .i64 (an : Int), .int .i64 (bn : Int)] 45)).cell? ⟨fb, fo + n * 4 + 3, none⟩ = some (.slice co NC cc) := hM 3 _ rfl
  have i0 : (0 : Int) ≤ (n : Int) := by omega
  have i1 : (n : Int) < (NF : Int) := by omega
  clear h hcell hL hq hrow hM hf hz
  go_enter Try.func72, Try.ntmps72
  go_wp2_with fail
  exact bodyPost_ret (v := .tuple #[.bool true, .int .i64 0, .int .i64 0]) (by simp [results, Try.results72, go_sem]) rfl (eff_of (by simp [rightB]) (by simp [takesN]) (by simp [putsN]) HX.out)
set_option maxHeartbeats 4000000 in
theorem eff_31 (c : Cd) (fv iv tv : Value) (n : Nat) (f : Bd) (an bn : Nat) (w : World) (S : Nat → Prop) (h : HasC w S c fv iv tv) (hf : c.funs[n]? = some f) (hz : Sz c) :
    Calls Try.prog 72 #[.agg #[fv, iv, tv, .int .i64 c.lets], .int .i64 (n : Int), .agg #[.int .i64 31, .int .i64 (an : Int), .int .i64 (bn : Int)]] w (EffRes c n f ⟨31, an, bn⟩ w) := by
  have hn := (List.getElem?_eq_some_iff.1 hf).1
  obtain ⟨io, ic, rfl, _⟩ := h.ints.val
  obtain ⟨to_, tc, rfl, _⟩ := h.texts.val
  obtain ⟨fb, fo, fc, rfl, _, hfb, hcell⟩ := h.funs.open_ (by intro e; rw [e] at hn; simp at hn)
  obtain ⟨q, hL, hq⟩ := hcell n f hf
  obtain ⟨qv, rfl, hrow⟩ := hasBd_row hq
  obtain ⟨co, cc, rfl, _⟩ := hrow.val
  obtain ⟨ke, lo, st, code⟩ := f
  have h1 := hz.funs
  have h2 := hz.ints
  have h3 := hz.texts
  obtain ⟨NF, hNF⟩ : ∃ x, Hid (c.funs.length = x) := ⟨_, Lib.hid rfl⟩
  obtain ⟨NI, hNI⟩ : ∃ x, Hid (c.ints.length = x) := ⟨_, Lib.hid rfl⟩
  obtain ⟨NT, hNT⟩ : ∃ x, Hid (c.texts.length = x) := ⟨_, Lib.hid rfl⟩
  obtain ⟨LT, hLT⟩ : ∃ x, Hid (c.lets = x) := ⟨_, Lib.hid rfl⟩
  have HC := Lib.hid h
  rw [hNF.out] at hn h1 ⊢
  rw [hNI.out] at h2 ⊢
  rw [hNT.out] at h3 ⊢
  rw [hLT.out]
  simp only at hrow hL ⊢
  obtain ⟨NC, hNC⟩ : ∃ x, Hid (code.length = x) := ⟨_, Lib.hid rfl⟩
  rw [hNC.out] at hL
  have HX2 := Lib.hid (bnext (balloc w (.cells #[.slice (some ⟨fb, fo, none⟩) NF fc, .slice io NI ic, .slice to_ NT tc, .int .i64 LT] 27)) (balloc _ (.cells #[.int .i64 31, .int .i64 (an : Int), .int .i64 (bn : Int)] 45)))
  have HX := Lib.hid (bnext HX2.out (balloc _ (.cells #[.int .i64 ke, .int .i64 lo, .int .i64 st, .slice co NC cc] 49)))
  have hM := hL.keep HX2.out hfb
  have y0 : ((w.alloc (.cells #[.slice (some ⟨fb, fo, none⟩) NF fc, .slice io NI ic, .slice to_ NT tc, .int .i64 LT] 27)).alloc (.cells #[.int .i64 31, .int .i64 (an : Int), .int .i64 (bn : Int)] 45)).cell? ⟨fb, fo + n * 4, none⟩ = some (.int .i64 ke) := hM 0 _ rfl
  have y1 : ((w.alloc (.cells #[.slice (some ⟨fb, fo, none⟩) NF fc, .slice io NI ic, .slice to_ NT tc, .int .i64 LT] 27)).alloc (.cells #[.int .i64 31, .int .i64 (an : Int), .int .i64 (bn : Int)] 45)).cell? ⟨fb, fo + n * 4 + 1, none⟩ = some (.int .i64 lo) := hM 1 _ rfl
  have y2 : ((w.alloc (.cells #[.slice (some ⟨fb, fo, none⟩) NF fc, .slice io NI ic, .slice to_ NT tc, .int .i64 LT] 27)).alloc (.cells #[.int .i64 31, .int .i64 (an : Int), .int .i64 (bn : Int)] 45)).cell? ⟨fb, fo + n * 4 + 2, none⟩ = some (.int .i64 st) := hM 2 _ rfl
  have y3 : ((w.alloc (.cells #[.slice (some ⟨fb, fo, none⟩) NF fc, .slice io NI ic, .slice to_ NT tc, .int .i64 LT] 27)).alloc (.cells #[.int .i64 31, .int .i64 (an : Int), .int .i64 (bn : Int)] 45)).cell? ⟨fb, fo + n * 4 + 3, none⟩ = some (.slice co NC cc) := hM 3 _ rfl
  have i0 : (0 : Int) ≤ (n : Int) := by omega
  have i1 : (n : Int) < (NF : Int) := by omega
  clear h hcell hL hq hrow hM hf hz
  go_enter Try.func72, Try.ntmps72
  go_wp2_with fail
  exact bodyPost_ret (v := .tuple #[.bool true, .int .i64 1, .int .i64 1]) (by simp [results, Try.results72, go_sem]) rfl (eff_of (by simp [rightB]) (by simp [takesN]) (by simp [putsN]) HX.out)
set_option maxHeartbeats 4000000 in
theorem eff_32 (c : Cd) (fv iv tv : Value) (n : Nat) (f : Bd) (an bn : Nat) (w : World) (S : Nat → Prop) (h : HasC w S c fv iv tv) (hf : c.funs[n]? = some f) (hz : Sz c) :
    Calls Try.prog 72 #[.agg #[fv, iv, tv, .int .i64 c.lets], .int .i64 (n : Int), .agg #[.int .i64 32, .int .i64 (an : Int), .int .i64 (bn : Int)]] w (EffRes c n f ⟨32, an, bn⟩ w) := by
  have hn := (List.getElem?_eq_some_iff.1 hf).1
  obtain ⟨io, ic, rfl, _⟩ := h.ints.val
  obtain ⟨to_, tc, rfl, _⟩ := h.texts.val
  obtain ⟨fb, fo, fc, rfl, _, hfb, hcell⟩ := h.funs.open_ (by intro e; rw [e] at hn; simp at hn)
  obtain ⟨q, hL, hq⟩ := hcell n f hf
  obtain ⟨qv, rfl, hrow⟩ := hasBd_row hq
  obtain ⟨co, cc, rfl, _⟩ := hrow.val
  obtain ⟨ke, lo, st, code⟩ := f
  have h1 := hz.funs
  have h2 := hz.ints
  have h3 := hz.texts
  obtain ⟨NF, hNF⟩ : ∃ x, Hid (c.funs.length = x) := ⟨_, Lib.hid rfl⟩
  obtain ⟨NI, hNI⟩ : ∃ x, Hid (c.ints.length = x) := ⟨_, Lib.hid rfl⟩
  obtain ⟨NT, hNT⟩ : ∃ x, Hid (c.texts.length = x) := ⟨_, Lib.hid rfl⟩
  obtain ⟨LT, hLT⟩ : ∃ x, Hid (c.lets = x) := ⟨_, Lib.hid rfl⟩
  have HC := Lib.hid h
  rw [hNF.out] at hn h1 ⊢
  rw [hNI.out] at h2 ⊢
  rw [hNT.out] at h3 ⊢
  rw [hLT.out]
  simp only at hrow hL ⊢
  obtain ⟨NC, hNC⟩ : ∃ x, Hid (code.length = x) := ⟨_, Lib.hid rfl⟩
  rw [hNC.out] at hL
  have HX2 := Lib.hid (bnext (balloc w (.cells #[.slice (some ⟨fb, fo, none⟩) NF fc, .slice io NI ic, .slice to_ NT tc, .int .i64 LT] 27)) (balloc _ (.cells #[.int .i64 32, .int .i64 (an : Int), .int .i64 (bn : Int)] 45)))
  have HX := Lib.hid (bnext HX2.out (balloc _ (.cells #[.int .i64 ke, .int .i64 lo, .int .i64 st, .slice co NC cc] 49)))
  have hM := hL.keep HX2.out hfb
  have y0 : ((w.alloc (.cells #[.slice (some ⟨fb, fo, none⟩) NF fc, .slice io NI ic, .slice to_ NT tc, .int .i64 LT] 27)).alloc (.cells #[.int .i64 32, .int .i64 (an : Int), .int .i64 (bn : Int)] 45)).cell? ⟨fb, fo + n * 4, none⟩ = some (.int .i64 ke) := hM 0 _ rfl
  have y1 : ((w.alloc (.cells #[.slice (some ⟨fb, fo, none⟩) NF fc, .slice io NI ic, .slice to_ NT tc, .int .i64 LT] 27)).alloc (.cells #[.int .i64 32, .int .i64 (an : Int), .int .i64 (bn : Int)] 45)).cell? ⟨fb, fo + n * 4 + 1, none⟩ = some (.int .i64 lo) := hM 1 _ rfl
  have y2 : ((w.alloc (.cells #[.slice (some ⟨fb, fo, none⟩) NF fc, .slice io NI ic, .slice to_ NT tc, .int .i64 LT] 27)).alloc (.cells #[.int .i64 32, .int .i64 (an : Int), .int .i64 (bn : Int)] 45)).cell? ⟨fb, fo + n * 4 + 2, none⟩ = some (.int .i64 st) := hM 2 _ rfl
  have y3 : ((w.alloc (.cells #[.slice (some ⟨fb, fo, none⟩) NF fc, .slice io NI ic, .slice to_ NT tc, .int .i64 LT] 27)).alloc (.cells #[.int .i64 32, .int .i64 (an : Int), .int .i64 (bn : Int)] 45)).cell? ⟨fb, fo + n * 4 + 3, none⟩ = some (.slice co NC cc) := hM 3 _ rfl
  have i0 : (0 : Int) ≤ (n : Int) := by omega
  have i1 : (n : Int) < (NF : Int) := by omega
  clear h hcell hL hq hrow hM hf hz
  go_enter Try.func72, Try.ntmps72
  go_wp2_with fail
  exact bodyPost_ret (v := .tuple #[.bool true, .int .i64 1, .int .i64 1]) (by simp [results, Try.results72, go_sem]) rfl (eff_of (by simp [rightB]) (by simp [takesN]) (by simp [putsN]) HX.out)
set_option maxHeartbeats 4000000 in
theorem eff_33 (c : Cd) (fv iv tv : Value) (n : Nat) (f : Bd) (an bn : Nat) (w : World) (S : Nat → Prop) (h : HasC w S c fv iv tv) (hf : c.funs[n]? = some f) (hz : Sz c) :
    Calls Try.prog 72 #[.agg #[fv, iv, tv, .int .i64 c.lets], .int .i64 (n : Int), .agg #[.int .i64 33, .int .i64 (an : Int), .int .i64 (bn : Int)]] w (EffRes c n f ⟨33, an, bn⟩ w) := by
  have hn := (List.getElem?_eq_some_iff.1 hf).1
  obtain ⟨io, ic, rfl, _⟩ := h.ints.val
  obtain ⟨to_, tc, rfl, _⟩ := h.texts.val
  obtain ⟨fb, fo, fc, rfl, _, hfb, hcell⟩ := h.funs.open_ (by intro e; rw [e] at hn; simp at hn)
  obtain ⟨q, hL, hq⟩ := hcell n f hf
  obtain ⟨qv, rfl, hrow⟩ := hasBd_row hq
  obtain ⟨co, cc, rfl, _⟩ := hrow.val
  obtain ⟨ke, lo, st, code⟩ := f
  have h1 := hz.funs
  have h2 := hz.ints
  have h3 := hz.texts
  obtain ⟨NF, hNF⟩ : ∃ x, Hid (c.funs.length = x) := ⟨_, Lib.hid rfl⟩
  obtain ⟨NI, hNI⟩ : ∃ x, Hid (c.ints.length = x) := ⟨_, Lib.hid rfl⟩
  obtain ⟨NT, hNT⟩ : ∃ x, Hid (c.texts.length = x) := ⟨_, Lib.hid rfl⟩
  obtain ⟨LT, hLT⟩ : ∃ x, Hid (c.lets = x) := ⟨_, Lib.hid rfl⟩
  have HC := Lib.hid h
  rw [hNF.out] at hn h1 ⊢
  rw [hNI.out] at h2 ⊢
  rw [hNT.out] at h3 ⊢
  rw [hLT.out]
  simp only at hrow hL ⊢
  obtain ⟨NC, hNC⟩ : ∃ x, Hid (code.length = x) := ⟨_, Lib.hid rfl⟩
  rw [hNC.out] at hL
  have HX2 := Lib.hid (bnext (balloc w (.cells #[.slice (some ⟨fb, fo, none⟩) NF fc, .slice io NI ic, .slice to_ NT tc, .int .i64 LT] 27)) (balloc _ (.cells #[.int .i64 33, .int .i64 (an : Int), .int .i64 (bn : Int)] 45)))
  have HX := Lib.hid (bnext HX2.out (balloc _ (.cells #[.int .i64 ke, .int .i64 lo, .int .i64 st, .slice co NC cc] 49)))
  have hM := hL.keep HX2.out hfb
  have y0 : ((w.alloc (.cells #[.slice (some ⟨fb, fo, none⟩) NF fc, .slice io NI ic, .slice to_ NT tc, .int .i64 LT] 27)).alloc (.cells #[.int .i64 33, .int .i64 (an : Int), .int .i64 (bn : Int)] 45)).cell? ⟨fb, fo + n * 4, none⟩ = some (.int .i64 ke) := hM 0 _ rfl
  have y1 : ((w.alloc (.cells #[.slice (some ⟨fb, fo, none⟩) NF fc, .slice io NI ic, .slice to_ NT tc, .int .i64 LT] 27)).alloc (.cells #[.int .i64 33, .int .i64 (an : Int), .int .i64 (bn : Int)] 45)).cell? ⟨fb, fo + n * 4 + 1, none⟩ = some (.int .i64 lo) := hM 1 _ rfl
  have y2 : ((w.alloc (.cells #[.slice (some ⟨fb, fo, none⟩) NF fc, .slice io NI ic, .slice to_ NT tc, .int .i64 LT] 27)).alloc (.cells #[.int .i64 33, .int .i64 (an : Int), .int .i64 (bn : Int)] 45)).cell? ⟨fb, fo + n * 4 + 2, none⟩ = some (.int .i64 st) := hM 2 _ rfl
  have y3 : ((w.alloc (.cells #[.slice (some ⟨fb, fo, none⟩) NF fc, .slice io NI ic, .slice to_ NT tc, .int .i64 LT] 27)).alloc (.cells #[.int .i64 33, .int .i64 (an : Int), .int .i64 (bn : Int)] 45)).cell? ⟨fb, fo + n * 4 + 3, none⟩ = some (.slice co NC cc) := hM 3 _ rfl
  have i0 : (0 : Int) ≤ (n : Int) := by omega
  have i1 : (n : Int) < (NF : Int) := by omega
  clear h hcell hL hq hrow hM hf hz
  go_enter Try.func72, Try.ntmps72
  go_wp2_with fail
  exact bodyPost_ret (v := .tuple #[.bool true, .int .i64 2, .int .i64 1]) (by simp [results, Try.results72, go_sem]) rfl (eff_of (by simp [rightB]) (by simp [takesN]) (by simp [putsN]) HX.out)
set_option maxHeartbeats 4000000 in
theorem eff_10 (c : Cd) (fv iv tv : Value) (n : Nat) (f : Bd) (an bn : Nat) (w : World) (S : Nat → Prop) (h : HasC w S c fv iv tv) (hf : c.funs[n]? = some f) (hz : Sz c) :
    Calls Try.prog 72 #[.agg #[fv, iv, tv, .int .i64 c.lets], .int .i64 (n : Int), .agg #[.int .i64 10, .int .i64 (an : Int), .int .i64 (bn : Int)]] w (EffRes c n f ⟨10, an, bn⟩ w) := by
  have hn := (List.getElem?_eq_some_iff.1 hf).1
  obtain ⟨io, ic, rfl, _⟩ := h.ints.val
  obtain ⟨to_, tc, rfl, _⟩ := h.texts.val
  obtain ⟨fb, fo, fc, rfl, _, hfb, hcell⟩ := h.funs.open_ (by intro e; rw [e] at hn; simp at hn)
  obtain ⟨q, hL, hq⟩ := hcell n f hf
  obtain ⟨qv, rfl, hrow⟩ := hasBd_row hq
  obtain ⟨co, cc, rfl, _⟩ := hrow.val
  obtain ⟨ke, lo, st, code⟩ := f
  have h1 := hz.funs
  have h2 := hz.ints
  have h3 := hz.texts
  obtain ⟨NF, hNF⟩ : ∃ x, Hid (c.funs.length = x) := ⟨_, Lib.hid rfl⟩
  obtain ⟨NI, hNI⟩ : ∃ x, Hid (c.ints.length = x) := ⟨_, Lib.hid rfl⟩
  obtain ⟨NT, hNT⟩ : ∃ x, Hid (c.texts.length = x) := ⟨_, Lib.hid rfl⟩
  obtain ⟨LT, hLT⟩ : ∃ x, Hid (c.lets = x) := ⟨_, Lib.hid rfl⟩
  have HC := Lib.hid h
  rw [hNF.out] at hn h1 ⊢
  rw [hNI.out] at h2 ⊢
  rw [hNT.out] at h3 ⊢
  rw [hLT.out]
  simp only at hrow hL ⊢
  obtain ⟨NC, hNC⟩ : ∃ x, Hid (code.length = x) := ⟨_, Lib.hid rfl⟩
  rw [hNC.out] at hL
  have HX2 := Lib.hid (bnext (balloc w (.cells #[.slice (some ⟨fb, fo, none⟩) NF fc, .slice io NI ic, .slice to_ NT tc, .int .i64 LT] 27)) (balloc _ (.cells #[.int .i64 10, .int .i64 (an : Int), .int .i64 (bn : Int)] 45)))
  have HX := Lib.hid (bnext HX2.out (balloc _ (.cells #[.int .i64 ke, .int .i64 lo, .int .i64 st, .slice co NC cc] 49)))
  have hM := hL.keep HX2.out hfb
  have y0 : ((w.alloc (.cells #[.slice (some ⟨fb, fo, none⟩) NF fc, .slice io NI ic, .slice to_ NT tc, .int .i64 LT] 27)).alloc (.cells #[.int .i64 10, .int .i64 (an : Int), .int .i64 (bn : Int)] 45)).cell? ⟨fb, fo + n * 4, none⟩ = some (.int .i64 ke) := hM 0 _ rfl
  have y1 : ((w.alloc (.cells #[.slice (some ⟨fb, fo, none⟩) NF fc, .slice io NI ic, .slice to_ NT tc, .int .i64 LT] 27)).alloc (.cells #[.int .i64 10, .int .i64 (an : Int), .int .i64 (bn : Int)] 45)).cell? ⟨fb, fo + n * 4 + 1, none⟩ = some (.int .i64 lo) := hM 1 _ rfl
  have y2 : ((w.alloc (.cells #[.slice (some ⟨fb, fo, none⟩) NF fc, .slice io NI ic, .slice to_ NT tc, .int .i64 LT] 27)).alloc (.cells #[.int .i64 10, .int .i64 (an : Int), .int .i64 (bn : Int)] 45)).cell? ⟨fb, fo + n * 4 + 2, none⟩ = some (.int .i64 st) := hM 2 _ rfl
  have y3 : ((w.alloc (.cells #[.slice (some ⟨fb, fo, none⟩) NF fc, .slice io NI ic, .slice to_ NT tc, .int .i64 LT] 27)).alloc (.cells #[.int .i64 10, .int .i64 (an : Int), .int .i64 (bn : Int)] 45)).cell? ⟨fb, fo + n * 4 + 3, none⟩ = some (.slice co NC cc) := hM 3 _ rfl
  have i0 : (0 : Int) ≤ (n : Int) := by omega
  have i1 : (n : Int) < (NF : Int) := by omega
  clear h hcell hL hq hrow hM hf hz
  by_cases ha : (an : Int) ≤ 199
  · have ga : decide ((an : Int) ≤ 199) = true := by simpa using ha
    by_cases hb : (1 : Int) ≤ (bn : Int)
    · have gb : decide ((1 : Int) ≤ (bn : Int)) = true := by simpa using hb
      have gb2 : (bn : Int) ≥ 1 := hb
      by_cases hc : (bn : Int) ≤ 4
      · have gc : decide ((bn : Int) ≤ 4) = true := by simpa using hc
        have HR : Hid (rightB c n ⟨ke, lo, st, code⟩ ⟨10, an, bn⟩ = true) := Lib.hid (by simp [rightB]; omega)
        go_enter Try.func72, Try.ntmps72
        go_wp2_with fail
        go_quiet (fail)
        go_wp2_with fail
        exact bodyPost_ret (v := .tuple #[.bool true, .int .i64 (bn : Int), .int .i64 1]) (by simp [results, Try.results72, go_sem]) rfl (eff_of HR.out (by simp [takesN]) (by simp [putsN]) (below_dN HX.out _))
      · have gc : decide ((bn : Int) ≤ 4) = false := by simpa using hc
        have HR : Hid (rightB c n ⟨ke, lo, st, code⟩ ⟨10, an, bn⟩ = false) := Lib.hid (by simp [rightB]; omega)
        go_enter Try.func72, Try.ntmps72
        go_wp2_with fail
        go_quiet (fail)
        go_wp2_with fail
        exact bodyPost_ret (v := .tuple #[.bool false, .int .i64 (bn : Int), .int .i64 1]) (by simp [results, Try.results72, go_sem]) rfl (eff_of HR.out (by simp [takesN]) (by simp [putsN]) (below_dN HX.out _))
    · have gb : decide ((1 : Int) ≤ (bn : Int)) = false := by simpa using hb
      have gb2 : ¬ (bn : Int) ≥ 1 := hb
      have HR : Hid (rightB c n ⟨ke, lo, st, code⟩ ⟨10, an, bn⟩ = false) := Lib.hid (by simp [rightB]; omega)
      go_enter Try.func72, Try.ntmps72
      go_wp2_with fail
      go_quiet (fail)
      go_wp2_with fail
      exact bodyPost_ret (v := .tuple #[.bool false, .int .i64 (bn : Int), .int .i64 1]) (by simp [results, Try.results72, go_sem]) rfl (eff_of HR.out (by simp [takesN]) (by simp [putsN]) (below_dN HX.out _))
  · have ga : decide ((an : Int) ≤ 199) = false := by simpa using ha
    have HR : Hid (rightB c n ⟨ke, lo, st, code⟩ ⟨10, an, bn⟩ = false) := Lib.hid (by simp [rightB]; omega)
    go_enter Try.func72, Try.ntmps72
    go_wp2_with fail
    go_quiet (fail)
    go_wp2_with fail
    exact bodyPost_ret (v := .tuple #[.bool false, .int .i64 (bn : Int), .int .i64 1]) (by simp [results, Try.results72, go_sem]) rfl (eff_of HR.out (by simp [takesN]) (by simp [putsN]) (below_dN HX.out _))
set_option maxHeartbeats 4000000 in
theorem eff_11 (c : Cd) (fv iv tv : Value) (n : Nat) (f : Bd) (an bn : Nat) (w : World) (S : Nat → Prop) (h : HasC w S c fv iv tv) (hf : c.funs[n]? = some f) (hz : Sz c) :
    Calls Try.prog 72 #[.agg #[fv, iv, tv, .int .i64 c.lets], .int .i64 (n : Int), .agg #[.int .i64 11, .int .i64 (an : Int), .int .i64 (bn : Int)]] w (EffRes c n f ⟨11, an, bn⟩ w) := by
  have hn := (List.getElem?_eq_some_iff.1 hf).1
  obtain ⟨io, ic, rfl, _⟩ := h.ints.val
  obtain ⟨to_, tc, rfl, _⟩ := h.texts.val
  obtain ⟨fb, fo, fc, rfl, _, hfb, hcell⟩ := h.funs.open_ (by intro e; rw [e] at hn; simp at hn)
  obtain ⟨q, hL, hq⟩ := hcell n f hf
  obtain ⟨qv, rfl, hrow⟩ := hasBd_row hq
  obtain ⟨co, cc, rfl, _⟩ := hrow.val
  obtain ⟨ke, lo, st, code⟩ := f
  have h1 := hz.funs
  have h2 := hz.ints
  have h3 := hz.texts
  obtain ⟨NF, hNF⟩ : ∃ x, Hid (c.funs.length = x) := ⟨_, Lib.hid rfl⟩
  obtain ⟨NI, hNI⟩ : ∃ x, Hid (c.ints.length = x) := ⟨_, Lib.hid rfl⟩
  obtain ⟨NT, hNT⟩ : ∃ x, Hid (c.texts.length = x) := ⟨_, Lib.hid rfl⟩
  obtain ⟨LT, hLT⟩ : ∃ x, Hid (c.lets = x) := ⟨_, Lib.hid rfl⟩
  have HC := Lib.hid h
  rw [hNF.out] at hn h1 ⊢
  rw [hNI.out] at h2 ⊢
  rw [hNT.out] at h3 ⊢
  rw [hLT.out]
  simp only at hrow hL ⊢
  obtain ⟨NC, hNC⟩ : ∃ x, Hid (code.length = x) := ⟨_, Lib.hid rfl⟩
  rw [hNC.out] at hL
  have HX2 := Lib.hid (bnext (balloc w (.cells #[.slice (some ⟨fb, fo, none⟩) NF fc, .slice io NI ic, .slice to_ NT tc, .int .i64 LT] 27)) (balloc _ (.cells #[.int .i64 11, .int .i64 (an : Int), .int .i64 (bn : Int)] 45)))
  have HX := Lib.hid (bnext HX2.out (balloc _ (.cells #[.int .i64 ke, .int .i64 lo, .int .i64 st, .slice co NC cc] 49)))
  have hM := hL.keep HX2.out hfb
  have y0 : ((w.alloc (.cells #[.slice (some ⟨fb, fo, none⟩) NF fc, .slice io NI ic, .slice to_ NT tc, .int .i64 LT] 27)).alloc (.cells #[.int .i64 11, .int .i64 (an : Int), .int .i64 (bn : Int)] 45)).cell? ⟨fb, fo + n * 4, none⟩ = some (.int .i64 ke) := hM 0 _ rfl
  have y1 : ((w.alloc (.cells #[.slice (some ⟨fb, fo, none⟩) NF fc, .slice io NI ic, .slice to_ NT tc, .int .i64 LT] 27)).alloc (.cells #[.int .i64 11, .int .i64 (an : Int), .int .i64 (bn : Int)] 45)).cell? ⟨fb, fo + n * 4 + 1, none⟩ = some (.int .i64 lo) := hM 1 _ rfl
  have y2 : ((w.alloc (.cells #[.slice (some ⟨fb, fo, none⟩) NF fc, .slice io NI ic, .slice to_ NT tc, .int .i64 LT] 27)).alloc (.cells #[.int .i64 11, .int .i64 (an : Int), .int .i64 (bn : Int)] 45)).cell? ⟨fb, fo + n * 4 + 2, none⟩ = some (.int .i64 st) := hM 2 _ rfl
  have y3 : ((w.alloc (.cells #[.slice (some ⟨fb, fo, none⟩) NF fc, .slice io NI ic, .slice to_ NT tc, .int .i64 LT] 27)).alloc (.cells #[.int .i64 11, .int .i64 (an : Int), .int .i64 (bn : Int)] 45)).cell? ⟨fb, fo + n * 4 + 3, none⟩ = some (.slice co NC cc) := hM 3 _ rfl
  have i0 : (0 : Int) ≤ (n : Int) := by omega
  have i1 : (n : Int) < (NF : Int) := by omega
  have HCL := Lib.hid hcell
  clear h hcell hL hq hrow hM hf hz
  by_cases ha : (1 : Int) ≤ (an : Int)
  · have ga : (an : Int) ≥ 1 := ha
    have ga2 : decide ((1 : Int) ≤ (an : Int)) = true := by simpa using ha
    by_cases hb : (an : Int) < (NF : Int)
    · have gb2 : an < NF := by omega
      obtain ⟨g, hg⟩ := getElem?_of_lt (l := c.funs) (k := an) (by rw [hNF.out]; exact gb2)
      obtain ⟨q2, hL2, _⟩ := HCL.out an g hg
      have hM2 := hL2.keep HX.out hfb
      obtain ⟨GK, hGK⟩ : ∃ x, Hid (g.kept = x) := ⟨_, Lib.hid rfl⟩
      have w0 : (((w.alloc (.cells #[.slice (some ⟨fb, fo, none⟩) NF fc, .slice io NI ic, .slice to_ NT tc, .int .i64 LT] 27)).alloc (.cells #[.int .i64 11, .int .i64 (an : Int), .int .i64 (bn : Int)] 45)).alloc (.cells #[.int .i64 ke, .int .i64 lo, .int .i64 st, .slice co NC cc] 49)).cell? ⟨fb, fo + an * 4, none⟩ = some (.int .i64 GK) := by rw [← hGK.out]; exact hM2 0 _ rfl
      have i3 : (0 : Int) ≤ (an : Int) := by omega
      have HG := Lib.hid hg
      clear hL2 hM2 hg
      by_cases hc : GK = (bn : Int)
      · have HR : Hid (rightB c n ⟨ke, lo, st, code⟩ ⟨11, an, bn⟩ = true) := Lib.hid (by simp [rightB, HG.out, hGK.out, hNF.out, hc]; omega)
        have t0 : (GK == (bn : Int)) = true := by simpa using hc
        clear hc
        go_enter Try.func72, Try.ntmps72
        go_wp2_with fail
        go_quiet (fail)
        go_wp2_with fail
        exact bodyPost_ret (v := .tuple #[.bool true, .int .i64 (bn : Int), .int .i64 1]) (by simp [results, Try.results72, go_sem]) rfl (eff_of HR.out (by simp [takesN]) (by simp [putsN]) (below_dN HX.out _))
      · have HR : Hid (rightB c n ⟨ke, lo, st, code⟩ ⟨11, an, bn⟩ = false) := Lib.hid (by simp [rightB, HG.out, hGK.out, hc])
        have t0 : (GK == (bn : Int)) = false := by simpa using hc
        clear hc
        go_enter Try.func72, Try.ntmps72
        go_wp2_with fail
        go_quiet (fail)
        go_wp2_with fail
        exact bodyPost_ret (v := .tuple #[.bool false, .int .i64 (bn : Int), .int .i64 1]) (by simp [results, Try.results72, go_sem]) rfl (eff_of HR.out (by simp [takesN]) (by simp [putsN]) (below_dN HX.out _))
    · have gb2 : NF ≤ an := by omega
      have gb3 : decide (an < NF) = false := by simp; omega
      have HR : Hid (rightB c n ⟨ke, lo, st, code⟩ ⟨11, an, bn⟩ = false) := Lib.hid (by simp [rightB]; intro h1 h2; rw [hNF.out] at h2; omega)
      go_enter Try.func72, Try.ntmps72
      go_wp2_with fail
      go_quiet (fail)
      go_wp2_with fail
      exact bodyPost_ret (v := .tuple #[.bool false, .int .i64 (bn : Int), .int .i64 1]) (by simp [results, Try.results72, go_sem]) rfl (eff_of HR.out (by simp [takesN]) (by simp [putsN]) (below_dN HX.out _))
  · have ga : ¬ (an : Int) ≥ 1 := ha
    have ga2 : decide ((1 : Int) ≤ (an : Int)) = false := by simpa using ha
    have HR : Hid (rightB c n ⟨ke, lo, st, code⟩ ⟨11, an, bn⟩ = false) := Lib.hid (by simp [rightB]; intro h1 h2; rw [hNF.out] at h2; omega)
    go_enter Try.func72, Try.ntmps72
    go_wp2_with fail
    go_quiet (fail)
    go_wp2_with fail
    exact bodyPost_ret (v := .tuple #[.bool false, .int .i64 (bn : Int), .int .i64 1]) (by simp [results, Try.results72, go_sem]) rfl (eff_of HR.out (by simp [takesN]) (by simp [putsN]) (below_dN HX.out _))
theorem effect_c (c : Cd) (fv iv tv : Value) (n : Nat) (f : Bd) (i : In) (w : World) (S : Nat → Prop) (h : HasC w S c fv iv tv) (hf : c.funs[n]? = some f) (hz : Sz c) (ho : 1 ≤ i.op ∧ i.op ≤ 33) (ha : 0 ≤ i.a) (hb : 0 ≤ i.b) :
    Calls Try.prog 72 #[.agg #[fv, iv, tv, .int .i64 c.lets], .int .i64 (n : Int), .agg #[.int .i64 i.op, .int .i64 i.a, .int .i64 i.b]] w (EffRes c n f i w) := by
  obtain ⟨op, a, b⟩ := i
  simp only at ho ha hb ⊢
  obtain ⟨an, rfl⟩ := Int.eq_ofNat_of_zero_le ha
  obtain ⟨bn, rfl⟩ := Int.eq_ofNat_of_zero_le hb
  have hop : op = 1 ∨ op = 2 ∨ op = 3 ∨ op = 4 ∨ op = 5 ∨ op = 6 ∨ op = 7 ∨ op = 8 ∨ op = 9 ∨ op = 10 ∨ op = 11 ∨ op = 12 ∨ op = 13 ∨ op = 14 ∨ op = 15 ∨ op = 16 ∨ op = 17 ∨ op = 18 ∨ op = 19 ∨ op = 20 ∨ op = 21 ∨ op = 22 ∨ op = 23 ∨ op = 24 ∨ op = 25 ∨ op = 26 ∨ op = 27 ∨ op = 28 ∨ op = 29 ∨ op = 30 ∨ op = 31 ∨ op = 32 ∨ op = 33 := by omega
  rcases hop with rfl | rfl | rfl | rfl | rfl | rfl | rfl | rfl | rfl | rfl | rfl | rfl | rfl | rfl | rfl | rfl | rfl | rfl | rfl | rfl | rfl | rfl | rfl | rfl | rfl | rfl | rfl | rfl | rfl | rfl | rfl | rfl | rfl
  · exact eff_1 c fv iv tv n f an bn w S h hf hz
  · exact eff_2 c fv iv tv n f an bn w S h hf hz
  · exact eff_3 c fv iv tv n f an bn w S h hf hz
  · exact eff_4 c fv iv tv n f an bn w S h hf hz
  · exact eff_5 c fv iv tv n f an bn w S h hf hz
  · exact eff_6 c fv iv tv n f an bn w S h hf hz
  · exact eff_7 c fv iv tv n f an bn w S h hf hz
  · exact eff_8 c fv iv tv n f an bn w S h hf hz
  · exact eff_9 c fv iv tv n f an bn w S h hf hz
  · exact eff_10 c fv iv tv n f an bn w S h hf hz
  · exact eff_11 c fv iv tv n f an bn w S h hf hz
  · exact eff_12 c fv iv tv n f an bn w S h hf hz
  · exact eff_13 c fv iv tv n f an bn w S h hf hz
  · exact eff_14 c fv iv tv n f an bn w S h hf hz
  · exact eff_15 c fv iv tv n f an bn w S h hf hz
  · exact eff_16 c fv iv tv n f an bn w S h hf hz
  · exact eff_17 c fv iv tv n f an bn w S h hf hz
  · exact eff_18 c fv iv tv n f an bn w S h hf hz
  · exact eff_19 c fv iv tv n f an bn w S h hf hz
  · exact eff_20 c fv iv tv n f an bn w S h hf hz
  · exact eff_21 c fv iv tv n f an bn w S h hf hz
  · exact eff_22 c fv iv tv n f an bn w S h hf hz
  · exact eff_23 c fv iv tv n f an bn w S h hf hz
  · exact eff_24 c fv iv tv n f an bn w S h hf hz
  · exact eff_25 c fv iv tv n f an bn w S h hf hz
  · exact eff_26 c fv iv tv n f an bn w S h hf hz
  · exact eff_27 c fv iv tv n f an bn w S h hf hz
  · exact eff_28 c fv iv tv n f an bn w S h hf hz
  · exact eff_29 c fv iv tv n f an bn w S h hf hz
  · exact eff_30 c fv iv tv n f an bn w S h hf hz
  · exact eff_31 c fv iv tv n f an bn w S h hf hz
  · exact eff_32 c fv iv tv n f an bn w S h hf hz
  · exact eff_33 c fv iv tv n f an bn w S h hf hz
end Go.Proofs.Ytkhdkepjhifffaa.VH
