/- The document's step, at any instruction. -/
import Derived.Test.YtkhdkepjhifffaaVI1
import Derived.Test.YtkhdkepjhifffaaVI2
import Derived.Test.YtkhdkepjhifffaaVI3
import Derived.Test.YtkhdkepjhifffaaVI4
import Derived.Test.YtkhdkepjhifffaaVI5
import Derived.Test.YtkhdkepjhifffaaVI6
import Derived.Test.YtkhdkepjhifffaaVI7
import Derived.Test.YtkhdkepjhifffaaVI8
namespace Go.Proofs.Ytkhdkepjhifffaa.VQ
open Go.RowKit Go.Proofs.Ytkhdkepjhifffaa.RG Go.Proofs.Ytkhdkepjhifffaa.RB Go.Proofs.Ytkhdkepjhifffaa.KA Go.Proofs.Ytkhdkepjhifffaa.KB Go.Proofs.Ytkhdkepjhifffaa.KH Go.Proofs.Ytkhdkepjhifffaa.VA Go.Proofs.Ytkhdkepjhifffaa.VB Go.Proofs.Ytkhdkepjhifffaa.VC Go.Proofs.Ytkhdkepjhifffaa.VD Go.Proofs.Ytkhdkepjhifffaa.VE Go.Proofs.Ytkhdkepjhifffaa.VF Go.Proofs.Ytkhdkepjhifffaa.VG Go.Proofs.Ytkhdkepjhifffaa.VH Go.Proofs.Ytkhdkepjhifffaa.VI
set_option linter.unusedVariables false
set_option maxRecDepth 100000
set_option maxRecDepth 100000

theorem dstep_c (w0 w : World) (b N : Nat) (S S0 : Nat → Prop) (A : Row) (c : Cd) (fv iv tv : Value) (n at_ : Nat) (f : Bd) (op : Int) (an bn : Nat) (s : Sx) (h0 : HasC w0 S0 c fv iv tv) (hB : Below w0.heap.size w0 w) (hz : Sz c) (hf : c.funs[n]? = some f) (hi : f.code[at_]? = some ⟨op, an, bn⟩) (hfl : f.code.length = N) (hN : N ≤ 1000) (hA : A[at_]? = some (some s)) (len : A.length = N) (h : RowB TZ w S b (A.map rawD)) (hS1 : ∀ y, S y → y ≠ b) (hS2 : ∀ y, w.heap.size ≤ y → S y) (hd0 : 0 ≤ s.dep) (hd1 : s.dep ≤ f.stack) (hst : f.stack ≤ 60) (gd : ∀ (a : Nat) (s : Sx), A[a]? = some (some s) → s.ms.length ≤ 900000) (hab : an ≤ 65535 ∧ bn ≤ 65535) (hbs : 0 ≤ base s ∧ base s ≤ 100000) (hop : 1 ≤ op ∧ op ≤ 33) :
    Calls Try.prog 63 #[.agg #[fv, iv, tv, .int .i64 c.lets], .int .i64 (n : Int), .int .i64 (at_ : Int), .slice (some ⟨b, 0, none⟩) N N] w (StepRes f.stack (goes c n f at_ s) A S b w) := by
  by_cases hg : rightB c n f ⟨op, an, bn⟩ = true ∧ base s ≤ s.dep - takesN ⟨op, (an : Int), (bn : Int)⟩
  · obtain ⟨hg, hg2⟩ := hg
    by_cases hopx : op ∈ ([14, 15, 23, 30, 16, 17, 18, 21, 28, 26, 22, 27, 29] : List Int)
    · simp only [List.mem_cons, List.not_mem_nil, or_false] at hopx
      rcases hopx with rfl | rfl | rfl | rfl | rfl | rfl | rfl | rfl | rfl | rfl | rfl | rfl | rfl
      · exact step_14 w0 w b N S S0 A c fv iv tv n at_ f an bn s h0 hB hz hf hi hfl hN hA len h hS1 hS2 hd0 hd1 hst gd hab hbs hg hg2
      · exact step_15 w0 w b N S S0 A c fv iv tv n at_ f an bn s h0 hB hz hf hi hfl hN hA len h hS1 hS2 hd0 hd1 hst gd hab hbs hg hg2
      · exact step_23 w0 w b N S S0 A c fv iv tv n at_ f an bn s h0 hB hz hf hi hfl hN hA len h hS1 hS2 hd0 hd1 hst gd hab hbs hg hg2
      · exact step_30 w0 w b N S S0 A c fv iv tv n at_ f an bn s h0 hB hz hf hi hfl hN hA len h hS1 hS2 hd0 hd1 hst gd hab hbs hg hg2
      · exact step_16 w0 w b N S S0 A c fv iv tv n at_ f an bn s h0 hB hz hf hi hfl hN hA len h hS1 hS2 hd0 hd1 hst gd hab hbs hg hg2
      · exact step_17 w0 w b N S S0 A c fv iv tv n at_ f an bn s h0 hB hz hf hi hfl hN hA len h hS1 hS2 hd0 hd1 hst gd hab hbs hg hg2
      · exact step_18 w0 w b N S S0 A c fv iv tv n at_ f an bn s h0 hB hz hf hi hfl hN hA len h hS1 hS2 hd0 hd1 hst gd hab hbs hg hg2
      · exact step_21 w0 w b N S S0 A c fv iv tv n at_ f an bn s h0 hB hz hf hi hfl hN hA len h hS1 hS2 hd0 hd1 hst gd hab hbs hg hg2
      · exact step_28 w0 w b N S S0 A c fv iv tv n at_ f an bn s h0 hB hz hf hi hfl hN hA len h hS1 hS2 hd0 hd1 hst gd hab hbs hg hg2
      · exact step_26 w0 w b N S S0 A c fv iv tv n at_ f an bn s h0 hB hz hf hi hfl hN hA len h hS1 hS2 hd0 hd1 hst gd hab hbs hg hg2
      · exact step_22 w0 w b N S S0 A c fv iv tv n at_ f an bn s h0 hB hz hf hi hfl hN hA len h hS1 hS2 hd0 hd1 hst gd hab hbs hg hg2
      · exact step_27 w0 w b N S S0 A c fv iv tv n at_ f an bn s h0 hB hz hf hi hfl hN hA len h hS1 hS2 hd0 hd1 hst gd hab hbs hg hg2
      · exact step_29 w0 w b N S S0 A c fv iv tv n at_ f an bn s h0 hB hz hf hi hfl hN hA len h hS1 hS2 hd0 hd1 hst gd hab hbs hg hg2
    · exact step_else w0 w b N S S0 A c fv iv tv n at_ f op an bn s h0 hB hz hf hi hfl hN hA len h hS1 hS2 hd0 hd1 hst gd hab hbs hop hopx hg hg2
  · exact step_bad w0 w b N S S0 A c fv iv tv n at_ f op an bn s h0 hB hz hf hi hfl hN hA len h hS1 hS2 hd0 hd1 hst gd hab hbs hop hg
end Go.Proofs.Ytkhdkepjhifffaa.VQ
