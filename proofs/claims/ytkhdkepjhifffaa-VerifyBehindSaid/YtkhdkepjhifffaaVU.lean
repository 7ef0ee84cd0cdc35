/- The document's three examples of codes, plainly: which of them hold together, and their depths. -/
import Derived.Test.YtkhdkepjhifffaaVP
namespace Go.Proofs.Ytkhdkepjhifffaa.VU
open Go.Proofs.Ytkhdkepjhifffaa.KA Go.Proofs.Ytkhdkepjhifffaa.VA Go.Proofs.Ytkhdkepjhifffaa.VO Go.Proofs.Ytkhdkepjhifffaa.VP
set_option linter.unusedVariables false
set_option maxRecDepth 100000
set_option maxRecDepth 100000

/-- A code of one function. -/
def oneCd (l : List In) : Cd := ⟨[⟨0, 1, 3, l⟩], [1], [], 0⟩
def lA : List In := [⟨1, 0, 0⟩, ⟨15, 0, 0⟩]
def lB : List In := [⟨9, 0, 0⟩]
def lC : List In := [⟨21, 2, 0⟩, ⟨16, 1, 0⟩, ⟨15, 0, 0⟩]
theorem mayA : mayB (oneCd lA) = true := by decide
theorem mayB_ : mayB (oneCd lB) = true := by decide
theorem mayC : mayB (oneCd lC) = true := by decide
theorem fun_one {l : List In} {n : Nat} {f : Bd} (h : (oneCd l).funs[n]? = some f) : n = 0 ∧ f = ⟨0, 1, 3, l⟩ := by
  unfold oneCd at h
  cases n with
  | zero => simp at h; exact ⟨rfl, h.symm⟩
  | succ n => simp at h
theorem fun_zero (l : List In) : (oneCd l).funs[0]? = some ⟨0, 1, 3, l⟩ := rfl
def gA : Nat → Sx → Option (List (Nat × Sx)) := goes (oneCd lA) 0 ⟨0, 1, 3, lA⟩
def gB : Nat → Sx → Option (List (Nat × Sx)) := goes (oneCd lB) 0 ⟨0, 1, 3, lB⟩
def gC : Nat → Sx → Option (List (Nat × Sx)) := goes (oneCd lC) 0 ⟨0, 1, 3, lC⟩
theorem gA0 : gA 0 VA.start = some [(1, ⟨1, []⟩)] := by decide
theorem gA1 : gA 1 ⟨1, []⟩ = some [] := by decide
theorem gB0 : gB 0 VA.start = none := by decide
theorem gC0 : gC 0 VA.start = some [(1, ⟨0, [⟨21, 0⟩]⟩), (2, ⟨1, []⟩)] := by decide
theorem gC1 : gC 1 ⟨0, [⟨21, 0⟩]⟩ = some [(1, ⟨0, [⟨21, 0⟩]⟩)] := by decide
theorem gC2 : gC 2 ⟨1, []⟩ = some [] := by decide
def rA : Row := [some VA.start, some ⟨1, []⟩]
def rC : Row := [some VA.start, some ⟨0, [⟨21, 0⟩]⟩, some ⟨1, []⟩]
theorem row_two {x y : Sx} {P : Nat → Sx → Prop} (h0 : P 0 x) (h1 : P 1 y) : ∀ (a : Nat) (s : Sx), ([some x, some y] : Row)[a]? = some (some s) → P a s := by
  intro a s h
  match a with
  | 0 => simp at h; rw [← h]; exact h0
  | 1 => simp at h; rw [← h]; exact h1
  | n + 2 => simp at h
theorem row_three {x y z : Sx} {P : Nat → Sx → Prop} (h0 : P 0 x) (h1 : P 1 y) (h2 : P 2 z) : ∀ (a : Nat) (s : Sx), ([some x, some y, some z] : Row)[a]? = some (some s) → P a s := by
  intro a s h
  match a with
  | 0 => simp at h; rw [← h]; exact h0
  | 1 => simp at h; rw [← h]; exact h1
  | 2 => simp at h; rw [← h]; exact h2
  | n + 3 => simp at h
theorem ansA : Ans 2 3 gA (some rA) := by
  have r1 : Rch gA 1 ⟨1, []⟩ := .step (x := (1, ⟨1, []⟩)) .init gA0 (by simp)
  have hI : Inv 2 3 gA rA := ⟨rfl, row_two (P := fun a s => Rch gA a s ∧ s.dep ≤ 3) ⟨.init, by decide⟩ ⟨r1, by decide⟩, rfl⟩
  have h := done_ok hI (row_two (P := fun a s => ∃ l, gA a s = some l ∧ ∀ x, x ∈ l → rA[x.1]? = some (some x.2)) ⟨_, gA0, fun x hx => by rw [List.mem_singleton.1 hx]; rfl⟩ ⟨_, gA1, fun x hx => by cases hx⟩)
  exact .yes rfl h.1 h.2
theorem ansC : Ans 3 3 gC (some rC) := by
  have r1 : Rch gC 1 ⟨0, [⟨21, 0⟩]⟩ := .step (x := (1, ⟨0, [⟨21, 0⟩]⟩)) .init gC0 (by simp)
  have r2 : Rch gC 2 ⟨1, []⟩ := .step (x := (2, ⟨1, []⟩)) .init gC0 (by simp)
  have hI : Inv 3 3 gC rC := ⟨rfl, row_three (P := fun a s => Rch gC a s ∧ s.dep ≤ 3) ⟨.init, by decide⟩ ⟨r1, by decide⟩ ⟨r2, by decide⟩, rfl⟩
  have h := done_ok hI (row_three (P := fun a s => ∃ l, gC a s = some l ∧ ∀ x, x ∈ l → rC[x.1]? = some (some x.2))
    ⟨_, gC0, fun x hx => by
      simp only [List.mem_cons, List.not_mem_nil, or_false] at hx
      rcases hx with rfl | rfl <;> rfl⟩
    ⟨_, gC1, fun x hx => by rw [List.mem_singleton.1 hx]; rfl⟩ ⟨_, gC2, fun x hx => by cases hx⟩)
  exact .yes rfl h.1 h.2
theorem ansB : Ans 1 3 gB none := by
  refine .no fun h => ?_
  obtain ⟨_, _, l, hl⟩ := h.1 0 VA.start .init
  rw [gB0] at hl; cases hl
theorem okA : AllOk (oneCd lA) := by
  intro n f h
  obtain ⟨rfl, rfl⟩ := fun_one h
  exact ans_yes ansA
theorem okC : AllOk (oneCd lC) := by
  intro n f h
  obtain ⟨rfl, rfl⟩ := fun_one h
  exact ans_yes ansC
theorem okB : ¬ AllOk (oneCd lB) := fun h => ans_no ansB (h 0 _ (fun_zero lB))
theorem depA : DepOf (oneCd lA) 0 [0, 1] := .inr ⟨0, _, rfl, mayA, fun_zero lA, .inl ⟨_, ansA, rfl⟩⟩
theorem depC : DepOf (oneCd lC) 0 [0, 0, 1] := .inr ⟨0, _, rfl, mayC, fun_zero lC, .inl ⟨_, ansC, rfl⟩⟩
theorem depB : DepOf (oneCd lB) 0 [] := .inr ⟨0, _, rfl, mayB_, fun_zero lB, .inr ⟨ansB, rfl⟩⟩
end Go.Proofs.Ytkhdkepjhifffaa.VU
