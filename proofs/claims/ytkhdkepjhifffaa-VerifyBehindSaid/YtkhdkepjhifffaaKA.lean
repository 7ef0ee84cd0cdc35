/- Codes, what of them may be, and their bytes: plainly. -/
import Derived.Lib.Hide
namespace Go.Proofs.Ytkhdkepjhifffaa.KA
set_option linter.unusedVariables false
set_option maxRecDepth 100000

abbrev By := List UInt8
structure In where
  op : Int
  a : Int
  b : Int
  deriving DecidableEq, Inhabited
structure Bd where
  kept : Int
  locals : Int
  stack : Int
  code : List In
  deriving Inhabited
structure Cd where
  funs : List Bd
  ints : List Int
  texts : List By
  lets : Int
  deriving Inhabited

def twoL : List Int := [10, 11, 18]
def noneL : List Int := [5, 9, 13, 14, 15, 20, 22, 23, 24, 25, 26, 27, 29, 30, 31, 32, 33]
/-- How many of A and B an Op uses. -/
def uses (op : Int) : Int := if op < 1 ∨ 33 < op then -1 else if op ∈ twoL then 2 else if op ∈ noneL then 0 else 1
def insOk (i : In) : Bool :=
  !(decide (uses i.op < 0) || decide (i.a < 0) || decide (65535 < i.a) || decide (i.b < 0) || decide (65535 < i.b)) && ((decide (0 < uses i.op) || i.a == 0) && (decide (1 < uses i.op) || i.b == 0))
def intOk (n : Int) : Bool := decide (-4611686018427387904 ≤ n) && decide (n ≤ 4611686018427387903)
def textOk (s : By) : Bool := decide (s.length ≤ 60)
def bodyOk (f : Bd) : Bool :=
  decide (0 ≤ f.kept) && decide (f.kept ≤ 59) && decide (0 ≤ f.locals) && decide (f.locals ≤ 60) && decide (1 ≤ f.stack) && decide (f.stack ≤ 60) && decide (1 ≤ f.code.length) && decide (f.code.length ≤ 400) && f.code.all insOk
def headOk (c : Cd) : Bool := decide (1 ≤ c.funs.length) && decide (c.funs.length ≤ 120) && decide (c.ints.length ≤ 120) && decide (c.texts.length ≤ 120) && decide (0 ≤ c.lets) && decide (c.lets ≤ 60)
def mayB (c : Cd) : Bool := headOk c && c.ints.all intOk && c.texts.all textOk && c.funs.all bodyOk
theorem all_take_no {α : Type} {p : α → Bool} {l : List α} {j : Nat} {x : α} (h : l[j]? = some x) (hx : p x = false) : l.all p = false := by
  rw [List.all_eq_false]
  exact ⟨x, List.mem_of_getElem? h, by simp [hx]⟩
theorem all_take_yes {α : Type} {p : α → Bool} {l : List α} {j : Nat} {x : α} (h : l[j]? = some x) (hx : p x = true) (ht : (l.take j).all p = true) : (l.take (j + 1)).all p = true := by
  rw [List.take_add_one, h, List.all_append, ht]
  simp [hx]
theorem uses_three (op : Int) : uses op = -1 ∨ uses op = 0 ∨ uses op = 1 ∨ uses op = 2 := by
  unfold uses
  split
  · exact .inl rfl
  · split
    · exact .inr (.inr (.inr rfl))
    · split
      · exact .inr (.inl rfl)
      · exact .inr (.inr (.inl rfl))
end Go.Proofs.Ytkhdkepjhifffaa.KA
