/- Whether a function holds together: states, what an instruction does with one, what is reached; plainly. -/
import Derived.Test.YtkhdkepjhifffaaKA
namespace Go.Proofs.Ytkhdkepjhifffaa.VA
open Go.Proofs.Ytkhdkepjhifffaa.KA
set_option linter.unusedVariables false
set_option maxRecDepth 100000

structure Mk where
  kind : Int
  dep : Int
  deriving DecidableEq, Inhabited
/-- A state: a depth, marks. -/
structure Sx where
  dep : Int
  ms : List Mk
  deriving DecidableEq, Inhabited
def start : Sx := ⟨0, []⟩
def base (s : Sx) : Int := match s.ms.getLast? with
  | some m => m.dep
  | none => 0
def takesN (i : In) : Int :=
  if i.op ∈ [10, 11] then i.b else if i.op ∈ [7, 8, 9, 12, 15, 17, 18, 23, 24, 25, 31, 32] then 1 else if i.op ∈ [13, 14, 19, 20, 33] then 2 else 0
def putsN (op : Int) : Int := if op ∈ [1, 2, 3, 4, 5, 6, 10, 11, 12, 13, 19, 20, 24, 25, 31, 32, 33] then 1 else 0
/-- Are an instruction's operands right, in function n, whose body is f? -/
def rightB (c : Cd) (n : Nat) (f : Bd) (i : In) : Bool :=
  if i.op = 1 then decide (i.a < c.ints.length)
  else if i.op = 2 then decide (i.a < c.texts.length)
  else if i.op = 3 then decide (i.a < f.locals)
  else if i.op = 4 then decide (i.a < f.kept)
  else if i.op = 5 then decide (n ≠ 0)
  else if i.op = 6 then decide (i.a < c.lets)
  else if i.op = 7 then decide (i.a < f.locals)
  else if i.op = 8 then decide (i.a < c.lets)
  else if i.op = 10 then decide (i.a ≤ 199) && decide (1 ≤ i.b) && decide (i.b ≤ 4)
  else if i.op = 11 then decide (1 ≤ i.a) && decide (i.a < c.funs.length) && decide ((c.funs[i.a.toNat]?.map Bd.kept) = some i.b)
  else if i.op = 12 then decide (i.a < 4)
  else if i.op = 19 then decide (i.a < 7)
  else true
def withM (k : Int) (t : Sx) : Sx := ⟨t.dep, t.ms ++ [⟨k, t.dep⟩]⟩
def lastK (k : Int) (t : Sx) : Bool := decide ((t.ms.getLast?.map Mk.kind) = some k)
/-- To which instructions, with which states, it goes from an instruction that leaves the state t. -/
def leaves (i : In) (at_ : Nat) (t : Sx) : Option (List (Nat × Sx)) :=
  if i.op = 14 ∨ i.op = 15 then (if t.ms = [] then some [] else none)
  else if i.op = 23 ∨ i.op = 30 then some []
  else if i.op = 16 then some [(i.a.toNat, t)]
  else if i.op = 17 then some [(at_ + 1, t), (i.a.toNat, t)]
  else if i.op = 18 then some [(at_ + 1, t), (i.b.toNat, t)]
  else if i.op = 21 then some [(at_ + 1, withM 21 t), (i.a.toNat, ⟨t.dep + 1, t.ms⟩)]
  else if i.op = 28 then some [(at_ + 1, withM 28 t), (i.a.toNat, t)]
  else if i.op = 26 then (if t.ms.any (fun m => m.kind == 26) then none else some [(at_ + 1, withM 26 t)])
  else if i.op = 22 then (if lastK 21 t then some [(at_ + 1, ⟨t.dep, t.ms.dropLast⟩)] else none)
  else if i.op = 27 then (if lastK 26 t then some [(at_ + 1, ⟨t.dep, t.ms.dropLast⟩)] else none)
  else if i.op = 29 then (if lastK 28 t then some [(at_ + 1, ⟨t.dep, t.ms.dropLast⟩)] else none)
  else some [(at_ + 1, t)]
def after (i : In) (s : Sx) : Sx := ⟨s.dep - takesN i + putsN i.op, s.ms⟩
def goes (c : Cd) (n : Nat) (f : Bd) (a : Nat) (s : Sx) : Option (List (Nat × Sx)) :=
  match f.code[a]? with
  | none => none
  | some i => if rightB c n f i = true ∧ base s ≤ s.dep - takesN i then leaves i a (after i s) else none

/-! ## What is reached -/
section
variable (N : Nat) (K : Int) (nx : Nat → Sx → Option (List (Nat × Sx)))
inductive Rch : Nat → Sx → Prop
  | init : Rch 0 start
  | step {a : Nat} {s : Sx} {l : List (Nat × Sx)} {x : Nat × Sx} : Rch a s → nx a s = some l → x ∈ l → Rch x.1 x.2
/-- It holds together. -/
def Ok : Prop := (∀ (a : Nat) (s : Sx), Rch nx a s → a < N ∧ s.dep ≤ K ∧ ∃ l, nx a s = some l) ∧ ∀ (a : Nat) (s t : Sx), Rch nx a s → Rch nx a t → s = t
end
abbrev Row := List (Option Sx)
/-- A state is brought to an instruction. -/
def put (K : Int) (A : Row) (x : Nat × Sx) : Option Row :=
  match A[x.1]? with
  | none => none
  | some o => if K < x.2.dep then none else match o with
    | none => some (A.set x.1 (some x.2))
    | some s => if s = x.2 then some A else none
def puts (K : Int) : Row → List (Nat × Sx) → Option Row
  | A, [] => some A
  | A, x :: l => (put K A x).bind fun A' => puts K A' l
section
variable {N : Nat} {K : Int} {nx : Nat → Sx → Option (List (Nat × Sx))}
/-- What is known of the states found so far. -/
structure Inv (N : Nat) (K : Int) (nx : Nat → Sx → Option (List (Nat × Sx))) (A : Row) : Prop where
  len : A.length = N
  rch : ∀ (a : Nat) (s : Sx), A[a]? = some (some s) → Rch nx a s ∧ s.dep ≤ K
  zero : A[0]? = some (some start)
/-- Nothing is lost. -/
def Gr (A A' : Row) : Prop := A'.length = A.length ∧ ∀ (a : Nat) (s : Sx), A[a]? = some (some s) → A'[a]? = some (some s)
theorem Gr.refl (A : Row) : Gr A A := ⟨rfl, fun _ _ h => h⟩
theorem Gr.trans {A B C : Row} (h : Gr A B) (k : Gr B C) : Gr A C := ⟨k.1.trans h.1, fun a s e => k.2 a s (h.2 a s e)⟩
theorem put_some {A A' : Row} {x : Nat × Sx} (h : put K A x = some A') : Gr A A' ∧ A'[x.1]? = some (some x.2) ∧ x.2.dep ≤ K ∧ ∀ (a : Nat) (s : Sx), A'[a]? = some (some s) → A[a]? = some (some s) ∨ (a, s) = x := by
  unfold put at h
  split at h
  · cases h
  · next o ho =>
    have hlt := (List.getElem?_eq_some_iff.1 ho).1
    split at h
    · cases h
    · next hk =>
      split at h
      · cases h
        refine ⟨⟨List.length_set, fun a s e => ?_⟩, by simp [hlt], by omega, fun a s e => ?_⟩
        · rw [List.getElem?_set]
          split
          · next ha => subst ha; rw [ho] at e; cases e
          · exact e
        · rw [List.getElem?_set] at e
          split at e
          · next ha =>
            subst ha
            simp at e
            right; rw [← e]
          · exact .inl e
      · split at h
        · next he =>
          cases h
          exact ⟨Gr.refl _, by rw [ho, he], by omega, fun a s e => .inl e⟩
        · cases h
theorem put_inv {A A' : Row} {x : Nat × Sx} (hI : Inv N K nx A) (hx : Rch nx x.1 x.2) (h : put K A x = some A') : Inv N K nx A' := by
  obtain ⟨hg, h1, h2, h3⟩ := put_some h
  refine ⟨hg.1.trans hI.len, fun a s e => ?_, hg.2 _ _ hI.zero⟩
  rcases h3 a s e with e | e
  · exact hI.rch a s e
  · cases e; exact ⟨hx, h2⟩
theorem put_none {A : Row} {x : Nat × Sx} (hI : Inv N K nx A) (hx : Rch nx x.1 x.2) (h : put K A x = none) : ¬ Ok N K nx := by
  intro hok
  obtain ⟨h1, h2, _⟩ := hok.1 _ _ hx
  unfold put at h
  split at h
  · next ho =>
    have := List.getElem?_eq_none_iff.1 ho
    have := hI.len
    omega
  · next o ho =>
    split at h
    · omega
    · split at h
      · cases h
      · next s =>
        split at h
        · cases h
        · next hne => exact hne (hok.2 _ _ _ (hI.rch _ _ ho).1 hx)
theorem puts_inv {l : List (Nat × Sx)} : ∀ {A A' : Row}, Inv N K nx A → (∀ x, x ∈ l → Rch nx x.1 x.2) → puts K A l = some A' → Inv N K nx A' ∧ Gr A A' ∧ ∀ x, x ∈ l → A'[x.1]? = some (some x.2) := by
  induction l with
  | nil => intro A A' hI _ h; cases h; exact ⟨hI, Gr.refl _, fun x hx => by cases hx⟩
  | cons x l ih =>
    intro A A' hI hl h
    obtain ⟨B, hB, h⟩ := Option.bind_eq_some_iff.1 h
    have hx := hl x List.mem_cons_self
    obtain ⟨h1, h2, h3⟩ := ih (put_inv hI hx hB) (fun y hy => hl y (List.mem_cons_of_mem _ hy)) h
    obtain ⟨hg, hp, _⟩ := put_some hB
    refine ⟨h1, hg.trans h2, fun y hy => ?_⟩
    rcases List.mem_cons.1 hy with rfl | hy
    · exact h2.2 _ _ hp
    · exact h3 y hy
theorem puts_none {l : List (Nat × Sx)} : ∀ {A : Row}, Inv N K nx A → (∀ x, x ∈ l → Rch nx x.1 x.2) → puts K A l = none → ¬ Ok N K nx := by
  induction l with
  | nil => intro A hI _ h; cases h
  | cons x l ih =>
    intro A hI hl h
    have hx := hl x List.mem_cons_self
    cases hB : put K A x with
    | none => exact put_none hI hx hB
    | some B =>
      refine ih (put_inv hI hx hB) (fun y hy => hl y (List.mem_cons_of_mem _ hy)) ?_
      have : (put K A x).bind (fun A' => puts K A' l) = none := h
      rw [hB] at this
      exact this
/-- Where nothing is left to do, what was found is what is reached, and it holds together. -/
theorem done_ok {A : Row} (hI : Inv N K nx A) (h : ∀ (a : Nat) (s : Sx), A[a]? = some (some s) → ∃ l, nx a s = some l ∧ ∀ x, x ∈ l → A[x.1]? = some (some x.2)) : Ok N K nx ∧ ∀ (a : Nat) (s : Sx), Rch nx a s ↔ A[a]? = some (some s) := by
  have key : ∀ (a : Nat) (s : Sx), Rch nx a s → A[a]? = some (some s) := by
    intro a s hr
    induction hr with
    | init => exact hI.zero
    | step h1 h2 h3 ih =>
      obtain ⟨l', e, hx⟩ := h _ _ ih
      rw [h2] at e; cases e
      exact hx _ h3
  refine ⟨⟨fun a s hr => ?_, fun a s t h1 h2 => ?_⟩, fun a s => ⟨key a s, fun e => (hI.rch a s e).1⟩⟩
  · have e := key a s hr
    obtain ⟨l, hl, _⟩ := h a s e
    refine ⟨?_, (hI.rch a s e).2, l, hl⟩
    have := (List.getElem?_eq_some_iff.1 e).1
    rw [hI.len] at this
    exact this
  · have := (key a s h1).symm.trans (key a t h2)
    simpa using this
/-- What a walk answers. -/
inductive Ans (N : Nat) (K : Int) (nx : Nat → Sx → Option (List (Nat × Sx))) : Option Row → Prop
  | yes {A : Row} : A.length = N → Ok N K nx → (∀ (a : Nat) (s : Sx), Rch nx a s ↔ A[a]? = some (some s)) → Ans N K nx (some A)
  | no : ¬ Ok N K nx → Ans N K nx none
theorem Ans.one {o o' : Option Row} (h : Ans N K nx o) (h' : Ans N K nx o') : o = o' := by
  cases h with
  | yes h1 h2 h3 =>
    cases h' with
    | yes k1 k2 k3 =>
      congr 1
      refine List.ext_getElem? fun a => ?_
      rename_i A B
      rcases Nat.lt_or_ge a N with hlt | hge
      · obtain ⟨x, hx⟩ : ∃ x, A[a]? = some x := ⟨A[a], List.getElem?_eq_getElem (by omega)⟩
        obtain ⟨y, hy⟩ : ∃ y, B[a]? = some y := ⟨B[a], List.getElem?_eq_getElem (by omega)⟩
        rw [hx, hy]
        cases x with
        | some s => have := (k3 a s).1 ((h3 a s).2 hx); rw [hy] at this; rw [← this]
        | none => cases y with
          | none => rfl
          | some s => have := (h3 a s).1 ((k3 a s).2 hy); rw [hx] at this; exact this
      · rw [List.getElem?_eq_none (by omega), List.getElem?_eq_none (by omega)]
    | no k => exact absurd h2 k
  | no h =>
    cases h' with
    | yes k1 k2 k3 => exact absurd k2 h
    | no k => rfl
end
end Go.Proofs.Ytkhdkepjhifffaa.VA
