/- More constants, texts, lets and functions: plainly and in memory. -/
import Derived.Test.YtkhdkepjhifffaaWC
import Derived.Test.YtkhdkepjhifffaaVU
namespace Go.Proofs.Ytkhdkepjhifffaa.WD
open Go.RowKit Go.Proofs.Ytkhdkepjhifffaa.RG Go.Proofs.Ytkhdkepjhifffaa.RB Go.Proofs.Ytkhdkepjhifffaa.KA Go.Proofs.Ytkhdkepjhifffaa.KB Go.Proofs.Ytkhdkepjhifffaa.KH Go.Proofs.Ytkhdkepjhifffaa.KI Go.Proofs.Ytkhdkepjhifffaa.WA Go.Proofs.Ytkhdkepjhifffaa.VA Go.Proofs.Ytkhdkepjhifffaa.VO Go.Proofs.Ytkhdkepjhifffaa.VP Go.Proofs.Ytkhdkepjhifffaa.VX
set_option linter.unusedVariables false
set_option maxRecDepth 100000
set_option maxRecDepth 100000

/-! ## Plainly -/
def lN : List In := [⟨3, 0, 0⟩, ⟨15, 0, 0⟩]
def nb : Bd := ⟨0, 1, 1, lN⟩
def moreCd (c : Cd) (n : Int) (s : By) : Cd := ⟨c.funs ++ [nb], c.ints ++ [n], c.texts ++ [s], c.lets + 1⟩
theorem right_more {c : Cd} {k : Int} {s : By} {n : Nat} {f : Bd} {i : In} (h : rightB c n f i = true) : rightB (moreCd c k s) n f i = true := by
  unfold rightB at h ⊢
  have hi : (moreCd c k s).ints.length = c.ints.length + 1 := by simp [moreCd]
  have ht : (moreCd c k s).texts.length = c.texts.length + 1 := by simp [moreCd]
  have hf : (moreCd c k s).funs.length = c.funs.length + 1 := by simp [moreCd]
  have hl : (moreCd c k s).lets = c.lets + 1 := rfl
  have hk : ∀ x : Nat, c.funs[x]?.map Bd.kept = some i.b → (moreCd c k s).funs[x]?.map Bd.kept = some i.b := fun x hx => by
    cases e : c.funs[x]? with
    | none => rw [e] at hx; cases hx
    | some y =>
      show (c.funs ++ [nb])[x]?.map Bd.kept = _
      rw [List.getElem?_append_left (List.getElem?_eq_some_iff.1 e).1]
      exact hx
  rw [hi, ht, hf, hl]
  by_cases c1 : i.op = 1
  · rw [if_pos c1] at h ⊢; simp only [decide_eq_true_eq] at h ⊢; omega
  rw [if_neg c1] at h ⊢
  by_cases c2 : i.op = 2
  · rw [if_pos c2] at h ⊢; simp only [decide_eq_true_eq] at h ⊢; omega
  rw [if_neg c2] at h ⊢
  by_cases c3 : i.op = 3
  · rw [if_pos c3] at h ⊢; exact h
  rw [if_neg c3] at h ⊢
  by_cases c4 : i.op = 4
  · rw [if_pos c4] at h ⊢; exact h
  rw [if_neg c4] at h ⊢
  by_cases c5 : i.op = 5
  · rw [if_pos c5] at h ⊢; exact h
  rw [if_neg c5] at h ⊢
  by_cases c6 : i.op = 6
  · rw [if_pos c6] at h ⊢; simp only [decide_eq_true_eq] at h ⊢; omega
  rw [if_neg c6] at h ⊢
  by_cases c7 : i.op = 7
  · rw [if_pos c7] at h ⊢; exact h
  rw [if_neg c7] at h ⊢
  by_cases c8 : i.op = 8
  · rw [if_pos c8] at h ⊢; simp only [decide_eq_true_eq] at h ⊢; omega
  rw [if_neg c8] at h ⊢
  by_cases c10 : i.op = 10
  · rw [if_pos c10] at h ⊢; exact h
  rw [if_neg c10] at h ⊢
  by_cases c11 : i.op = 11
  · rw [if_pos c11] at h ⊢
    simp only [Bool.and_eq_true, decide_eq_true_eq] at h ⊢
    exact ⟨⟨h.1.1, by omega⟩, hk _ h.2⟩
  rw [if_neg c11] at h ⊢
  exact h
theorem goes_more {c : Cd} {k : Int} {t : By} {n : Nat} {f : Bd} {a : Nat} {s : Sx} {l : List (Nat × Sx)} (h : goes c n f a s = some l) : goes (moreCd c k t) n f a s = some l := by
  unfold goes at h ⊢
  cases hc : f.code[a]? with
  | none => rw [hc] at h; cases h
  | some i =>
    rw [hc] at h
    dsimp only at h ⊢
    split at h
    · next hr => rw [if_pos ⟨right_more hr.1, hr.2⟩]; exact h
    · cases h
theorem ok_more {N : Nat} {K : Int} {nx nx' : Nat → Sx → Option (List (Nat × Sx))} (h : Ok N K nx) (hm : ∀ a s l, nx a s = some l → nx' a s = some l) : Ok N K nx' := by
  have key : ∀ a s, Rch nx' a s → Rch nx a s := fun a s hr => by
    induction hr with
    | init => exact .init
    | step h1 h2 h3 ih =>
      obtain ⟨_, _, l0, hl0⟩ := h.1 _ _ ih
      have := hm _ _ _ hl0
      rw [h2] at this
      cases this
      exact .step ih hl0 h3
  refine ⟨fun a s hr => ?_, fun a s t h1 h2 => h.2 a s t (key a s h1) (key a t h2)⟩
  obtain ⟨h1, h2, l, hl⟩ := h.1 a s (key a s hr)
  exact ⟨h1, h2, l, hm a s l hl⟩
theorem gN0 (c : Cd) (n : Nat) : goes c n nb 0 VA.start = some [(1, ⟨1, []⟩)] := rfl
theorem gN1 (c : Cd) (n : Nat) : goes c n nb 1 ⟨1, []⟩ = some [] := rfl
theorem ansN (c : Cd) (n : Nat) : Ok 2 1 (goes c n nb) := by
  have r1 : Rch (goes c n nb) 1 ⟨1, []⟩ := .step (x := (1, ⟨1, []⟩)) .init (gN0 c n) (by simp)
  have hI : Go.Proofs.Ytkhdkepjhifffaa.VA.Inv 2 1 (goes c n nb) Go.Proofs.Ytkhdkepjhifffaa.VU.rA := ⟨rfl, Go.Proofs.Ytkhdkepjhifffaa.VU.row_two (P := fun a s => Rch (goes c n nb) a s ∧ s.dep ≤ 1) ⟨.init, by decide⟩ ⟨r1, by decide⟩, rfl⟩
  exact (done_ok hI (Go.Proofs.Ytkhdkepjhifffaa.VU.row_two (P := fun a s => ∃ l, goes c n nb a s = some l ∧ ∀ x, x ∈ l → Go.Proofs.Ytkhdkepjhifffaa.VU.rA[x.1]? = some (some x.2)) ⟨_, gN0 c n, fun x hx => by rw [List.mem_singleton.1 hx]; rfl⟩ ⟨_, gN1 c n, fun x hx => by cases hx⟩)).1
theorem all_more {c : Cd} {k : Int} {s : By} (h : AllOk c) : AllOk (moreCd c k s) := by
  intro n f hf
  have hf' : (c.funs ++ [nb])[n]? = some f := hf
  rw [List.getElem?_append] at hf'
  split at hf'
  · exact ok_more (h n f hf') fun a s l hl => goes_more hl
  · rw [List.getElem?_singleton] at hf'
    split at hf'
    · cases hf'; exact ansN _ n
    · cases hf'
theorem may_more {c : Cd} {k : Int} {s : By} (h : mayB c = true) (hf : c.funs.length ≤ 6) (hi : c.ints.length ≤ 6) (ht : c.texts.length ≤ 6) (hl : c.lets ≤ 50) (h1 : -4611686018427387904 ≤ k) (h2 : k ≤ 4611686018427387903) (hs : s.length ≤ 60) : mayB (moreCd c k s) = true := by
  unfold mayB headOk at h ⊢
  simp only [Bool.and_eq_true, decide_eq_true_eq] at h ⊢
  obtain ⟨⟨⟨⟨⟨⟨⟨⟨a1, a2⟩, a3⟩, a4⟩, a5⟩, a6⟩, b1⟩, b2⟩, b3⟩ := h
  refine ⟨⟨⟨⟨⟨⟨⟨⟨?_, ?_⟩, ?_⟩, ?_⟩, ?_⟩, ?_⟩, ?_⟩, ?_⟩, ?_⟩
  · simp [moreCd]
  · simp [moreCd]; omega
  · simp [moreCd]; omega
  · simp [moreCd]; omega
  · show 0 ≤ c.lets + 1; omega
  · show c.lets + 1 ≤ 60; omega
  · show (c.ints ++ [k]).all intOk = true
    rw [List.all_append, b1]
    simp [intOk, h1, h2]
  · show (c.texts ++ [s]).all textOk = true
    rw [List.all_append, b2]
    simp [textOk, hs]
  · show (c.funs ++ [nb]).all bodyOk = true
    rw [List.all_append, b3]
    decide
theorem code_more {c : Cd} {k : Int} {s : By} (h : codeN c = 0) (hf : c.funs.length ≤ 6) (hi : c.ints.length ≤ 6) (ht : c.texts.length ≤ 6) (hl : c.lets ≤ 50) (h1 : -4611686018427387904 ≤ k) (h2 : k ≤ 4611686018427387903) (hs : s.length ≤ 60) : codeN (moreCd c k s) = 0 := by
  obtain ⟨hm, ha⟩ := codeN_zero h
  exact codeN_yes (may_more hm hf hi ht hl h1 h2 hs) (all_more ha)
theorem six (c : Cd) : (cutCd c).funs.length ≤ 6 ∧ (cutCd c).ints.length ≤ 6 ∧ (cutCd c).texts.length ≤ 6 := ⟨by simp [cutCd]; omega, by simp [cutCd]; omega, by simp [cutCd]; omega⟩
theorem few_more {c : Cd} {k : Int} {s : By} (h : ∀ f, f ∈ c.funs → f.code.length ≤ 1000) (hf : c.funs.length ≤ 6) (hi : c.ints.length ≤ 6) (ht : c.texts.length ≤ 6) :
    (moreCd c k s).funs.length ≤ 100000 ∧ (moreCd c k s).ints.length ≤ 100000 ∧ (moreCd c k s).texts.length ≤ 100000 ∧ ∀ f, f ∈ (moreCd c k s).funs → f.code.length ≤ 100000 := by
  refine ⟨by simp [moreCd]; omega, by simp [moreCd]; omega, by simp [moreCd]; omega, fun f hx => ?_⟩
  have hx : f ∈ c.funs ++ [nb] := hx
  rcases List.mem_append.1 hx with hx | hx
  · exact Nat.le_trans (h f hx) (by decide)
  · rw [List.mem_singleton.1 hx]; decide

/-! ## In memory: what becomes more leaves rows of other types as they are -/
theorem flat_typ {α : Type} {R : Ty Try.prog α} {w w' : World} {B : Nat} {v : Value} {L : List α} {row : Option Nat} (h : OwnF R w B v L) (hg : w.grownBy w' row) (hr : ∀ b, row = some b → ∃ cur e, Bk w b cur e ∧ e ≠ R.e) : OwnF R w' B v L := by
  have hb := fun b e => own_blk (b := b) h e
  obtain ⟨qs, h1, h3⟩ := h
  refine ⟨qs, h1.kept hg ?_, Hs.mv ⟨hg.size, fun b hb' _ => hb'.1.elim⟩ _ _ h3⟩
  cases e : v.ownBlock with
  | none => exact .inl rfl
  | some b =>
    refine .inr fun e' => ?_
    obtain ⟨cur, k, _⟩ := hb b e
    obtain ⟨cur', e2, k', hne⟩ := hr b e'.symm
    unfold Bk at k k'
    rw [k] at k'
    injection k' with k'
    injection k' with _ k'
    exact hne k'.symm
theorem Hs_map {w w' : World} {S : Nat → Prop} (hm : ∀ a qs, hasG w S a qs → hasG w' S a qs) : ∀ (L : List Bg) (qs : List (List Value)), Hs TG w S L qs → Hs TG w' S L qs
  | [], [], _ => trivial
  | a :: L, q :: qs, h => ⟨hm a q h.1, Hs_map hm L qs h.2⟩
  | [], _ :: _, h => h
  | _ :: _, [], h => h
theorem own_typ {w w' : World} {B : Nat} {T : Nat → Prop} {v : Value} {L : List Bg} {row : Option Nat} (h : OwnR TG w B T v L) (hg : w.grownBy w' row) (hr : ∀ b, row = some b → ∃ cur e, Bk w b cur e ∧ e ≠ TG.e ∧ e ≠ TN.e) : OwnR TG w' B T v L := by
  have hb := fun b e => own_blk (b := b) h e
  obtain ⟨qs, h1, h3⟩ := h
  refine ⟨qs, h1.kept hg ?_, Hs_map (fun a q ha => ?_) L qs h3⟩
  · cases e : v.ownBlock with
    | none => exact .inl rfl
    | some b =>
      refine .inr fun e' => ?_
      obtain ⟨cur, k, _⟩ := hb b e
      obtain ⟨cur', e2, k', hne, _⟩ := hr b e'.symm
      unfold Bk at k k'
      rw [k] at k'
      injection k' with k'
      injection k' with _ k'
      exact hne k'.symm
  · obtain ⟨q1, rfl, h4, h5⟩ := ha
    exact ⟨q1, rfl, flat_typ h4 hg (fun b e => by
      obtain ⟨cur, e2, k, _, hne⟩ := hr b e
      exact ⟨cur, e2, k, hne⟩), h5⟩
theorem blk_typ {α : Type} {R : Ty Try.prog α} {w : World} {B : Nat} {T : Nat → Prop} {v : Value} {L : List α} (h : OwnR R w B T v L) (P : TypeId → Prop) (hp : P R.e) : ∀ b, v.ownBlock = some b → ∃ cur e, Bk w b cur e ∧ P e := fun b e => by
  obtain ⟨cur, k, _⟩ := own_blk h e
  exact ⟨cur, _, k, hp⟩
/-- The new function's literal. -/
theorem lit_row (W : World) {S : Nat → Prop} (hS : S W.heap.size) : RowR TF ((W.alloc (.cells #[.int .i64 3, .int .i64 0, .int .i64 0, .int .i64 15, .int .i64 0, .int .i64 0] 45)).alloc (.cells #[.int .i64 0, .int .i64 1, .int .i64 1, .slice (some ⟨W.heap.size, 0, none⟩) 2 2] 49)) S (.slice (some ⟨W.heap.size + 1, 0, none⟩) 1 1) [nb] := by
  have k1 : Bk ((W.alloc (.cells #[.int .i64 3, .int .i64 0, .int .i64 0, .int .i64 15, .int .i64 0, .int .i64 0] 45)).alloc (.cells #[.int .i64 0, .int .i64 1, .int .i64 1, .slice (some ⟨W.heap.size, 0, none⟩) 2 2] 49)) W.heap.size _ _ := (Bk.new W _ _).alloc _
  have k2 : Bk ((W.alloc (.cells #[.int .i64 3, .int .i64 0, .int .i64 0, .int .i64 15, .int .i64 0, .int .i64 0] 45)).alloc (.cells #[.int .i64 0, .int .i64 1, .int .i64 1, .slice (some ⟨W.heap.size, 0, none⟩) 2 2] 49)) (W.heap.size + 1) _ _ := Go.Proofs.Ytkhdkepjhifffaa.PE.new_at _ _ _ (by simp)
  refine rowR_block (q := [.slice (some ⟨W.heap.size, 0, none⟩) 2 2]) k2 rfl ⟨_, [[], []], rfl, ?_, ⟨rfl, rfl, trivial⟩⟩
  refine ⟨_, _, rfl, Nat.le_refl _, .inr ⟨_, 0, rfl, ⟨hS, k1.lt⟩, fun j u hj => ?_⟩⟩
  rw [Nat.zero_add, cell_of_row _ _ _ _ _ (0, 0) k1, ← Array.getElem?_toList]
  exact hj
end Go.Proofs.Ytkhdkepjhifffaa.WD
