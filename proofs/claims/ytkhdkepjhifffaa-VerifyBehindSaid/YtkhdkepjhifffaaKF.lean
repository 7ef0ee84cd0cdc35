/- A code's bytes, by the document: the walk. -/
import Derived.Test.YtkhdkepjhifffaaKE
namespace Go.Proofs.Ytkhdkepjhifffaa.KF
open Go.RowKit Go.Proofs.Ytkhdkepjhifffaa.RG Go.Proofs.Ytkhdkepjhifffaa.KA Go.Proofs.Ytkhdkepjhifffaa.KB Go.Proofs.Ytkhdkepjhifffaa.KC Go.Proofs.Ytkhdkepjhifffaa.KD Go.Proofs.Ytkhdkepjhifffaa.KE
set_option linter.unusedVariables false
set_option maxRecDepth 100000
set_option maxRecDepth 100000

theorem flat_le {α : Type} {f : α → By} {K : Nat} : ∀ (l : List α), (∀ x, x ∈ l → (f x).length ≤ K) → (l.flatMap f).length ≤ K * l.length
  | [], _ => Nat.le_refl _
  | a :: l, h => by
    have h1 := h a List.mem_cons_self
    have h2 := flat_le l fun x hx => h x (List.mem_cons_of_mem _ hx)
    rw [List.flatMap_cons, List.length_append, List.length_cons, Nat.mul_succ]; omega
theorem flat_take_le {α : Type} {f : α → By} {K : Nat} {l : List α} (i : Nat) (h : ∀ x, x ∈ l → (f x).length ≤ K) : ((l.take i).flatMap f).length ≤ K * l.length := by
  have h1 := flat_le (l.take i) fun x hx => h x (List.mem_of_mem_take hx)
  have h2 : K * (l.take i).length ≤ K * l.length := Nat.mul_le_mul_left _ (by rw [List.length_take]; omega)
  omega
theorem flat_snoc {α : Type} {f : α → By} {l : List α} {i : Nat} {x : α} (h : l[i]? = some x) : (l.take (i + 1)).flatMap f = (l.take i).flatMap f ++ f x := by
  rw [List.take_add_one, h, List.flatMap_append]
  simp
structure Facts (c : Cd) : Prop where
  funs : c.funs.length ≤ 120
  ints : c.ints.length ≤ 120
  texts : c.texts.length ≤ 120
  lets0 : 0 ≤ c.lets
  lets1 : c.lets ≤ 60
  eint : ∀ n, n ∈ c.ints → -4611686018427387904 ≤ n ∧ n ≤ 4611686018427387903
  etext : ∀ s, s ∈ c.texts → s.length ≤ 60
  efun : ∀ f, f ∈ c.funs → (0 ≤ f.kept ∧ f.kept ≤ 59) ∧ (0 ≤ f.locals ∧ f.locals ≤ 60) ∧ (1 ≤ f.stack ∧ f.stack ≤ 60) ∧ f.code.length ≤ 400 ∧ ∀ i, i ∈ f.code → (0 ≤ i.op ∧ i.op ≤ 33) ∧ (0 ≤ i.a ∧ i.a ≤ 65535) ∧ 0 ≤ i.b ∧ i.b ≤ 65535
theorem ins_facts {i : In} (h : insOk i = true) : (0 ≤ i.op ∧ i.op ≤ 33) ∧ (0 ≤ i.a ∧ i.a ≤ 65535) ∧ 0 ≤ i.b ∧ i.b ≤ 65535 := by
  unfold insOk at h
  simp only [Bool.and_eq_true, Bool.not_eq_true', Bool.or_eq_false_iff, decide_eq_false_iff_not] at h
  obtain ⟨⟨⟨⟨⟨h1, h2⟩, h3⟩, h4⟩, h5⟩, _⟩ := h
  have hop : ¬ (i.op < 1 ∨ 33 < i.op) := fun hx => h1 (by unfold uses; rw [if_pos hx]; decide)
  omega
theorem may_facts {c : Cd} (h : mayB c = true) : Facts c := by
  unfold mayB headOk at h
  simp only [Bool.and_eq_true, decide_eq_true_eq] at h
  obtain ⟨⟨⟨⟨⟨⟨⟨⟨h1, h2⟩, h3⟩, h4⟩, h5⟩, h6⟩, h7⟩, h8⟩, h9⟩ := h
  refine ⟨h2, h3, h4, h5, h6, fun n hn => ?_, fun s hs => ?_, fun f hf => ?_⟩
  · have := List.all_eq_true.1 h7 n hn
    simpa [intOk] using this
  · have := List.all_eq_true.1 h8 s hs
    simpa [textOk] using this
  · have := List.all_eq_true.1 h9 f hf
    unfold bodyOk at this
    simp only [Bool.and_eq_true, decide_eq_true_eq] at this
    obtain ⟨⟨⟨⟨⟨⟨⟨⟨a1, a2⟩, a3⟩, a4⟩, a5⟩, a6⟩, a7⟩, a8⟩, a9⟩ := this
    exact ⟨⟨a1, a2⟩, ⟨a3, a4⟩, ⟨a5, a6⟩, a8, fun i hi => ins_facts (List.all_eq_true.1 a9 i hi)⟩
theorem encBd_len (f : Bd) : (encBd f).length = 5 + 5 * f.code.length := by
  have h : ∀ l : List In, (l.flatMap encIn).length = 5 * l.length := by
    intro l
    induction l with
    | nil => rfl
    | cons a l ih => rw [List.flatMap_cons, List.length_append, ih]; simp [encIn, leK_len]; omega
  unfold encBd
  rw [List.length_append, List.length_append, h, leK_len]
  simp
/-- The parts of a code's bytes. -/
def pre1 (c : Cd) (i : Nat) : By := [83, 77, 49, by1 c.lets, by1 (c.ints.length : Int)] ++ (c.ints.take i).flatMap (leK 8)
def pre2 (c : Cd) (i : Nat) : By := pre1 c c.ints.length ++ [by1 (c.texts.length : Int)] ++ (c.texts.take i).flatMap encTx
def pre3 (c : Cd) (i : Nat) : By := pre2 c c.texts.length ++ [by1 (c.funs.length : Int)] ++ (c.funs.take i).flatMap encBd
def pre4 (c : Cd) (i : Nat) (f : Bd) (j : Nat) : By := pre3 c i ++ ([by1 f.kept, by1 f.locals, by1 f.stack] ++ leK 2 (f.code.length : Int)) ++ (f.code.take j).flatMap encIn
theorem pre1_le {c : Cd} (h : Facts c) (i : Nat) : (pre1 c i).length ≤ 1000 := by
  have h1 := flat_take_le (f := leK 8) (K := 8) (l := c.ints) i fun x _ => by rw [leK_len]; exact Nat.le_refl _
  have h2 := h.ints
  unfold pre1
  rw [List.length_append]
  simp only [List.length_cons, List.length_nil]
  omega
theorem pre2_le {c : Cd} (h : Facts c) (i : Nat) : (pre2 c i).length ≤ 9000 := by
  have h1 := flat_take_le (f := encTx) (K := 61) (l := c.texts) i fun x hx => by have := h.etext x hx; simp [encTx]; omega
  have h2 := h.texts
  have h3 := pre1_le h c.ints.length
  unfold pre2
  rw [List.length_append, List.length_append]
  simp only [List.length_cons, List.length_nil]
  omega
theorem pre3_le {c : Cd} (h : Facts c) (i : Nat) : (pre3 c i).length ≤ 300000 := by
  have h1 := flat_take_le (f := encBd) (K := 2005) (l := c.funs) i fun x hx => by have := (h.efun x hx).2.2.2.1; rw [encBd_len]; omega
  have h2 := h.funs
  have h3 := pre2_le h c.texts.length
  unfold pre3
  rw [List.length_append, List.length_append]
  simp only [List.length_cons, List.length_nil]
  omega
theorem pre4_le {c : Cd} (h : Facts c) (i : Nat) {f : Bd} (hf : f.code.length ≤ 400) (j : Nat) : (pre4 c i f j).length ≤ 310000 := by
  have h1 := flat_take_le (f := encIn) (K := 5) (l := f.code) j fun x hx => by simp [encIn, leK_len]
  have h3 := pre3_le h i
  unfold pre4
  rw [List.length_append, List.length_append, List.length_append, leK_len]
  simp only [List.length_cons, List.length_nil]
  omega
theorem pre_all (c : Cd) : pre3 c c.funs.length = enc c := by
  unfold pre3 pre2 pre1 enc
  rw [List.take_length, List.take_length, List.take_length]
/-- One byte in a block. -/
theorem rowB1 {w : World} {S : Nat → Prop} {n : Int} (h0 : 0 ≤ n) (h1 : n < 256) : RowR TB (w.alloc (.cells #[.int .u8 n] 5)) S (.slice (some ⟨w.heap.size, 0, none⟩) 1 1) [by1 n] :=
  rowR_new (q := []) #[.int .u8 n] 5 (by show [Value.int .u8 ((by1 n).toNat : Int)] = _; rw [by1_nat h0 h1]) rfl
theorem str_cells (s : By) : Lib.strCells ⟨s.toArray⟩ = bvs s := by unfold Lib.strCells bvs; simp
theorem ownB_base {w : World} {B B' : Nat} {v : Value} {l : By} (hB : B' ≤ B) (h : OwnB w B v l) : OwnB w B' v l := by
  obtain ⟨qs, ⟨h1, h2⟩, h3⟩ := h
  refine ⟨qs, ⟨h1, ?_⟩, h3⟩
  rcases h2 with h2 | ⟨g, cap, cur, hv, hg, r⟩
  · exact .inl h2
  · exact .inr ⟨g, cap, cur, hv, Nat.le_trans hB hg, r⟩
def EncRes (c : Cd) (w : World) (e : Ending) (w' : World) : Prop :=
  (mayB c = true ∧ ∃ v', e = .returned (.tuple #[v', .int .i64 0]) ∧ OwnB w' w.heap.size v' (enc c) ∧ Below w.heap.size w w') ∨ (mayB c = false ∧ e = .returned (.tuple #[.slice none 0 0, .int .i64 1]) ∧ Below w.heap.size w w')
end Go.Proofs.Ytkhdkepjhifffaa.KF