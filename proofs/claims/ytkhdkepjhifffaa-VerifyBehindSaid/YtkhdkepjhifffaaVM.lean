/- How a walk goes on, plainly: what is left to do, how many marks a state has, and what it means that nothing is left. -/
import Derived.Test.YtkhdkepjhifffaaVF
namespace Go.Proofs.Ytkhdkepjhifffaa.VM
open Go.Proofs.Ytkhdkepjhifffaa.KA Go.Proofs.Ytkhdkepjhifffaa.VA Go.Proofs.Ytkhdkepjhifffaa.VE Go.Proofs.Ytkhdkepjhifffaa.VF
set_option linter.unusedVariables false
set_option maxRecDepth 100000

/-- A state whose numbers are small. -/
def Gd (M : Nat) (K : Int) (s : Sx) : Prop := 0 ≤ s.dep ∧ s.ms.length ≤ M ∧ ∀ m, m ∈ s.ms → 0 ≤ m.dep ∧ m.dep ≤ K
theorem gd_start (M : Nat) (K : Int) : Gd M K VA.start := ⟨Int.le_refl _, Nat.zero_le _, fun m h => by cases h⟩
theorem gd_up {M M' : Nat} {K : Int} {s : Sx} (h : Gd M K s) (hM : M ≤ M') : Gd M' K s := ⟨h.1, Nat.le_trans h.2.1 hM, h.2.2⟩
theorem base_gd {M : Nat} {K : Int} {s : Sx} (h : Gd M K s) (hK : 0 ≤ K) : 0 ≤ base s ∧ base s ≤ K := by
  unfold base
  split
  · next m hm => exact h.2.2 m (List.mem_of_getLast? hm)
  · omega
theorem leaves_gd {i : In} {a : Nat} {t : Sx} {l : List (Nat × Sx)} {M : Nat} {K : Int} (h : leaves i a t = some l) (ht : Gd M K t) (hK : t.dep ≤ K ∨ (i.op ≠ 21 ∧ i.op ≠ 28 ∧ i.op ≠ 26)) : ∀ x, x ∈ l → Gd (M + 1) K x.2 := by
  have hw : ∀ k : Int, t.dep ≤ K → Gd (M + 1) K (withM k t) := fun k hk => ⟨ht.1, by unfold withM; simp; exact ht.2.1, fun m hm => by
    unfold withM at hm
    simp only [List.mem_append, List.mem_singleton] at hm
    rcases hm with hm | rfl
    · exact ht.2.2 m hm
    · exact ⟨ht.1, hk⟩⟩
  have h0 : Gd (M + 1) K t := gd_up ht (Nat.le_succ _)
  have hd : Gd (M + 1) K ⟨t.dep, t.ms.dropLast⟩ := ⟨ht.1, by have := ht.2.1; simp; omega, fun m hm => ht.2.2 m ((List.dropLast_sublist _).subset hm)⟩
  have h1 : ∀ {s : Nat × Sx}, Gd (M + 1) K s.2 → some [s] = some l → ∀ x, x ∈ l → Gd (M + 1) K x.2 := fun hs e x hx => by
    cases e
    rw [List.mem_singleton.1 hx]
    exact hs
  have h2 : ∀ {s u : Nat × Sx}, Gd (M + 1) K s.2 → Gd (M + 1) K u.2 → some [s, u] = some l → ∀ x, x ∈ l → Gd (M + 1) K x.2 := fun hs hu e x hx => by
    cases e
    simp only [List.mem_cons, List.not_mem_nil, or_false] at hx
    rcases hx with rfl | rfl
    · exact hs
    · exact hu
  have hnil : some ([] : List (Nat × Sx)) = some l → ∀ x, x ∈ l → Gd (M + 1) K x.2 := fun e x hx => by cases e; cases hx
  have hno : (none : Option (List (Nat × Sx))) = some l → ∀ x, x ∈ l → Gd (M + 1) K x.2 := fun e => by cases e
  unfold leaves at h
  by_cases c1 : i.op = 14 ∨ i.op = 15
  · rw [if_pos c1] at h
    by_cases c : t.ms = []
    · rw [if_pos c] at h; exact hnil h
    · rw [if_neg c] at h; exact hno h
  rw [if_neg c1] at h
  by_cases c2 : i.op = 23 ∨ i.op = 30
  · rw [if_pos c2] at h; exact hnil h
  rw [if_neg c2] at h
  by_cases c3 : i.op = 16
  · rw [if_pos c3] at h; exact h1 h0 h
  rw [if_neg c3] at h
  by_cases c4 : i.op = 17
  · rw [if_pos c4] at h; exact h2 h0 h0 h
  rw [if_neg c4] at h
  by_cases c5 : i.op = 18
  · rw [if_pos c5] at h; exact h2 h0 h0 h
  rw [if_neg c5] at h
  by_cases c6 : i.op = 21
  · rw [if_pos c6] at h
    exact h2 (hw 21 (hK.resolve_right fun e => e.1 c6)) ⟨by have := ht.1; show 0 ≤ t.dep + 1; omega, h0.2.1, ht.2.2⟩ h
  rw [if_neg c6] at h
  by_cases c7 : i.op = 28
  · rw [if_pos c7] at h
    exact h2 (hw 28 (hK.resolve_right fun e => e.2.1 c7)) h0 h
  rw [if_neg c7] at h
  by_cases c8 : i.op = 26
  · rw [if_pos c8] at h
    split at h
    · exact hno h
    · exact h1 (hw 26 (hK.resolve_right fun e => e.2.2 c8)) h
  rw [if_neg c8] at h
  by_cases c9 : i.op = 22
  · rw [if_pos c9] at h
    split at h
    · exact h1 hd h
    · exact hno h
  rw [if_neg c9] at h
  by_cases c10 : i.op = 27
  · rw [if_pos c10] at h
    split at h
    · exact h1 hd h
    · exact hno h
  rw [if_neg c10] at h
  by_cases c11 : i.op = 29
  · rw [if_pos c11] at h
    split at h
    · exact h1 hd h
    · exact hno h
  rw [if_neg c11] at h
  exact h1 h0 h
theorem goes_gd {c : Cd} {n : Nat} {f : Bd} {a : Nat} {s : Sx} {l : List (Nat × Sx)} {M : Nat} {K : Int} (h : goes c n f a s = some l) (hs : Gd M K s) (hK : s.dep ≤ K) (hK0 : 0 ≤ K) : ∀ x, x ∈ l → Gd (M + 1) K x.2 := by
  unfold goes at h
  split at h
  · cases h
  · next i hi =>
    split at h
    · next hg =>
      have hb := base_gd hs hK0
      have hp : 0 ≤ putsN i.op := by unfold putsN; split <;> decide
      refine leaves_gd h ⟨?_, hs.2.1, hs.2.2⟩ ?_
      · show 0 ≤ s.dep - takesN i + putsN i.op
        omega
      · by_cases h1 : i.op = 21 ∨ i.op = 28 ∨ i.op = 26
        · left
          have e1 : takesN i = 0 := by unfold takesN; rcases h1 with h1 | h1 | h1 <;> simp [h1]
          have e2 : putsN i.op = 0 := by unfold putsN; rcases h1 with h1 | h1 | h1 <;> simp [h1]
          show s.dep - takesN i + putsN i.op ≤ K
          omega
        · right
          refine ⟨fun e => h1 (.inl e), fun e => h1 (.inr (.inl e)), fun e => h1 (.inr (.inr e))⟩
    · cases h
/-- How many places have no state. -/
def left : Row → Nat
  | [] => 0
  | none :: A => left A + 1
  | some _ :: A => left A
theorem left_set : ∀ {A : Row} {i : Nat} {s : Sx}, A[i]? = some none → left (A.set i (some s)) + 1 = left A
  | [], i, s, h => by simp at h
  | none :: A, 0, s, h => rfl
  | some _ :: A, 0, s, h => by simp at h
  | none :: A, i + 1, s, h => by
    show left (A.set i (some s)) + 1 + 1 = left A + 1
    rw [left_set (by simpa using h)]
  | some _ :: A, i + 1, s, h => by
    show left (A.set i (some s)) + 1 = left A
    exact left_set (by simpa using h)
theorem left_rep : ∀ n : Nat, left (List.replicate n none) = n
  | 0 => rfl
  | n + 1 => by show left (List.replicate n none) + 1 = n + 1; rw [left_rep n]
theorem put_left {K : Int} {A A' : Row} {O : List Nat} {x : Nat × Sx} (h : put K A x = some A') : left A' + (addO A O x).length = left A + O.length ∧ (∀ a, a ∈ O → a ∈ addO A O x) ∧ (∀ (a : Nat) (s : Sx), A'[a]? = some (some s) → A[a]? = some (some s) ∨ a ∈ addO A O x) ∧ ∀ a, a ∈ addO A O x → a ∈ O ∨ A'[a]? = some (some x.2) ∧ a = x.1 := by
  obtain ⟨_, hx, _, hback⟩ := put_some h
  unfold put at h
  split at h
  · cases h
  · next o ho =>
    split at h
    · cases h
    · split at h
      · cases h
        have e : addO A O x = O ++ [x.1] := by unfold addO; rw [if_pos ho]
        rw [e]
        refine ⟨?_, fun a ha => List.mem_append_left _ ha, fun a s hs => ?_, fun a ha => ?_⟩
        · rw [List.length_append]; have := left_set (s := x.2) ho; simp; omega
        · rcases hback a s hs with h1 | h1
          · exact .inl h1
          · right; rw [← h1]; simp
        · simp only [List.mem_append, List.mem_singleton] at ha
          rcases ha with ha | ha
          · exact .inl ha
          · exact .inr ⟨by rw [ha]; exact hx, ha⟩
      · next s =>
        split at h
        · cases h
          have e : addO A O x = O := by unfold addO; rw [if_neg (by rw [ho]; simp)]
          rw [e]
          exact ⟨rfl, fun a ha => ha, fun a s hs => .inl hs, fun a ha => .inl ha⟩
        · cases h
theorem putsO_all {K : Int} : ∀ {l : List (Nat × Sx)} {A A' : Row} {O O' : List Nat}, putsO K A O l = some (A', O') → puts K A l = some A' ∧ left A' + O'.length = left A + O.length ∧ (∀ a, a ∈ O → a ∈ O') ∧ (∀ (a : Nat) (s : Sx), A'[a]? = some (some s) → A[a]? = some (some s) ∨ a ∈ O') ∧ Gr A A' ∧ ∀ a, a ∈ O' → a ∈ O ∨ ∃ s, A'[a]? = some (some s)
  | [], A, A', O, O', h => by cases h; exact ⟨rfl, rfl, fun a ha => ha, fun a s hs => .inl hs, Gr.refl _, fun a ha => .inl ha⟩
  | x :: l, A, A', O, O', h => by
    obtain ⟨B, hB, h⟩ := Option.bind_eq_some_iff.1 (show (put K A x).bind (fun A' => putsO K A' (addO A O x) l) = some (A', O') from h)
    obtain ⟨h1, h2, h3, h4, h5, h6⟩ := putsO_all h
    obtain ⟨k1, k2, k3, k4⟩ := put_left (O := O) hB
    refine ⟨?_, h2.trans k1, fun a ha => h3 a (k2 a ha), fun a s hs => ?_, (put_some hB).1.trans h5, fun a ha => ?_⟩
    · show (put K A x).bind (fun A' => puts K A' l) = some A'
      rw [hB]
      exact h1
    · rcases h4 a s hs with e | e
      · rcases k3 a s e with e | e
        · exact .inl e
        · exact .inr (h3 a e)
      · exact .inr e
    · rcases h6 a ha with e | e
      · rcases k4 a e with e | ⟨e, _⟩
        · exact .inl e
        · exact .inr ⟨_, h5.2 _ _ e⟩
      · exact .inr e
theorem putsO_none {K : Int} : ∀ {l : List (Nat × Sx)} {A : Row} {O : List Nat}, putsO K A O l = none → puts K A l = none
  | [], A, O, h => by cases h
  | x :: l, A, O, h => by
    have h : (put K A x).bind (fun A' => putsO K A' (addO A O x) l) = none := h
    show (put K A x).bind (fun A' => puts K A' l) = none
    cases hB : put K A x with
    | none => rfl
    | some B => rw [hB] at h; exact putsO_none h
/-- What a walk has when some instructions are still to be gone on from. -/
structure St (N : Nat) (K : Int) (nx : Nat → Sx → Option (List (Nat × Sx))) (A : Row) (D : Nat → Prop) : Prop where
  inv : Inv N K nx A
  cls : ∀ (a : Nat) (s : Sx), A[a]? = some (some s) → D a ∨ ∃ l, nx a s = some l ∧ ∀ x, x ∈ l → A[x.1]? = some (some x.2)
theorem st_next {N : Nat} {K : Int} {nx : Nat → Sx → Option (List (Nat × Sx))} {A A' : Row} {D D' : Nat → Prop} {a : Nat} {s : Sx} {l : List (Nat × Sx)} (h : St N K nx A D) (hA : A[a]? = some (some s)) (hl : nx a s = some l) (hp : puts K A l = some A')
    (hD : ∀ b, D b → b ≠ a → D' b) (hN : ∀ (b : Nat) (t : Sx), A'[b]? = some (some t) → A[b]? = some (some t) ∨ D' b) : St N K nx A' D' := by
  have hr : ∀ x, x ∈ l → Rch nx x.1 x.2 := fun x hx => .step (h.inv.rch a s hA).1 hl hx
  obtain ⟨h1, h2, h3⟩ := puts_inv h.inv hr hp
  refine ⟨h1, fun b t hb => ?_⟩
  rcases hN b t hb with e | e
  · by_cases hba : b = a
    · subst hba
      rw [hA] at e
      cases e
      exact .inr ⟨l, hl, fun x hx => h3 x hx⟩
    · rcases h.cls b t e with hd | ⟨l', k1, k2⟩
      · exact .inl (hD b hd hba)
      · exact .inr ⟨l', k1, fun x hx => h2.2 _ _ (k2 x hx)⟩
  · exact .inl e
theorem st_bad {N : Nat} {K : Int} {nx : Nat → Sx → Option (List (Nat × Sx))} {A : Row} {D : Nat → Prop} {a : Nat} {s : Sx} (h : St N K nx A D) (hA : A[a]? = some (some s)) (hb : nx a s = none ∨ ∃ l, nx a s = some l ∧ (∃ l', (∀ x, x ∈ l' ↔ x ∈ l) ∧ puts K A l' = none)) : ¬ Ok N K nx := by
  have hr := (h.inv.rch a s hA).1
  rcases hb with hb | ⟨l, hl, l', hm, hp⟩
  · intro hok
    obtain ⟨_, _, l, hl⟩ := hok.1 a s hr
    rw [hb] at hl
    cases hl
  · exact puts_none h.inv (fun x hx => .step hr hl ((hm x).1 hx)) hp
theorem st_end {N : Nat} {K : Int} {nx : Nat → Sx → Option (List (Nat × Sx))} {A : Row} {D : Nat → Prop} (h : St N K nx A D) (hD : ∀ (a : Nat) (s : Sx), A[a]? = some (some s) → ¬ D a) : Ans N K nx (some A) := by
  obtain ⟨h1, h2⟩ := done_ok h.inv (fun a s hs => (h.cls a s hs).resolve_left (hD a s hs))
  exact .yes h.inv.len h1 h2
theorem st_begin {N : Nat} {K : Int} {nx : Nat → Sx → Option (List (Nat × Sx))} (hN : 0 < N) (hK : 0 ≤ K) : put K (List.replicate N none) (0, VA.start) = some ((List.replicate N none).set 0 (some VA.start)) ∧ St N K nx ((List.replicate N none).set 0 (some VA.start)) (fun a => a = 0) := by
  have h0 : (List.replicate N (none : Option Sx))[0]? = some none := by simp [hN]
  have hp := put_new (K := K) (x := (0, VA.start)) h0 (by show ¬ K < 0; omega)
  refine ⟨hp, ⟨by simp, fun a s hs => ?_, by simp [hN]⟩, fun a s hs => ?_⟩
  · rw [List.getElem?_set] at hs
    split at hs
    · next e =>
      subst e
      simp [hN] at hs
      rw [← hs]
      exact ⟨.init, hK⟩
    · rw [List.getElem?_replicate] at hs
      split at hs <;> cases hs
  · rw [List.getElem?_set] at hs
    split at hs
    · next e => exact .inl e.symm
    · rw [List.getElem?_replicate] at hs
      split at hs <;> cases hs
end Go.Proofs.Ytkhdkepjhifffaa.VM
