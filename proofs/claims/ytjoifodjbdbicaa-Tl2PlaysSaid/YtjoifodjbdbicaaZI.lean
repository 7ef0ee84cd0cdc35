/- ZI: several texts in one (UX UZ). -/
import Derived.Test.YtjoifodjbdbicaaZH

/- As long as no other thread does a step, a transaction never fails. -/
namespace Go.Proofs.Ytjoifodjbdbicaa.UX
open Go.RowKit Go.Proofs.Ytjoifodjbdbicaa.RG Go.Proofs.Ytjoifodjbdbicaa.RB Go.Proofs.Ytjoifodjbdbicaa.RI Go.Proofs.Ytjoifodjbdbicaa.UA Go.Proofs.Ytjoifodjbdbicaa.UB Go.Proofs.Ytjoifodjbdbicaa.UC Go.Proofs.Ytjoifodjbdbicaa.UD Go.Proofs.Ytjoifodjbdbicaa.UE Go.Proofs.Ytjoifodjbdbicaa.UF Go.Proofs.Ytjoifodjbdbicaa.UG Go.Proofs.Ytjoifodjbdbicaa.UH Go.Proofs.Ytjoifodjbdbicaa.UI Go.Proofs.Ytjoifodjbdbicaa.UJ Go.Proofs.Ytjoifodjbdbicaa.UK Go.Proofs.Ytjoifodjbdbicaa.UL Go.Proofs.Ytjoifodjbdbicaa.UM Go.Proofs.Ytjoifodjbdbicaa.UN Go.Proofs.Ytjoifodjbdbicaa.UO Go.Proofs.Ytjoifodjbdbicaa.UP Go.Proofs.Ytjoifodjbdbicaa.UQ Go.Proofs.Ytjoifodjbdbicaa.UR Go.Proofs.Ytjoifodjbdbicaa.US Go.Proofs.Ytjoifodjbdbicaa.UT Go.Proofs.Ytjoifodjbdbicaa.UU Go.Proofs.Ytjoifodjbdbicaa.UV Go.Proofs.Ytjoifodjbdbicaa.UW
set_option linter.unusedVariables false
set_option maxRecDepth 100000
set_option maxRecDepth 100000

/-- No var is another thread's than 0's; what thread 0 has begun, and not come to its point, is as new as all vars. -/
structure Ja (E : Eg) : Prop where
  wv : Wv E
  lock : ∀ v, v ∈ E.V → v.lock < 0 ∨ v.lock = 0
  st : ∀ x, E.T[0]? = some x → x.is = true → 0 ≤ x.start ∧ (¬ 0 < x.stamp → ∀ v, v ∈ E.V → v.ver ≤ x.start)
theorem thR_pos {E : Eg} {t : Int} {x : Tx} (h : thR E t = some x) : 0 ≤ t := by
  unfold thR at h
  split at h
  · next h0 => exact h0
  · cases h
theorem thR_zero {E : Eg} {x : Tx} (h : thR E 0 = some x) : E.T[0]? = some x := h
theorem ja_set {E : Eg} (h : Ja E) {t : Int} {y : Tx} (hy : thR E t = some y) {V : List Vr} {c : Int} {x : Tx} (hw : Wv { setT E t x with V := V, clock := c }) (hl : ∀ v, v ∈ V → v.lock < 0 ∨ v.lock = 0) (h1 : ¬ t = 0 → ∀ v, v ∈ V → ∃ u, u ∈ E.V ∧ v.ver = u.ver)
    (h2 : t = 0 → x.is = true → 0 ≤ x.start ∧ (¬ 0 < x.stamp → ∀ v, v ∈ V → v.ver ≤ x.start)) : Ja { setT E t x with V := V, clock := c } := by
  refine ⟨hw, hl, fun z hz hi => ?_⟩
  have ht := thR_pos hy
  have hz : (E.T.set t.toNat x)[0]? = some z := hz
  by_cases h0 : t = 0
  · subst h0
    have : (E.T.set 0 x)[0]? = some x := set_some (thR_zero hy)
    rw [show (0 : Int).toNat = 0 from rfl, this] at hz
    injection hz with hz
    subst hz
    exact h2 rfl hi
  · rw [List.getElem?_set_ne (by omega)] at hz
    obtain ⟨a, b⟩ := h.st z hz hi
    exact ⟨a, fun hs v hv => by
      obtain ⟨u, hu, e⟩ := h1 h0 v hv
      rw [e]
      exact b hs u hu⟩
theorem ja_set0 {E : Eg} (h : Ja E) {t : Int} {y : Tx} (hy : thR E t = some y) {x : Tx} (hx : x.stamp ≤ E.clock) (h2 : t = 0 → x.is = true → 0 ≤ x.start ∧ (¬ 0 < x.stamp → ∀ v, v ∈ E.V → v.ver ≤ x.start)) : Ja (setT E t x) :=
  ja_set (V := E.V) (c := E.clock) h hy (wv_set0 h.wv t hx) h.lock (fun _ v hv => ⟨v, hv, rfl⟩) h2
/-- A transaction's reads do not fail. -/
theorem look_ok {E : Eg} (h : Ja E) {x : Tx} (hx : E.T[0]? = some x) (hi : x.is = true) (hs : ¬ 0 < x.stamp) {v : Vr} (hv : v ∈ E.V) : lookR x.start 0 v = 0 := by
  have h1 := h.lock v hv
  have h2 := (h.st x hx hi).2 hs v hv
  unfold lookR
  rw [if_neg (by omega), if_neg (by omega)]
theorem valid_ok {E : Eg} (h : Ja E) {x : Tx} (hx : E.T[0]? = some x) (hi : x.is = true) (hs : ¬ 0 < x.stamp) : ∀ l : List Int, validL E.V x.start 0 l = 0
  | [] => rfl
  | n :: l => by
    have ih := valid_ok h hx hi hs l
    unfold validL
    split
    · next v hv => rw [if_pos (look_ok h hx hi hs (mem_of hv))]; exact ih
    · exact ih
theorem first_ok {E : Eg} (h : Ja E) {n : Int} {v : Vr} {l : List Pt} (hf : firstR E.V 0 l = some (n, v)) : v.lock < 0 := by
  have h1 := h.lock v (firstR_mem hf)
  rcases h1 with h1 | h1
  · exact h1
  · exfalso
    clear h
    induction l with
    | nil => cases hf
    | cons p l ih =>
      unfold firstR at hf
      split at hf
      · next v' hv =>
        split at hf
        · exact ih hf
        · next hne =>
          injection hf with hf
          injection hf with _ hf
          subst hf
          exact hne h1
      · exact ih hf
theorem opn_is {x : Tx} (h : opn x = true) : x.is = true := by
  unfold opn at h
  cases hi : x.is <;> simp [hi] at h ⊢
/-- What is asked fails for nobody else's doing. -/
theorem ja_deed {m : Nat} {E : Eg} (h : Ja E) (hg : Wg m E) (d : Dd) (hd : ¬ (d.k = 3 ∧ d.t ≠ 0)) : Ja (deedR E d).1 ∧ (d.t = 0 → (deedR E d).2.2 ≠ 32 ∧ (deedR E d).2.2 ≠ 33) := by
  obtain ⟨k, t, n, v⟩ := d
  simp only at hd ⊢
  unfold deedR
  simp only
  have hnum : ((0 : Int) ≠ 32 ∧ (0 : Int) ≠ 33) ∧ ((1 : Int) ≠ 32 ∧ (1 : Int) ≠ 33) ∧ ((16 : Int) ≠ 32 ∧ (16 : Int) ≠ 33) := by decide
  obtain ⟨n0, n1, n16⟩ := hnum
  by_cases k0 : k = 0
  · rw [if_pos k0]
    unfold beginR
    split
    · next x hx =>
      split
      · exact ⟨h, fun _ => n1⟩
      · exact ⟨ja_set0 h hx h.wv.ck (fun _ _ => ⟨h.wv.ck, fun _ u hu => (h.wv.ver u hu).2⟩), fun _ => n0⟩
    · exact ⟨h, fun _ => n1⟩
  rw [if_neg k0]
  by_cases k1 : k = 1
  · rw [if_pos k1]
    unfold readR
    split
    · next x w hx hw =>
      split
      · next ho =>
        refine ⟨ja_set0 h hx (h.wv.stm x (thR_mem hx)) (fun e hi => ?_), fun e => ?_⟩
        · subst e
          exact h.st x (thR_zero hx) hi
        · subst e
          have hwm : w ∈ E.V := by
            unfold vrR at hw
            split at hw
            · exact mem_of hw
            · cases hw
          have hl := look_ok h (thR_zero hx) (opn_is ho) (open_stamp hg (thR_mem hx) ho) hwm
          show (readX x w 0 n).2.2 ≠ 32 ∧ (readX x w 0 n).2.2 ≠ 33
          unfold readX
          split
          · exact n0
          · rw [if_pos hl]; exact n0
      · exact ⟨h, fun _ => n1⟩
    · exact ⟨h, fun _ => n1⟩
  rw [if_neg k1]
  by_cases k2 : k = 2
  · rw [if_pos k2]
    unfold writeR
    split
    · next x w hx hw =>
      split
      · refine ⟨ja_set0 h hx (h.wv.stm x (thR_mem hx)) (fun e hi => ?_), fun _ => n0⟩
        subst e
        exact h.st x (thR_zero hx) hi
      · exact ⟨h, fun _ => n1⟩
    · exact ⟨h, fun _ => n1⟩
  rw [if_neg k2]
  by_cases k3 : k = 3
  · rw [if_pos k3]
    have ht : t = 0 := by
      by_cases e : t = 0
      · exact e
      · exact absurd ⟨k3, e⟩ hd
    subst ht
    have hwv := wv_step h.wv 0
    unfold stepR at hwv ⊢
    cases hx : thR E 0 with
    | none => exact ⟨h, fun _ => n1⟩
    | some x =>
      rw [hx] at hwv
      simp only at hwv ⊢
      have hs := h.wv.stm x (thR_mem hx)
      by_cases c1 : x.is = false ∨ 1 < x.parts
      · rw [if_pos c1]; exact ⟨h, fun _ => n1⟩
      rw [if_neg c1] at hwv ⊢
      have hi : x.is = true := by cases e : x.is <;> simp [e] at c1 ⊢
      by_cases c2 : 0 < x.stamp
      · rw [if_pos c2] at hwv ⊢
        cases hp : (sortR x.puts 1)[x.done.toNat]? with
        | none => exact ⟨h, fun _ => n0⟩
        | some p =>
          rw [hp] at hwv
          simp only at hwv ⊢
          have hl : ∀ u, u ∈ E.V.set p.n.toNat ⟨p.v, x.stamp, -1⟩ → u.lock < 0 ∨ u.lock = 0 := fun u hu => by
            rcases mem_set_at hu with e | rfl
            · exact h.lock u e
            · exact .inl (show (-1 : Int) < 0 by decide)
          by_cases c3 : x.done + 1 < ((sortR x.puts 1).length : Int)
          · rw [if_pos c3] at hwv ⊢
            exact ⟨ja_set (c := E.clock) h hx hwv hl (fun e => absurd rfl e) (fun _ _ => ⟨(h.st x (thR_zero hx) hi).1, fun e => absurd c2 e⟩), fun _ => n0⟩
          · rw [if_neg c3] at hwv ⊢
            exact ⟨ja_set (c := E.clock) h hx hwv hl (fun e => absurd rfl e) (fun _ e => by cases e), fun _ => n0⟩
      · rw [if_neg c2] at hwv ⊢
        have hst := h.st x (thR_zero hx) hi
        cases hf : firstR E.V 0 (sortR x.puts 1) with
        | some nv =>
          obtain ⟨n', v'⟩ := nv
          rw [hf] at hwv
          simp only at hwv ⊢
          have hlk := first_ok h hf
          rw [if_neg (by omega)] at hwv ⊢
          refine ⟨ja_set (c := E.clock) h hx hwv (fun u hu => ?_) (fun e => absurd rfl e) (fun _ _ => ⟨hst.1, fun e u hu => ?_⟩), fun _ => n0⟩
          · rcases mem_set_at hu with e | rfl
            · exact h.lock u e
            · exact .inr rfl
          · rcases mem_set_at hu with e2 | rfl
            · exact hst.2 e u e2
            · exact hst.2 e v' (firstR_mem hf)
        | none =>
          rw [hf] at hwv
          simp only at hwv ⊢
          rw [valid_ok h (thR_zero hx) hi c2, if_pos rfl] at hwv ⊢
          by_cases c3 : sortR x.puts 1 = []
          · rw [if_pos c3] at hwv ⊢
            exact ⟨ja_set0 h hx h.wv.ck (fun _ e => by cases e), fun _ => n0⟩
          · rw [if_neg c3] at hwv ⊢
            exact ⟨ja_set (V := E.V) (c := E.clock + 1) h hx hwv h.lock (fun e => absurd rfl e) (fun _ _ => ⟨hst.1, fun e => absurd (show 0 < E.clock + 1 by have := h.wv.ck; omega) e⟩), fun _ => n0⟩
  rw [if_neg k3]
  by_cases k4 : k = 4
  · rw [if_pos k4]
    unfold partR
    split
    · next x hx =>
      split
      · refine ⟨ja_set0 h hx (h.wv.stm x (thR_mem hx)) (fun e hi => ?_), fun _ => n0⟩
        subst e
        exact h.st x (thR_zero hx) hi
      · exact ⟨h, fun _ => n1⟩
    · exact ⟨h, fun _ => n1⟩
  rw [if_neg k4]
  have shut : ∀ b, Ja (shutR E t b).1 ∧ (t = 0 → (shutR E t b).2 ≠ 32 ∧ (shutR E t b).2 ≠ 33) := fun b => by
    unfold shutR
    split
    · next x hx =>
      split
      · refine ⟨ja_set0 h hx (h.wv.stm x (thR_mem hx)) (fun e hi => ?_), fun _ => n0⟩
        subst e
        exact h.st x (thR_zero hx) hi
      · exact ⟨h, fun _ => n1⟩
    · exact ⟨h, fun _ => n1⟩
  by_cases k5 : k = 5
  · rw [if_pos k5]; exact shut true
  rw [if_neg k5]
  by_cases k6 : k = 6
  · rw [if_pos k6]; exact shut false
  rw [if_neg k6]
  by_cases k7 : k = 7
  · rw [if_pos k7]
    have hwv := wv_deed h.wv ⟨7, t, n, v⟩
    rw [deed_7] at hwv
    unfold abortR at hwv ⊢
    cases hx : thR E t with
    | none => exact ⟨h, fun _ => n1⟩
    | some x =>
      rw [hx] at hwv
      simp only at hwv ⊢
      by_cases c1 : x.is = false ∨ 0 < x.stamp
      · rw [if_pos c1]; exact ⟨h, fun _ => n1⟩
      rw [if_neg c1] at hwv ⊢
      refine ⟨ja_set (c := E.clock) h hx hwv (fun u hu => ?_) (fun _ u hu => ?_) (fun _ e => by cases e), fun _ => n0⟩
      · obtain ⟨w, hw, rfl⟩ := List.mem_map.1 hu
        have := h.lock w hw
        unfold unlock
        split
        · exact .inl (by show (-1 : Int) < 0; decide)
        · exact this
      · obtain ⟨w, hw, rfl⟩ := List.mem_map.1 hu
        refine ⟨w, hw, ?_⟩
        unfold unlock
        split <;> rfl
  rw [if_neg k7]
  by_cases k8 : k = 8
  · rw [if_pos k8]
    have hwv := wv_deed h.wv ⟨8, t, n, v⟩
    rw [deed_8] at hwv
    unfold makeR at hwv ⊢
    split
    · exact ⟨h, fun _ => n16⟩
    · next h4 =>
      rw [if_neg h4] at hwv
      refine ⟨⟨hwv, fun u hu => ?_, fun x hx hi => ?_⟩, fun _ => n0⟩
      · rcases List.mem_append.1 (show u ∈ E.V ++ [_] from hu) with e | e
        · exact h.lock u e
        · rw [List.mem_singleton.1 e]; exact .inl (show (-1 : Int) < 0 by decide)
      · obtain ⟨a, b⟩ := h.st x hx hi
        exact ⟨a, fun hs u hu => by
          rcases List.mem_append.1 (show u ∈ E.V ++ [_] from hu) with e | e
          · exact b hs u e
          · rw [List.mem_singleton.1 e]; exact a⟩
  rw [if_neg k8]
  by_cases k9 : k = 9
  · rw [if_pos k9]
    refine ⟨h, fun e => ?_⟩
    subst e
    show validR E 0 ≠ 32 ∧ validR E 0 ≠ 33
    unfold validR
    split
    · next x hx =>
      split
      · next ho => rw [valid_ok h (thR_zero hx) (opn_is ho) (open_stamp hg (thR_mem hx) ho)]; exact n0
      · exact n1
    · exact n1
  rw [if_neg k9]
  exact ⟨h, fun _ => n0⟩
end Go.Proofs.Ytjoifodjbdbicaa.UX

/- Locks, plainly: whoever has one commits, and has yet to write there. -/
namespace Go.Proofs.Ytjoifodjbdbicaa.UZ
open Go.RowKit Go.Proofs.Ytjoifodjbdbicaa.RG Go.Proofs.Ytjoifodjbdbicaa.UA Go.Proofs.Ytjoifodjbdbicaa.UB Go.Proofs.Ytjoifodjbdbicaa.UD Go.Proofs.Ytjoifodjbdbicaa.UE Go.Proofs.Ytjoifodjbdbicaa.UG Go.Proofs.Ytjoifodjbdbicaa.UL Go.Proofs.Ytjoifodjbdbicaa.UM Go.Proofs.Ytjoifodjbdbicaa.UP Go.Proofs.Ytjoifodjbdbicaa.UQ Go.Proofs.Ytjoifodjbdbicaa.UU Go.Proofs.Ytjoifodjbdbicaa.UW Go.Proofs.Ytjoifodjbdbicaa.UX Go.Proofs.Ytjoifodjbdbicaa.UT Go.Proofs.Ytjoifodjbdbicaa.US
set_option linter.unusedVariables false
set_option maxRecDepth 100000
set_option maxRecDepth 100000

/-- A transaction that has a lock on a var. -/
def Has (x : Tx) (i : Nat) : Prop := x.is = true ∧ x.commits = true ∧ ∃ (j : Nat) (p : Pt), (0 < x.stamp → x.done.toNat ≤ j) ∧ (sortR x.puts 1)[j]? = some p ∧ p.n = (i : Int)
structure Lk (E : Eg) : Prop where
  lk : ∀ (i : Nat) (v : Vr), E.V[i]? = some v → 0 ≤ v.lock → ∃ x, thR E v.lock = some x ∧ Has x i
  pt : ∀ x, x ∈ E.T → 0 < x.stamp → x.parts ≤ 1 ∧ x.is = true
theorem thR_set {E : Eg} {t : Int} {x y : Tx} (hy : thR E t = some y) (u : Int) {V : List Vr} {c : Int} : thR { setT E t x with V := V, clock := c } u = if u = t then some x else thR E u := by
  have ht := thR_pos hy
  unfold thR
  show (if 0 ≤ u then (E.T.set t.toNat x)[u.toNat]? else none) = _
  have hlt : t.toNat < E.T.length := by
    unfold thR at hy
    rw [if_pos ht] at hy
    exact (List.getElem?_eq_some_iff.1 hy).1
  by_cases h : u = t
  · subst h
    rw [if_pos ht, if_pos rfl, List.getElem?_set_self hlt]
  · rw [if_neg h]
    by_cases h0 : 0 ≤ u
    · rw [if_pos h0, if_pos h0, List.getElem?_set_ne (by omega)]
    · rw [if_neg h0, if_neg h0]
/-- A transaction in another one's place: the vars' locks are as they were, but for some. -/
theorem lk_set {E : Eg} (h : Lk E) {t : Int} {y : Tx} (hy : thR E t = some y) {V : List Vr} {c : Int} {x : Tx} (hV : ∀ (i : Nat) (v : Vr), V[i]? = some v → 0 ≤ v.lock → (¬ v.lock = t → ∃ u, E.V[i]? = some u ∧ u.lock = v.lock) ∧ (v.lock = t → Has x i)) (hp : 0 < x.stamp → x.parts ≤ 1 ∧ x.is = true) : Lk { setT E t x with V := V, clock := c } := by
  refine ⟨fun i v hv h0 => ?_, fun z hz => ?_⟩
  · rw [thR_set hy]
    obtain ⟨h1, h2⟩ := hV i v hv h0
    by_cases e : v.lock = t
    · rw [if_pos e]; exact ⟨x, rfl, h2 e⟩
    · rw [if_neg e]
      obtain ⟨u, hu, he⟩ := h1 e
      have := h.lk i u hu (by omega)
      rw [he] at this
      exact this
  · rcases List.mem_or_eq_of_mem_set (show z ∈ E.T.set _ _ from hz) with e | rfl
    · exact h.pt z e
    · exact hp
theorem lk_set0 {E : Eg} (h : Lk E) {t : Int} {y : Tx} (hy : thR E t = some y) {x : Tx} (hx : ∀ i, Has y i → Has x i) (hp : 0 < x.stamp → x.parts ≤ 1 ∧ x.is = true) : Lk (setT E t x) :=
  lk_set (V := E.V) (c := E.clock) h hy (fun i v hv h0 => ⟨fun _ => ⟨v, hv, rfl⟩, fun e => by
    obtain ⟨z, hz, hh⟩ := h.lk i v hv h0
    rw [e, hy] at hz
    injection hz with hz
    subst hz
    exact hx i hh⟩) hp
theorem open_has {x : Tx} (ho : opn x = true) {i : Nat} (h : Has x i) : False := by
  have h2 := h.2.1
  unfold opn at ho
  rw [h2] at ho
  cases hi : x.is <;> simp [hi] at ho
theorem lk_new : Lk newR := ⟨(fun i v hv => by
  have : newR.V = [] := rfl
  rw [this] at hv
  simp at hv), fun x hx h => by
  rw [new_tx hx] at h
  cases h⟩
theorem firstR_at {V : List Vr} {t n : Int} {v : Vr} : ∀ {l : List Pt}, firstR V t l = some (n, v) → V[n.toNat]? = some v ∧ ∃ (j : Nat) (p : Pt), l[j]? = some p ∧ p.n = n
  | [], h => by cases h
  | p :: l, h => by
    unfold firstR at h
    have go : firstR V t l = some (n, v) → V[n.toNat]? = some v ∧ ∃ (j : Nat) (q : Pt), (p :: l)[j]? = some q ∧ q.n = n := fun h => by
      obtain ⟨h1, j, q, h2, h3⟩ := firstR_at h
      exact ⟨h1, j + 1, q, h2, h3⟩
    split at h
    · next v' hv =>
      split at h
      · exact go h
      · injection h with h
        injection h with h1 h2
        subst h1 h2
        exact ⟨hv, 0, p, rfl, rfl⟩
    · exact go h
theorem lk_step {m : Nat} {E : Eg} (h : Lk E) (hg : Wg m E) (hv0 : Wv E) (t : Int) : Lk (stepR E t).1 := by
  unfold stepR
  cases hx : thR E t with
  | none => exact h
  | some x =>
    simp only
    have ht := thR_pos hx
    by_cases c1 : x.is = false ∨ 1 < x.parts
    · rw [if_pos c1]; exact h
    rw [if_neg c1]
    have hi : x.is = true := by cases e : x.is <;> simp [e] at c1 ⊢
    have hp1 : x.parts ≤ 1 := by
      rcases Int.lt_or_le 1 x.parts with e | e
      · exact absurd (.inr e) c1
      · exact e
    by_cases c2 : 0 < x.stamp
    · rw [if_pos c2]
      have hdn := (hg.wf.tx x (thR_mem hx)).stamp c2
      cases hp : (sortR x.puts 1)[x.done.toNat]? with
      | none => exact h
      | some p =>
        simp only
        have hpn := (hg.wf.tx x (thR_mem hx)).inp p (sortR_mem (mem_of hp)).1
        have key : ∀ (i : Nat) (u : Vr), (E.V.set p.n.toNat ⟨p.v, x.stamp, -1⟩)[i]? = some u → 0 ≤ u.lock → E.V[i]? = some u ∧ ¬ p.n = (i : Int) := fun i u hu h0 => by
          rw [List.getElem?_set] at hu
          split at hu
          · split at hu
            · injection hu with hu
              subst hu
              exact absurd h0 (show ¬ (0 : Int) ≤ -1 by decide)
            · cases hu
          · next hne => exact ⟨hu, fun e => hne (by omega)⟩
        by_cases c3 : x.done + 1 < ((sortR x.puts 1).length : Int)
        · rw [if_pos c3]
          refine lk_set (c := E.clock) h hx (fun i u hu h0 => ?_) (fun _ => ⟨hp1, hi⟩)
          obtain ⟨k1, k2⟩ := key i u hu h0
          refine ⟨fun _ => ⟨u, k1, rfl⟩, fun e => ?_⟩
          obtain ⟨z, hz, q1, q2, j, q, q3, q4, q5⟩ := h.lk i u k1 h0
          rw [e, hx] at hz
          injection hz with hz
          subst hz
          refine ⟨hi, rfl, j, q, fun _ => ?_, q4, q5⟩
          have h3 := q3 c2
          have h4 : j ≠ x.done.toNat := fun e2 => by
            rw [e2, hp] at q4
            injection q4 with q4
            subst q4
            exact k2 q5
          show (x.done + 1).toNat ≤ j
          omega
        · rw [if_neg c3]
          refine lk_set (c := E.clock) h hx (fun i u hu h0 => ?_) (fun e => by cases e)
          obtain ⟨k1, k2⟩ := key i u hu h0
          refine ⟨fun _ => ⟨u, k1, rfl⟩, fun e => ?_⟩
          exfalso
          obtain ⟨z, hz, q1, q2, j, q, q3, q4, q5⟩ := h.lk i u k1 h0
          rw [e, hx] at hz
          injection hz with hz
          subst hz
          have h3 := q3 c2
          have h5 := (List.getElem?_eq_some_iff.1 q4).1
          have h4 : j = x.done.toNat := by omega
          rw [h4, hp] at q4
          injection q4 with q4
          subst q4
          exact k2 q5
    · rw [if_neg c2]
      have hcom : ∀ i, Has x i → Has { x with commits := true } i := fun i hh => ⟨hi, rfl, hh.2.2⟩
      cases hf : firstR E.V t (sortR x.puts 1) with
      | some nv =>
        obtain ⟨n, v⟩ := nv
        simp only
        obtain ⟨f1, j, q, f2, f3⟩ := firstR_at hf
        by_cases c3 : 0 ≤ v.lock
        · rw [if_pos c3]
          exact lk_set0 h hx hcom (fun e => absurd e c2)
        · rw [if_neg c3]
          refine lk_set (x := { x with commits := true }) (c := E.clock) h hx (fun i u hu h0 => ?_) (fun e => absurd e c2)
          rw [List.getElem?_set] at hu
          split at hu
          · next e =>
            split at hu
            · injection hu with hu
              subst hu
              refine ⟨fun e2 => absurd rfl e2, fun _ => ⟨hi, rfl, j, q, fun e2 => absurd e2 c2, f2, ?_⟩⟩
              have hn0 := (hg.wf.tx x (thR_mem hx)).inp q (sortR_mem (mem_of f2)).1
              omega
            · cases hu
          · refine ⟨fun _ => ⟨u, hu, rfl⟩, fun e => ?_⟩
            obtain ⟨z, hz, hh⟩ := h.lk i u hu h0
            rw [e, hx] at hz
            injection hz with hz
            subst hz
            exact hcom i hh
      | none =>
        simp only
        by_cases c3 : validL E.V x.start t x.reads = 0
        · rw [if_pos c3]
          by_cases c4 : sortR x.puts 1 = []
          · rw [if_pos c4]
            refine lk_set0 h hx (fun i hh => ?_) (fun e => by cases e)
            obtain ⟨_, _, j, q, _, q4, _⟩ := hh
            rw [c4] at q4
            simp at q4
          · rw [if_neg c4]
            refine lk_set (V := E.V) (x := { x with commits := true, stamp := E.clock + 1 }) (c := E.clock + 1) h hx (fun i u hu h0 => ⟨fun _ => ⟨u, hu, rfl⟩, fun e => ?_⟩) (fun _ => ⟨hp1, hi⟩)
            obtain ⟨z, hz, q1, q2, j, q, q3, q4, q5⟩ := h.lk i u hu h0
            rw [e, hx] at hz
            injection hz with hz
            subst hz
            exact ⟨hi, rfl, j, q, fun _ => by
              have := hg.dn x (thR_mem hx) c2
              show x.done.toNat ≤ j
              rw [this]
              exact Nat.zero_le _, q4, q5⟩
        · rw [if_neg c3]
          exact lk_set0 h hx hcom (fun e => absurd e c2)
theorem lk_abort {E : Eg} (h : Lk E) (t : Int) : Lk (abortR E t).1 := by
  unfold abortR
  cases hx : thR E t with
  | none => exact h
  | some x =>
    simp only
    by_cases c1 : x.is = false ∨ 0 < x.stamp
    · rw [if_pos c1]; exact h
    rw [if_neg c1]
    have ht := thR_pos hx
    refine lk_set (c := E.clock) h hx (fun i u hu h0 => ?_) (fun e => by cases e)
    rw [List.getElem?_map, Option.map_eq_some_iff] at hu
    obtain ⟨w, hw, rfl⟩ := hu
    unfold unlock at h0 ⊢
    by_cases e : w.lock = t
    · rw [if_pos e] at h0
      exact absurd h0 (by show ¬ (0 : Int) ≤ -1; decide)
    · rw [if_neg e] at h0 ⊢
      exact ⟨fun _ => ⟨w, hw, rfl⟩, fun e2 => absurd e2 e⟩
theorem lk_deed {m : Nat} {E : Eg} (h : Lk E) (hg : Wg m E) (hv : Wv E) (d : Dd) : Lk (deedR E d).1 := by
  have opened : ∀ {t : Int} {x y : Tx}, thR E t = some x → opn x = true → y.stamp = x.stamp → Lk (setT E t y) := fun {t x y} hx ho hs =>
    lk_set0 h hx (fun i hh => (open_has ho hh).elim) (fun e => absurd (by rw [← hs]; exact e) (open_stamp hg (thR_mem hx) ho))
  unfold deedR
  split
  · unfold beginR
    split
    · next x hx =>
      split
      · exact h
      · next hi =>
        exact lk_set0 h hx (fun i hh => absurd hh.1 hi) (fun e => by cases e)
    · exact h
  split
  · unfold readR
    split
    · next x v hx hw =>
      split
      · next ho => exact opened hx ho rfl
      · exact h
    · exact h
  split
  · unfold writeR
    split
    · next x v hx hw =>
      split
      · next ho => exact opened hx ho rfl
      · exact h
    · exact h
  split
  · exact lk_step h hg hv _
  split
  · unfold partR
    split
    · next x hx =>
      split
      · next ho => exact opened hx ho rfl
      · exact h
    · exact h
  split
  · unfold shutR
    split
    · next x hx =>
      split
      · next ho => exact opened hx ho.1 rfl
      · exact h
    · exact h
  split
  · unfold shutR
    split
    · next x hx =>
      split
      · next ho => exact opened hx ho.1 rfl
      · exact h
    · exact h
  split
  · exact lk_abort h _
  split
  · unfold makeR
    split
    · exact h
    · refine ⟨fun i u hu h0 => ?_, h.pt⟩
      have hu : (E.V ++ [(⟨d.v, 0, -1⟩ : Vr)])[i]? = some u := hu
      by_cases hl : i < E.V.length
      · rw [List.getElem?_append_left hl] at hu
        exact h.lk i u hu h0
      · rw [List.getElem?_append_right (by omega)] at hu
        rcases Nat.eq_zero_or_pos (i - E.V.length) with e | e
        · rw [e] at hu
          injection hu with hu
          subst hu
          exact absurd h0 (by show ¬ (0 : Int) ≤ -1; decide)
        · rw [List.getElem?_eq_none (by simp; omega)] at hu
          cases hu
  split
  · exact h
  · exact h
theorem lk_run : ∀ (l : List Dd) {m : Nat} {E : Eg}, Lk E → Wg m E → Wv E → Lk (runE E l)
  | [], m, E, h, _, _ => h
  | d :: l, m, E, h, hg, hv => lk_run l (lk_deed h hg hv d) (wg_deed hg d) (wv_deed hv d)
theorem lk_bE : ∀ i : Nat, Lk (bE i)
  | 0 => lk_new
  | i + 1 => by
    have h := lk_deed (lk_bE i) (bE_wg i) (wv_bE i) ⟨8, 0, 0, 10 + (i : Int)⟩
    rw [deed_8] at h
    exact h
/-- One try to end a thread's transaction. -/
def tryR (E : Eg) (t : Int) : Eg := if hasR E t then (if (abortR E t).2 = 0 then (abortR E t).1 else (stepR E t).1) else E
/-- How many tries it takes at most. -/
def left (E : Eg) (t : Int) : Nat := match thR E t with
  | some x => if x.is then (if 0 < x.stamp then (sortR x.puts 1).length - x.done.toNat else 1) else 0
  | none => 0
theorem left_none {E : Eg} {t : Int} (h : hasR E t = false) : left E t = 0 := by
  unfold left
  unfold hasR at h
  cases hx : thR E t with
  | none => rfl
  | some x => rw [hx] at h; simp only at h ⊢; rw [h]; rfl
theorem left_zero {m : Nat} {E : Eg} (hg : Wg m E) {t : Int} (h : left E t = 0) : hasR E t = false := by
  unfold left at h
  unfold hasR
  cases hx : thR E t with
  | none => rfl
  | some x =>
    rw [hx] at h
    simp only at h ⊢
    cases hi : x.is with
    | false => rfl
    | true =>
      rw [hi, if_pos rfl] at h
      by_cases hs : 0 < x.stamp
      · rw [if_pos hs] at h
        have := (hg.wf.tx x (thR_mem hx)).stamp hs
        omega
      · rw [if_neg hs] at h; cases h
theorem left_le {m : Nat} {E : Eg} (hg : Wg m E) (t : Int) : left E t ≤ m + 1 := by
  unfold left
  split
  · next x hx =>
    split
    · split
      · have h1 := sortR_len x.puts 1
        have h2 := (hg.wf.tx x (thR_mem hx)).puts
        omega
      · omega
    · omega
  · omega
/-- An abort that fails: behind a point. -/
theorem abort_bad {E : Eg} {t : Int} (hh : hasR E t = true) (ha : (abortR E t).2 ≠ 0) : ∃ x, thR E t = some x ∧ x.is = true ∧ 0 < x.stamp ∧ abortR E t = (E, 1) := by
  unfold hasR at hh
  cases hx : thR E t with
  | none => rw [hx] at hh; cases hh
  | some x =>
    rw [hx] at hh
    have hr : abortR E t = if x.is = false ∨ 0 < x.stamp then (E, 1) else ({ setT E t tx0 with V := E.V.map (unlock t) }, 0) := by unfold abortR; rw [hx]
    by_cases hs : 0 < x.stamp
    · exact ⟨x, rfl, hh, hs, by rw [hr, if_pos (.inr hs)]⟩
    · rw [hr, if_neg (by simp only at hh; rw [hh]; simp; omega)] at ha
      exact absurd rfl ha
theorem try_less {m : Nat} {E : Eg} (h : Lk E) (hg : Wg m E) {t : Int} (hh : hasR E t = true) : left (tryR E t) t < left E t := by
  unfold tryR
  rw [if_pos hh]
  by_cases ha : (abortR E t).2 = 0
  · rw [if_pos ha]
    have hpos : 0 < left E t := by
      rcases Nat.eq_zero_or_pos (left E t) with e | e
      · rw [left_zero hg e] at hh; cases hh
      · exact e
    have : left (abortR E t).1 t = 0 := by
      apply left_none
      unfold abortR at ha ⊢
      cases hx : thR E t with
      | none => unfold hasR at hh; rw [hx] at hh; cases hh
      | some x =>
        rw [hx] at ha
        simp only at ha ⊢
        split at ha
        · cases ha
        · next c => rw [if_neg c]; unfold hasR; rw [thR_set hx, if_pos rfl]; rfl
    omega
  · rw [if_neg ha]
    obtain ⟨x, hx, hi, hs, _⟩ := abort_bad hh ha
    have hp := (h.pt x (thR_mem hx) hs).1
    have hdn := (hg.wf.tx x (thR_mem hx)).stamp hs
    have hl : left E t = (sortR x.puts 1).length - x.done.toNat := by unfold left; rw [hx]; simp only; rw [hi, if_pos rfl, if_pos hs]
    obtain ⟨p, hp2⟩ : ∃ p, (sortR x.puts 1)[x.done.toNat]? = some p := ⟨_, List.getElem?_eq_getElem (by omega)⟩
    have hr : stepR E t = if x.done + 1 < ((sortR x.puts 1).length : Int) then
          ({ setT E t { x with commits := true, done := x.done + 1 } with V := E.V.set p.n.toNat ⟨p.v, x.stamp, -1⟩ }, 3, 0)
        else ({ setT E t tx0 with V := E.V.set p.n.toNat ⟨p.v, x.stamp, -1⟩ }, 4, 0) := by
      unfold stepR
      rw [hx]
      simp only
      rw [if_neg (by rw [hi]; simp; omega), if_pos hs, hp2]
    rw [hr, hl]
    by_cases c3 : x.done + 1 < ((sortR x.puts 1).length : Int)
    · rw [if_pos c3]
      obtain ⟨E', hE'⟩ : ∃ E', E' = ({ setT E t { x with commits := true, done := x.done + 1 } with V := E.V.set p.n.toNat ⟨p.v, x.stamp, -1⟩ } : Eg) := ⟨_, rfl⟩
      have e : thR E' t = some { x with commits := true, done := x.done + 1 } := by
        rw [hE']
        exact (thR_set (x := { x with commits := true, done := x.done + 1 }) (V := E.V.set p.n.toNat ⟨p.v, x.stamp, -1⟩) (c := E.clock) hx t).trans (if_pos rfl)
      show left ({ setT E t { x with commits := true, done := x.done + 1 } with V := E.V.set p.n.toNat ⟨p.v, x.stamp, -1⟩ } : Eg) t < _
      rw [← hE']
      unfold left
      rw [e]
      simp only
      rw [hi, if_pos rfl, if_pos hs]
      omega
    · rw [if_neg c3]
      obtain ⟨E', hE'⟩ : ∃ E', E' = ({ setT E t tx0 with V := E.V.set p.n.toNat ⟨p.v, x.stamp, -1⟩ } : Eg) := ⟨_, rfl⟩
      have e : thR E' t = some tx0 := by
        rw [hE']
        exact (thR_set (x := tx0) (V := E.V.set p.n.toNat ⟨p.v, x.stamp, -1⟩) (c := E.clock) hx t).trans (if_pos rfl)
      show left ({ setT E t tx0 with V := E.V.set p.n.toNat ⟨p.v, x.stamp, -1⟩ } : Eg) t < _
      rw [← hE', left_none (by unfold hasR; rw [e]; rfl)]
      omega
/-- Behind its end no thread has a lock. -/
theorem no_lock {E : Eg} (h : Lk E) {t : Int} (ht : 0 ≤ t) (hh : hasR E t = false) {i : Nat} {v : Vr} (hv : E.V[i]? = some v) : ¬ v.lock = t := fun e => by
  obtain ⟨x, hx, hi, _⟩ := h.lk i v hv (by omega)
  rw [e] at hx
  unfold hasR at hh
  rw [hx] at hh
  simp only at hh
  rw [hi] at hh
  cases hh
end Go.Proofs.Ytjoifodjbdbicaa.UZ
