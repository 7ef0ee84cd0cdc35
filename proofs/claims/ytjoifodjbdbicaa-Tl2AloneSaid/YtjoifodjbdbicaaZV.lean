/- ZV: several texts in one (PQ PW QB). -/
import Derived.Test.YtjoifodjbdbicaaZQ
import Derived.Test.YtjoifodjbdbicaaZI
import Derived.Test.YtjoifodjbdbicaaZT

/- What the program's engine keeps, plainly: what is left of a commit; whose locks are whose. -/
namespace Go.Proofs.Ytjoifodjbdbicaa.PQ
open Go.Proofs.Ytjoifodjbdbicaa.UA Go.Proofs.Ytjoifodjbdbicaa.UB Go.Proofs.Ytjoifodjbdbicaa.UD Go.Proofs.Ytjoifodjbdbicaa.UG Go.Proofs.Ytjoifodjbdbicaa.UQ Go.Proofs.Ytjoifodjbdbicaa.UU Go.Proofs.Ytjoifodjbdbicaa.UX Go.Proofs.Ytjoifodjbdbicaa.UZ Go.Proofs.Ytjoifodjbdbicaa.PA Go.Proofs.Ytjoifodjbdbicaa.PC Go.Proofs.Ytjoifodjbdbicaa.RI Go.Proofs.Ytjoifodjbdbicaa.UE
set_option linter.unusedVariables false
set_option maxRecDepth 100000
set_option maxRecDepth 100000

def lfree (V : List Vr) (t : Int) (p : Pt) : Bool := match V[p.n.toNat]? with
  | some v => !decide (v.lock = t)
  | none => false
theorem lft_lock {V : List Vr} {t : Int} {x : Tx} (hs : ¬ 0 < x.stamp) (hc : x.commits = true) : lftR V t x = ((sortR x.puts 1).filter (lfree V t)).map (·.n) := by
  unfold lftR
  rw [if_neg hs, if_pos hc]
  rfl
theorem lft_put {V : List Vr} {t : Int} {x : Tx} (hs : 0 < x.stamp) : lftR V t x = ((sortR x.puts 1).map (·.n)).drop x.done.toNat := by
  unfold lftR
  rw [if_pos hs]
theorem first_cons {V : List Vr} {t n0 : Int} {rest : List Int} : ∀ {l : List Pt}, (l.filter (lfree V t)).map (·.n) = n0 :: rest → ∃ v, firstR V t l = some (n0, v) ∧ V[n0.toNat]? = some v ∧ v.lock ≠ t
  | [], h => by cases h
  | p :: l, h => by
    unfold firstR
    cases hv : V[p.n.toNat]? with
    | none =>
      have hf : lfree V t p = false := by unfold lfree; rw [hv]
      rw [List.filter_cons_of_neg (by rw [hf]; decide)] at h
      exact first_cons h
    | some v =>
      by_cases hl : v.lock = t
      · have hf : lfree V t p = false := by unfold lfree; rw [hv]; simp [hl]
        rw [List.filter_cons_of_neg (by rw [hf]; decide)] at h
        simp only [hl, if_true]
        exact first_cons h
      · have hf : lfree V t p = true := by unfold lfree; rw [hv]; simp [hl]
        rw [List.filter_cons_of_pos hf] at h
        injection h with h1 h2
        simp only [if_neg hl]
        exact ⟨v, by rw [show p.n = n0 from h1], by rw [← show p.n = n0 from h1]; exact hv, hl⟩
theorem first_nil {V : List Vr} {t : Int} : ∀ {l : List Pt}, (l.filter (lfree V t)).map (·.n) = [] → firstR V t l = none
  | [], _ => rfl
  | p :: l, h => by
    unfold firstR
    cases hv : V[p.n.toNat]? with
    | none =>
      have hf : lfree V t p = false := by unfold lfree; rw [hv]
      rw [List.filter_cons_of_neg (by rw [hf]; decide)] at h
      exact first_nil h
    | some v =>
      by_cases hl : v.lock = t
      · have hf : lfree V t p = false := by unfold lfree; rw [hv]; simp [hl]
        rw [List.filter_cons_of_neg (by rw [hf]; decide)] at h
        simp only [hl, if_true]
        exact first_nil h
      · have hf : lfree V t p = true := by unfold lfree; rw [hv]; simp [hl]
        rw [List.filter_cons_of_pos hf] at h
        cases h
/-- Other vars are as they were. -/
theorem free_other {V : List Vr} {t : Int} {k : Nat} {u : Vr} {p : Pt} (h : p.n.toNat ≠ k) : lfree (V.set k u) t p = lfree V t p := by
  unfold lfree
  rw [List.getElem?_set_ne (Ne.symm h)]
theorem free_lock {V : List Vr} {t : Int} {k : Nat} {v u : Vr} (hv : V[k]? = some v) (h1 : v.lock ≠ t) (h2 : u.lock ≠ t) (p : Pt) : lfree (V.set k u) t p = lfree V t p := by
  by_cases e : p.n.toNat = k
  · unfold lfree
    rw [e, List.getElem?_set_self (List.getElem?_eq_some_iff.1 hv).1, hv]
    simp [h1, h2]
  · exact free_other e
theorem lft_same {V : List Vr} {t : Int} {k : Nat} {v u : Vr} (hv : V[k]? = some v) (h1 : v.lock ≠ t) (h2 : u.lock ≠ t) (x : Tx) : lftR (V.set k u) t x = lftR V t x := by
  by_cases hs : 0 < x.stamp
  · rw [lft_put hs, lft_put hs]
  · by_cases hc : x.commits = true
    · rw [lft_lock hs hc, lft_lock hs hc, show lfree (V.set k u) t = lfree V t from funext (free_lock hv h1 h2)]
    · unfold lftR; rw [if_neg hs, if_neg hc, if_neg hs, if_neg hc]
/-- The first that is free is locked: the others are left. -/
theorem left_tail {V : List Vr} {t : Int} {k : Nat} {u : Vr} (hk : k < V.length) (hu : u.lock = t) {rest : List Int} : ∀ {l : List Pt}, (l.map (·.n)).Pairwise (· < ·) → (∀ p, p ∈ l → 0 ≤ p.n) → (l.filter (lfree V t)).map (·.n) = (k : Int) :: rest → (l.filter (lfree (V.set k u) t)).map (·.n) = rest
  | [], _, _, h => by cases h
  | p :: l, hup, h0, h => by
    have hup := List.pairwise_cons.1 (show (p.n :: l.map (·.n)).Pairwise (· < ·) from hup)
    by_cases hf : lfree V t p = true
    · rw [List.filter_cons_of_pos hf] at h
      injection h with h1 h2
      have hf' : lfree (V.set k u) t p = false := by
        unfold lfree
        have : p.n.toNat = k := by have : p.n = (k : Int) := h1; omega
        rw [this, List.getElem?_set_self hk]
        simp [hu]
      rw [List.filter_cons_of_neg (by rw [hf']; decide), ← h2]
      congr 1
      apply List.filter_congr
      intro q hq
      have h3 := hup.1 q.n (List.mem_map.2 ⟨q, hq, rfl⟩)
      have h4 := h0 q (List.mem_cons_of_mem _ hq)
      exact free_other (by have : p.n = (k : Int) := h1; omega)
    · rw [List.filter_cons_of_neg hf] at h
      have hne : p.n.toNat ≠ k := fun e => by
        have hm : (k : Int) ∈ (l.filter (lfree V t)).map (·.n) := by rw [h]; exact List.mem_cons_self
        obtain ⟨q, hq, e2⟩ := List.mem_map.1 hm
        have h3 := hup.1 q.n (List.mem_map.2 ⟨q, (List.mem_filter.1 hq).1, rfl⟩)
        have h4 := h0 p List.mem_cons_self
        have e2 : q.n = (k : Int) := e2
        omega
      rw [List.filter_cons_of_neg (by rw [free_other hne]; exact hf)]
      exact left_tail hk hu hup.2 (fun q hq => h0 q (List.mem_cons_of_mem _ hq)) h
/-- Where no var is a thread's, all is left. -/
theorem left_all {V : List Vr} {t : Int} {l : List Pt} (hV : ∀ p, p ∈ l → ∃ v, V[p.n.toNat]? = some v ∧ v.lock ≠ t) : l.filter (lfree V t) = l := by
  apply List.filter_eq_self.2
  intro p hp
  obtain ⟨v, h1, h2⟩ := hV p hp
  unfold lfree
  rw [h1]
  simp [h2]
/-- What stands of the program's engine, plainly. -/
structure Pv (E : Eg) : Prop where
  lk : Lk E
  wv : Wv E
  un : ∀ x, x ∈ E.T → Un x.puts
  pr : ∀ x, x ∈ E.T → ∀ q, q ∈ x.puts → 1 ≤ q.part ∧ q.part ≤ x.parts
  ow : ∀ (i : Nat) (x : Tx), E.T[i]? = some x → 0 < x.stamp → ∀ (j : Nat) (q : Pt), x.done.toNat ≤ j → (sortR x.puts 1)[j]? = some q → ∃ v, E.V[q.n.toNat]? = some v ∧ v.lock = (i : Int)
  lo : ∀ v, v ∈ E.V → -1 ≤ v.lock
/-- Who does not commit has no lock. -/
theorem no_lk {E : Eg} (h : Lk E) {i : Nat} {x : Tx} (hx : E.T[i]? = some x) (hc : x.commits = false) {v : Vr} (hv : v ∈ E.V) : v.lock ≠ (i : Int) := fun e => by
  obtain ⟨k, hk⟩ := List.getElem?_of_mem hv
  obtain ⟨y, h1, h2⟩ := h.lk k v hk (by omega)
  rw [e, thR_nat, hx] at h1
  injection h1 with h1
  rw [← h1] at h2
  have h3 := h2.2.1
  rw [hc] at h3
  cases h3
/-- A step of who has not committed yet is a step of who commits. -/
theorem step_com {E : Eg} {i : Nat} {x : Tx} (hx : E.T[i]? = some x) (hs : x.is = true) (hp : ¬ 1 < x.parts) (hd : 0 < x.stamp → ∃ q, (sortR x.puts 1)[x.done.toNat]? = some q) : stepR (setT E (i : Int) { x with commits := true }) (i : Int) = stepR E (i : Int) := by
  have h1 : thR (setT E (i : Int) { x with commits := true }) (i : Int) = some { x with commits := true } := by
    rw [thR_nat]
    show (E.T.set ((i : Int).toNat) _)[i]? = _
    rw [Int.toNat_natCast]
    exact set_some hx
  have h2 : thR E (i : Int) = some x := by rw [thR_nat]; exact hx
  have hset : ∀ y, setT (setT E (i : Int) { x with commits := true }) (i : Int) y = setT E (i : Int) y := fun y => by unfold setT; simp only [List.set_set]
  unfold stepR
  rw [h1, h2]
  have hn : ¬ (x.is = false ∨ 1 < x.parts) := fun e => by
    rcases e with e | e
    · rw [hs] at e; cases e
    · exact hp e
  simp only [hset, if_neg hn]
  by_cases h0 : 0 < x.stamp
  · obtain ⟨q, hq⟩ := hd h0
    simp only [if_pos h0, hq]
    rfl
  · simp only [if_neg h0]
    rfl
end Go.Proofs.Ytjoifodjbdbicaa.PQ

/- The places of an engine's values, plainly: in the order in which they are told. -/
namespace Go.Proofs.Ytjoifodjbdbicaa.PW
open Go.Proofs.Ytjoifodjbdbicaa.UA Go.Proofs.Ytjoifodjbdbicaa.UB Go.Proofs.Ytjoifodjbdbicaa.UD Go.Proofs.Ytjoifodjbdbicaa.UG Go.Proofs.Ytjoifodjbdbicaa.UQ Go.Proofs.Ytjoifodjbdbicaa.UU Go.Proofs.Ytjoifodjbdbicaa.UX Go.Proofs.Ytjoifodjbdbicaa.UZ Go.Proofs.Ytjoifodjbdbicaa.PA Go.Proofs.Ytjoifodjbdbicaa.PC Go.Proofs.Ytjoifodjbdbicaa.PQ Go.Proofs.Ytjoifodjbdbicaa.RI Go.Proofs.Ytjoifodjbdbicaa.UE
set_option linter.unusedVariables false
set_option maxRecDepth 100000
set_option maxRecDepth 100000

/-- Writes of the same vars and parts. -/
def kys (P : List Pt) : List (Int × Int) := P.map fun p => (p.n, p.part)
def SmP (P P' : List Pt) : Prop := kys P' = kys P
theorem smP_mem {P P' : List Pt} (h : SmP P P') {p : Pt} (hp : p ∈ P') : ∃ q, q ∈ P ∧ q.n = p.n ∧ q.part = p.part := by
  have h1 : (p.n, p.part) ∈ kys P' := List.mem_map.2 ⟨p, hp, rfl⟩
  rw [show kys P' = kys P from h] at h1
  obtain ⟨q, hq, e⟩ := List.mem_map.1 h1
  injection e with e1 e2
  exact ⟨q, hq, e1, e2⟩
theorem smP_symm {P P' : List Pt} (h : SmP P P') : SmP P' P := Eq.symm h
theorem smP_len {P P' : List Pt} (h : SmP P P') : P'.length = P.length := by have := congrArg List.length (show kys P' = kys P from h); simpa [kys] using this
theorem smP_un {P P' : List Pt} (h : SmP P P') (hu : Un P) : Un P' := by
  have h1 : (kys P).Pairwise (fun a b => a ≠ b) := List.pairwise_map.2 (List.Pairwise.imp (fun h e => h ⟨congrArg Prod.fst e, congrArg Prod.snd e⟩) hu)
  rw [← show kys P' = kys P from h] at h1
  exact List.Pairwise.imp (fun h e => h (by rw [Prod.mk.injEq]; exact e)) (List.pairwise_map.1 h1)
theorem smP_put {n v q : Int} : ∀ {P : List Pt}, (∃ p, p ∈ P ∧ p.n = n ∧ p.part = q) → SmP P (putR n v q P)
  | [], h => by obtain ⟨p, hp, _⟩ := h; cases hp
  | a :: l, h => by
    unfold putR
    by_cases e : a.n = n ∧ a.part = q
    · rw [if_pos e]; rfl
    · rw [if_neg e]
      show (_, _) :: kys (putR n v q l) = (_, _) :: kys l
      congr 1
      apply smP_put
      obtain ⟨p, hp, h1⟩ := h
      rcases List.mem_cons.1 hp with rfl | hp
      · exact absurd h1 e
      · exact ⟨p, hp, h1⟩
/-- The vars of a part in order are the same. -/
theorem smP_sort {P P' : List Pt} (h : SmP P P') (h0 : ∀ p, p ∈ P → 0 ≤ p.n) (q : Int) : (sortR P' q).map (·.n) = (sortR P q).map (·.n) := by
  have h0' : ∀ p, p ∈ P' → 0 ≤ p.n := fun p hp => by obtain ⟨a, ha, e, _⟩ := smP_mem h hp; rw [← e]; exact h0 a ha
  have key : ∀ {A B : List Pt}, SmP A B → (∀ p, p ∈ A → 0 ≤ p.n) → ∀ x, x ∈ (sortR B q).map (·.n) → x ∈ (sortR A q).map (·.n) := fun {A B} hs hA x hx => by
    obtain ⟨p, hp, rfl⟩ := List.mem_map.1 hx
    obtain ⟨h1, h2⟩ := sortR_mem hp
    obtain ⟨a, ha, e1, e2⟩ := smP_mem hs h1
    obtain ⟨y, hy, e⟩ := sort_full ha (e2.trans h2) (hA a ha)
    exact List.mem_map.2 ⟨y, hy, e.trans e1⟩
  exact up_unique (sort_up P' q) (sort_up P q) fun x => ⟨key h h0 x, key (smP_symm h) h0' x⟩
/-- Engines that differ in their values alone. -/
structure Sm (E E' : Eg) : Prop where
  ck : E'.clock = E.clock
  vl : E'.V.length = E.V.length
  vs : ∀ (k : Nat) (v : Vr), E.V[k]? = some v → ∃ a, E'.V[k]? = some { v with val := a }
  tl : E'.T.length = E.T.length
  ts : ∀ (i : Nat) (x : Tx), E.T[i]? = some x → ∃ P', E'.T[i]? = some { x with puts := P' } ∧ SmP x.puts P'
theorem Sm.refl (E : Eg) : Sm E E := ⟨rfl, rfl, fun k v h => ⟨v.val, h⟩, rfl, fun i x h => ⟨x.puts, h, rfl⟩⟩
theorem Sm.trans {A B C : Eg} (h : Sm A B) (k : Sm B C) : Sm A C :=
  ⟨k.ck.trans h.ck, k.vl.trans h.vl, fun j v hv => by
    obtain ⟨a, ha⟩ := h.vs j v hv
    obtain ⟨c, hc⟩ := k.vs j _ ha
    exact ⟨c, hc⟩, k.tl.trans h.tl, fun i x hx => by
    obtain ⟨P, hP, h1⟩ := h.ts i x hx
    obtain ⟨Q, hQ, h2⟩ := k.ts i _ hP
    exact ⟨Q, hQ, (show kys Q = kys P from h2).trans h1⟩⟩
/-- Back from it. -/
theorem Sm.ats {A B : Eg} (h : Sm A B) {i : Nat} {y : Tx} (hy : B.T[i]? = some y) : ∃ x P', A.T[i]? = some x ∧ y = { x with puts := P' } ∧ SmP x.puts P' := by
  have hl := (List.getElem?_eq_some_iff.1 hy).1
  rw [h.tl] at hl
  obtain ⟨P', h1, h2⟩ := h.ts i A.T[i] (List.getElem?_eq_getElem hl)
  rw [hy] at h1
  injection h1 with h1
  exact ⟨_, P', List.getElem?_eq_getElem hl, h1, h2⟩
theorem Sm.avs {A B : Eg} (h : Sm A B) {k : Nat} {u : Vr} (hu : B.V[k]? = some u) : ∃ v a, A.V[k]? = some v ∧ u = { v with val := a } := by
  have hl := (List.getElem?_eq_some_iff.1 hu).1
  rw [h.vl] at hl
  obtain ⟨a, h1⟩ := h.vs k A.V[k] (List.getElem?_eq_getElem hl)
  rw [hu] at h1
  injection h1 with h1
  exact ⟨_, a, List.getElem?_eq_getElem hl, h1⟩
/-- What is left of a commit is the same. -/
theorem lft_sm {A B : Eg} (h : Sm A B) {i : Int} {x : Tx} {P' : List Pt} (hp : SmP x.puts P') (h0 : ∀ p, p ∈ x.puts → 0 ≤ p.n) : lftR B.V i { x with puts := P' } = lftR A.V i x := by
  have hn := smP_sort hp h0 1
  have hf : ∀ (V : List Vr) (l : List Pt), (l.filter (lfree V i)).map (·.n) = (l.map (·.n)).filter (fun n => match V[n.toNat]? with | some v => !decide (v.lock = i) | none => false) := fun V l => by
    induction l with
    | nil => rfl
    | cons p l ih =>
      show ((p :: l).filter (lfree V i)).map (·.n) = (p.n :: l.map (·.n)).filter _
      by_cases hc : lfree V i p = true
      · rw [List.filter_cons_of_pos hc, List.filter_cons_of_pos (by exact hc), ← ih]; rfl
      · rw [List.filter_cons_of_neg hc, List.filter_cons_of_neg (by exact hc), ih]
  by_cases hs : 0 < x.stamp
  · rw [lft_put hs, lft_put (x := { x with puts := P' }) hs]
    show ((sortR P' 1).map (·.n)).drop _ = _
    rw [hn]
  · by_cases hc : x.commits = true
    · rw [lft_lock hs hc, lft_lock (x := { x with puts := P' }) hs hc, hf, hf]
      show ((sortR P' 1).map (·.n)).filter _ = _
      rw [hn]
      congr 1
      funext n
      cases hv : B.V[n.toNat]? with
      | some u =>
        obtain ⟨v, a, h1, rfl⟩ := h.avs hv
        rw [h1]
      | none =>
        rw [List.getElem?_eq_none (by have := List.getElem?_eq_none_iff.1 hv; rw [h.vl] at this; exact this)]
    · unfold lftR
      rw [if_neg hs, if_neg hc]
      rw [if_neg (show ¬ 0 < ({ x with puts := P' } : Tx).stamp from hs), if_neg (show ¬ ({ x with puts := P' } : Tx).commits = true from hc)]
theorem pv_sm {A B : Eg} (h : Sm A B) (hA : Pv A) (h0 : ∀ x, x ∈ A.T → ∀ p, p ∈ x.puts → 0 ≤ p.n) : Pv B := by
  have hat : ∀ {y : Tx}, y ∈ B.T → ∃ i x P', A.T[i]? = some x ∧ x ∈ A.T ∧ y = { x with puts := P' } ∧ SmP x.puts P' := fun {y} hy => by
    obtain ⟨i, hi⟩ := List.getElem?_of_mem hy
    obtain ⟨x, P', h1, h2, h3⟩ := h.ats hi
    exact ⟨i, x, P', h1, mem_of h1, h2, h3⟩
  refine ⟨⟨fun k u hu hl => ?_, fun y hy hs => ?_⟩, ⟨h.ck ▸ hA.wv.ck, fun u hu => ?_, fun y hy => ?_⟩, fun y hy => ?_, fun y hy q hq => ?_, fun i y hy hs j q hj hq => ?_, fun u hu => ?_⟩
  · obtain ⟨v, a, h1, rfl⟩ := h.avs hu
    obtain ⟨x, h2, h3⟩ := hA.lk.lk k v h1 hl
    have hl0 : (0 : Int) ≤ v.lock := hl
    obtain ⟨i, hi⟩ : ∃ i : Nat, v.lock = (i : Int) := ⟨v.lock.toNat, by omega⟩
    rw [hi, thR_nat] at h2
    obtain ⟨P', h4, h5⟩ := h.ts i x h2
    refine ⟨{ x with puts := P' }, by show thR B v.lock = _; rw [hi, thR_nat]; exact h4, h3.1, h3.2.1, ?_⟩
    obtain ⟨j, p, h6, h7, h8⟩ := h3.2.2
    have h9 : ((sortR P' 1).map (·.n))[j]? = some p.n := by rw [smP_sort h5 (h0 x (mem_of h2)), List.getElem?_map, h7]; rfl
    rw [List.getElem?_map, Option.map_eq_some_iff] at h9
    obtain ⟨p', h10, h11⟩ := h9
    exact ⟨j, p', h6, h10, h11.trans h8⟩
  · obtain ⟨i, x, P', h1, h2, rfl, h3⟩ := hat hy
    exact hA.lk.pt x h2 hs
  · obtain ⟨k, hk⟩ := List.getElem?_of_mem hu
    obtain ⟨v, a, h1, rfl⟩ := h.avs hk
    rw [h.ck]
    exact hA.wv.ver v (mem_of h1)
  · obtain ⟨i, x, P', h1, h2, rfl, h3⟩ := hat hy
    rw [h.ck]
    exact hA.wv.stm x h2
  · obtain ⟨i, x, P', h1, h2, rfl, h3⟩ := hat hy
    exact smP_un h3 (hA.un x h2)
  · obtain ⟨i, x, P', h1, h2, rfl, h3⟩ := hat hy
    obtain ⟨a, ha, _, e⟩ := smP_mem h3 hq
    rw [← e]
    exact hA.pr x h2 a ha
  · obtain ⟨x, P', h1, rfl, h3⟩ := h.ats hy
    have h9 : ((sortR x.puts 1).map (·.n))[j]? = some q.n := by rw [← smP_sort h3 (h0 x (mem_of h1)), List.getElem?_map]; show ((sortR P' 1)[j]?).map _ = _; rw [show (sortR P' 1)[j]? = some q from hq]; rfl
    rw [List.getElem?_map, Option.map_eq_some_iff] at h9
    obtain ⟨p', h10, h11⟩ := h9
    obtain ⟨v, h12, h13⟩ := hA.ow i x h1 hs j p' hj h10
    obtain ⟨a, h14⟩ := h.vs _ v h12
    rw [h11] at h14
    exact ⟨_, h14, h13⟩
  · obtain ⟨k, hk⟩ := List.getElem?_of_mem hu
    obtain ⟨v, a, h1, rfl⟩ := h.avs hk
    exact hA.lo v (mem_of h1)
theorem wg_sm {A B : Eg} (h : Sm A B) {m : Nat} (hA : Wg m A) : Wg m B := by
  have hat : ∀ {y : Tx}, y ∈ B.T → ∃ x P', x ∈ A.T ∧ y = { x with puts := P' } ∧ SmP x.puts P' := fun {y} hy => by
    obtain ⟨i, hi⟩ := List.getElem?_of_mem hy
    obtain ⟨x, P', h1, h2, h3⟩ := h.ats hi
    exact ⟨x, P', mem_of h1, h2, h3⟩
  refine ⟨⟨h.tl.trans hA.wf.th, by rw [h.vl]; exact hA.wf.vs, by rw [h.ck]; exact hA.wf.ck, fun y hy => ?_⟩, fun y hy => ?_, fun y hy => ?_⟩
  · obtain ⟨x, P', h1, rfl, h3⟩ := hat hy
    have hw := hA.wf.tx x h1
    refine ⟨hw.parts, hw.parts1, by show P'.length ≤ m; rw [smP_len h3]; exact hw.puts, hw.reads, by rw [h.vl]; exact hw.inr, fun p hp => ?_, fun hs => ?_⟩
    · obtain ⟨a, ha, e, _⟩ := smP_mem h3 hp
      rw [h.vl, ← e]
      exact hw.inp a ha
    · have h4 := hw.stamp hs
      have h5 := congrArg List.length (smP_sort h3 (fun p hp => (hw.inp p hp).1) 1)
      rw [List.length_map, List.length_map] at h5
      show 0 ≤ x.done ∧ x.done < ((sortR P' 1).length : Int)
      rw [h5]
      exact h4
  · obtain ⟨x, P', h1, rfl, h3⟩ := hat hy
    exact hA.com x h1
  · obtain ⟨x, P', h1, rfl, h3⟩ := hat hy
    exact hA.dn x h1

/-! ## The places -/
inductive Ad where
  | v (k : Nat)
  | t (i : Nat) (q n : Int)
deriving DecidableEq
def valA (E : Eg) : Ad → Int
  | .v k => match E.V[k]? with
    | some v => v.val
    | none => 0
  | .t i q n => match E.T[i]? with
    | some x => (gt x.puts n q).getD 0
    | none => 0
/-- Another value at a place. -/
def updA (E : Eg) (a : Ad) (u : Int) : Eg := match a with
  | .v k => match E.V[k]? with
    | some v => { E with V := E.V.set k { v with val := u } }
    | none => E
  | .t i q n => match E.T[i]? with
    | some x => setT E (i : Int) { x with puts := putR n u q x.puts }
    | none => E
/-- Is it a place of an engine's? -/
def InA (E : Eg) : Ad → Prop
  | .v k => ∃ v, E.V[k]? = some v
  | .t i q n => ∃ x, E.T[i]? = some x ∧ ∃ p, p ∈ x.puts ∧ p.n = n ∧ p.part = q
theorem sm_upd {E : Eg} {a : Ad} (h : InA E a) (u : Int) : Sm E (updA E a u) := by
  cases a with
  | v k =>
    obtain ⟨v, hv⟩ := h
    unfold updA
    simp only [hv]
    refine ⟨rfl, by simp, fun j y hy => ?_, rfl, fun i x hx => ⟨x.puts, hx, rfl⟩⟩
    show ∃ a, (E.V.set k { v with val := u })[j]? = _
    by_cases e : j = k
    · subst e
      rw [hv] at hy
      injection hy with hy
      subst hy
      exact ⟨u, List.getElem?_set_self (List.getElem?_eq_some_iff.1 hv).1⟩
    · exact ⟨y.val, by rw [List.getElem?_set_ne (Ne.symm e)]; exact hy⟩
  | t i q n =>
    obtain ⟨x, hx, hp⟩ := h
    unfold updA
    simp only [hx]
    unfold setT
    rw [Int.toNat_natCast]
    refine ⟨rfl, rfl, fun j y hy => ⟨y.val, hy⟩, by simp, fun j y hy => ?_⟩
    show ∃ P', (E.T.set i { x with puts := putR n u q x.puts })[j]? = _ ∧ _
    by_cases e : j = i
    · subst e
      rw [hx] at hy
      injection hy with hy
      subst hy
      exact ⟨_, List.getElem?_set_self (List.getElem?_eq_some_iff.1 hx).1, smP_put hp⟩
    · exact ⟨y.puts, by rw [List.getElem?_set_ne (Ne.symm e)]; exact hy, rfl⟩
theorem in_sm {A B : Eg} (h : Sm A B) {a : Ad} (ha : InA A a) : InA B a := by
  cases a with
  | v k =>
    obtain ⟨v, hv⟩ := ha
    obtain ⟨u, hu⟩ := h.vs k v hv
    exact ⟨_, hu⟩
  | t i q n =>
    obtain ⟨x, hx, p, hp, e1, e2⟩ := ha
    obtain ⟨P', h1, h2⟩ := h.ts i x hx
    obtain ⟨p', hp', e3, e4⟩ := smP_mem (smP_symm h2) hp
    exact ⟨_, h1, p', hp', e3.trans e1, e4.trans e2⟩
theorem val_upd {E : Eg} {a : Ad} (h : InA E a) (u : Int) (b : Ad) : valA (updA E a u) b = if b = a then u else valA E b := by
  cases a with
  | v k =>
    obtain ⟨v, hv⟩ := h
    unfold updA
    simp only [hv]
    cases b with
    | v j =>
      show (match (E.V.set k { v with val := u })[j]? with | some v => v.val | none => 0) = _
      by_cases e : j = k
      · subst e
        rw [if_pos rfl, List.getElem?_set_self (List.getElem?_eq_some_iff.1 hv).1]
      · rw [if_neg (fun h => e (by injection h)), List.getElem?_set_ne (Ne.symm e)]
        rfl
    | t i q n => rw [if_neg (fun h => by cases h)]; rfl
  | t i q n =>
    obtain ⟨x, hx, hp⟩ := h
    unfold updA
    simp only [hx]
    unfold setT
    rw [Int.toNat_natCast]
    cases b with
    | v j => rw [if_neg (fun h => by cases h)]; rfl
    | t j q' n' =>
      show (match (E.T.set i { x with puts := putR n u q x.puts })[j]? with | some x => (gt x.puts n' q').getD 0 | none => 0) = _
      by_cases e : j = i
      · subst e
        rw [List.getElem?_set_self (List.getElem?_eq_some_iff.1 hx).1]
        simp only
        rw [gt_put]
        by_cases e2 : n' = n ∧ q' = q
        · rw [if_pos e2, if_pos (by rw [e2.1, e2.2])]; rfl
        · rw [if_neg e2, if_neg (fun h => e2 (by injection h with _ h1 h2; exact ⟨h2, h1⟩))]
          show _ = (match E.T[j]? with | some x => (gt x.puts n' q').getD 0 | none => 0)
          rw [hx]
      · rw [List.getElem?_set_ne (Ne.symm e), if_neg (fun h => e (by injection h))]
        rfl
/-- The places of a part, of a transaction's parts from q on, of the transactions. -/
def adP (i : Nat) (P : List Pt) (q : Nat) : List Ad := ((sortR P ((q : Int) + 1)).map (·.n)).map fun n => Ad.t i ((q : Int) + 1) n
def adX (i : Nat) (x : Tx) : List Ad := if x.is then (List.range x.parts.toNat).flatMap (adP i x.puts) else []
def adT (i : Nat) (T : List Tx) : List Ad := match T with
  | [] => []
  | x :: l => adX i x ++ adT (i + 1) l
def adE (E : Eg) : List Ad := (List.range E.V.length).map Ad.v ++ adT 0 E.T
theorem partsW_flat (x : Tx) : ∀ k : Nat, partsW x k = (List.range k).flatMap fun (q : Nat) => (sortR x.puts ((q : Int) + 1)).map (·.v)
  | 0 => rfl
  | k + 1 => by
    show partsW x k ++ _ = _
    rw [partsW_flat x k, List.range_succ, List.flatMap_append]
    simp
theorem adP_val {E : Eg} {i : Nat} {x : Tx} (hx : E.T[i]? = some x) (hu : Un x.puts) (q : Nat) : (adP i x.puts q).map (valA E) = (sortR x.puts ((q : Int) + 1)).map (·.v) := by
  unfold adP
  rw [List.map_map, List.map_map]
  apply List.map_congr_left
  intro p hp
  show (match E.T[i]? with | some x => (gt x.puts p.n ((q : Int) + 1)).getD 0 | none => 0) = p.v
  rw [hx]
  obtain ⟨h1, h2⟩ := sortR_mem hp
  simp only
  rw [← h2, mem_gt hu h1]
  rfl
theorem adX_val {E : Eg} {i : Nat} {x : Tx} (hx : E.T[i]? = some x) (hu : Un x.puts) : (adX i x).map (valA E) = txW x := by
  unfold adX txW
  cases x.is with
  | false => rfl
  | true =>
    simp only [if_true]
    rw [partsW_flat, List.map_flatMap]
    congr 1
    funext q
    exact adP_val hx hu q
theorem adT_val {E : Eg} (hu : ∀ x, x ∈ E.T → Un x.puts) : ∀ (T : List Tx) (i : Nat), (∀ (j : Nat) (x : Tx), T[j]? = some x → E.T[i + j]? = some x) → (adT i T).map (valA E) = (T.map txW).flatten
  | [], i, _ => rfl
  | x :: l, i, h => by
    have hx : E.T[i]? = some x := h 0 x rfl
    show (adX i x ++ adT (i + 1) l).map _ = txW x ++ (l.map txW).flatten
    rw [List.map_append, adX_val hx (hu x (mem_of hx)), adT_val hu l (i + 1) fun j y hy => by have := h (j + 1) y hy; rwa [show i + 1 + j = i + (j + 1) by omega]]
theorem adE_val {E : Eg} (hu : ∀ x, x ∈ E.T → Un x.puts) : (adE E).map (valA E) = wordsR E := by
  unfold adE wordsR
  rw [List.map_append, adT_val hu E.T 0 (fun j x h => by rw [Nat.zero_add]; exact h)]
  congr 1
  apply List.ext_getElem?
  intro k
  rw [List.getElem?_map, List.getElem?_map, List.getElem?_map]
  by_cases hk : k < E.V.length
  · rw [List.getElem?_range hk, List.getElem?_eq_getElem hk]
    show some (match E.V[k]? with | some v => v.val | none => 0) = _
    rw [List.getElem?_eq_getElem hk]
    rfl
  · rw [List.getElem?_eq_none (by simpa using hk), List.getElem?_eq_none (by omega)]
    rfl
theorem adX_sm {i : Nat} {x : Tx} {P' : List Pt} (h : SmP x.puts P') (h0 : ∀ p, p ∈ x.puts → 0 ≤ p.n) : adX i { x with puts := P' } = adX i x := by
  unfold adX
  have : adP i P' = adP i x.puts := by
    funext q
    unfold adP
    rw [smP_sort h h0]
  show (if x.is then (List.range x.parts.toNat).flatMap (adP i P') else []) = _
  rw [this]
theorem adT_sm : ∀ {T T' : List Tx} {i : Nat}, T'.length = T.length → (∀ (j : Nat) (x : Tx), T[j]? = some x → ∃ P', T'[j]? = some { x with puts := P' } ∧ SmP x.puts P') → (∀ x, x ∈ T → ∀ p, p ∈ x.puts → 0 ≤ p.n) → adT i T' = adT i T
  | [], [], i, _, _, _ => rfl
  | [], _ :: _, i, h, _, _ => by cases h
  | _ :: _, [], i, h, _, _ => by cases h
  | x :: l, y :: l', i, hl, h, h0 => by
    obtain ⟨P', h1, h2⟩ := h 0 x rfl
    injection h1 with h1
    show adX i y ++ adT (i + 1) l' = adX i x ++ adT (i + 1) l
    rw [h1, adX_sm h2 (h0 x List.mem_cons_self), adT_sm (T := l) (T' := l') (by simpa using hl) (fun j z hz => h (j + 1) z hz) (fun z hz => h0 z (List.mem_cons_of_mem _ hz))]
theorem adE_sm {A B : Eg} (h : Sm A B) (h0 : ∀ x, x ∈ A.T → ∀ p, p ∈ x.puts → 0 ≤ p.n) : adE B = adE A := by
  unfold adE
  rw [h.vl, adT_sm h.tl h.ts h0]
/-! ## Which are places -/
theorem mem_adX {i j : Nat} {x : Tx} {a : Ad} (h : a ∈ adX i x) : ∃ q n, a = Ad.t i q n ∧ ∃ p, p ∈ x.puts ∧ p.n = n ∧ p.part = q := by
  unfold adX at h
  split at h
  · obtain ⟨q, _, hq⟩ := List.mem_flatMap.1 h
    obtain ⟨n, hn, rfl⟩ := List.mem_map.1 hq
    obtain ⟨p, hp, rfl⟩ := List.mem_map.1 hn
    obtain ⟨h1, h2⟩ := sortR_mem hp
    exact ⟨_, _, rfl, p, h1, rfl, h2⟩
  · cases h
theorem mem_adT : ∀ {T : List Tx} {i : Nat} {a : Ad}, a ∈ adT i T → ∃ j x q n, T[j]? = some x ∧ a = Ad.t (i + j) q n ∧ ∃ p, p ∈ x.puts ∧ p.n = n ∧ p.part = q
  | [], i, a, h => by cases h
  | x :: l, i, a, h => by
    rcases List.mem_append.1 (show a ∈ adX i x ++ adT (i + 1) l from h) with h | h
    · obtain ⟨q, n, h1, h2⟩ := mem_adX (j := 0) h
      exact ⟨0, x, q, n, rfl, h1, h2⟩
    · obtain ⟨j, y, q, n, h1, h2, h3⟩ := mem_adT h
      exact ⟨j + 1, y, q, n, h1, by rw [h2, show i + 1 + j = i + (j + 1) by omega], h3⟩
theorem adE_in {E : Eg} {a : Ad} (h : a ∈ adE E) : InA E a := by
  rcases List.mem_append.1 h with h | h
  · obtain ⟨k, hk, rfl⟩ := List.mem_map.1 h
    exact ⟨_, List.getElem?_eq_getElem (List.mem_range.1 hk)⟩
  · obtain ⟨j, x, q, n, h1, rfl, h2⟩ := mem_adT h
    rw [Nat.zero_add]
    exact ⟨x, h1, h2⟩
theorem nd_adP (i : Nat) (P : List Pt) (q : Nat) : (adP i P q).Nodup := by
  unfold adP
  refine List.pairwise_map.2 (List.Pairwise.imp (fun h e => ?_) (sort_up P ((q : Int) + 1)))
  injection e with _ _ e
  omega
theorem nd_adX (i : Nat) (x : Tx) : (adX i x).Nodup := by
  unfold adX
  split
  · have key : ∀ K : Nat, ((List.range K).flatMap (adP i x.puts)).Nodup ∧ ∀ a, a ∈ (List.range K).flatMap (adP i x.puts) → ∃ q n, q < K ∧ a = Ad.t i ((q : Int) + 1) n := by
      intro K
      induction K with
      | zero => exact ⟨List.nodup_nil, fun a h => by cases h⟩
      | succ K ih =>
        rw [List.range_succ, List.flatMap_append]
        have hs : [K].flatMap (adP i x.puts) = adP i x.puts K := by simp
        rw [hs]
        have hm : ∀ a, a ∈ adP i x.puts K → ∃ n, a = Ad.t i ((K : Int) + 1) n := fun a ha => by
          obtain ⟨n, _, rfl⟩ := List.mem_map.1 ha
          exact ⟨n, rfl⟩
        refine ⟨List.nodup_append.2 ⟨ih.1, nd_adP i x.puts K, fun a ha b hb e => ?_⟩, fun a ha => ?_⟩
        · obtain ⟨q, n, hq, h1⟩ := ih.2 a ha
          obtain ⟨n', h2⟩ := hm b hb
          rw [h1, h2] at e
          injection e with _ e
          omega
        · rcases List.mem_append.1 ha with ha | ha
          · obtain ⟨q, n, hq, h1⟩ := ih.2 a ha
            exact ⟨q, n, by omega, h1⟩
          · obtain ⟨n', h2⟩ := hm a ha
            exact ⟨K, n', by omega, h2⟩
    exact (key _).1
  · exact List.nodup_nil
theorem nd_adT : ∀ (T : List Tx) (i : Nat), (adT i T).Nodup
  | [], i => List.nodup_nil
  | x :: l, i => by
    refine List.nodup_append.2 ⟨nd_adX i x, nd_adT l (i + 1), fun a ha b hb e => ?_⟩
    obtain ⟨q, n, h1, _⟩ := mem_adX (j := 0) ha
    obtain ⟨j, y, q', n', _, h2, _⟩ := mem_adT hb
    rw [h1, h2] at e
    injection e with e
    omega
theorem nd_adE (E : Eg) : (adE E).Nodup := by
  refine List.nodup_append.2 ⟨?_, nd_adT _ _, fun a ha b hb e => ?_⟩
  · exact List.pairwise_map.2 (List.Pairwise.imp (fun h e => h (by injection e)) List.nodup_range)
  · obtain ⟨k, _, rfl⟩ := List.mem_map.1 ha
    obtain ⟨j, y, q', n', _, h2, _⟩ := mem_adT hb
    rw [h2] at e
    cases e
/-! ## Others' answers -/
/-- What is answered to values, one behind the other. -/
def ans (r : List Int → Int → Int) : List Int → List Int → List Int
  | _, [] => []
  | pre, v :: l => r pre v :: ans r (pre ++ [v]) l
theorem ans_snoc (r : List Int → Int → Int) : ∀ (l pre : List Int) (v : Int), ans r pre (l ++ [v]) = ans r pre l ++ [r (pre ++ l) v]
  | [], pre, v => by show [r pre v] = [r (pre ++ []) v]; rw [List.append_nil]
  | a :: l, pre, v => by
    show r pre a :: ans r (pre ++ [a]) (l ++ [v]) = r pre a :: (ans r (pre ++ [a]) l ++ _)
    rw [ans_snoc r l (pre ++ [a]) v, List.append_assoc]
    rfl
theorem ans_len (r : List Int → Int → Int) : ∀ (l pre : List Int), (ans r pre l).length = l.length
  | [], _ => rfl
  | _ :: l, pre => by show (ans r _ l).length + 1 = _; rw [ans_len r l]; rfl
/-- An engine on the way: what is done, and what is to come. -/
structure Way (r : List Int → Int → Int) (E Ec : Eg) (done rem : List Ad) : Prop where
  all : adE E = done ++ rem
  sm : Sm E Ec
  dn : done.map (valA Ec) = ans r [] (done.map (valA E))
  rm : ∀ a, a ∈ rem → valA Ec a = valA E a
theorem way_start (r : List Int → Int → Int) (E : Eg) : Way r E E [] (adE E) := ⟨rfl, Sm.refl E, rfl, fun _ _ => rfl⟩
theorem Way.step {r : List Int → Int → Int} {E Ec : Eg} {done rem : List Ad} {a : Ad} (h : Way r E Ec done (a :: rem)) : Way r E (updA Ec a (r (done.map (valA E)) (valA E a))) (done ++ [a]) rem := by
  have hnd := nd_adE E
  rw [h.all] at hnd
  have hin : InA Ec a := in_sm h.sm (adE_in (by rw [h.all]; simp))
  have h1 := List.nodup_append.1 hnd
  refine ⟨by rw [h.all]; simp, h.sm.trans (sm_upd hin _), ?_, fun b hb => ?_⟩
  · rw [List.map_append, List.map_append, List.map_singleton, List.map_singleton, ans_snoc, List.nil_append]
    congr 1
    · rw [← h.dn]
      apply List.map_congr_left
      intro b hb
      rw [val_upd hin, if_neg (fun e => h1.2.2 b hb a (by simp) e)]
    · rw [val_upd hin, if_pos rfl]
  · rw [val_upd hin, if_neg (fun e => (List.nodup_cons.1 h1.2.1).1 (by rw [← e]; exact hb))]
    exact h.rm b (List.mem_cons_of_mem _ hb)
theorem Way.end_ {r : List Int → Int → Int} {E Ec : Eg} {done : List Ad} (h : Way r E Ec done []) (hu : ∀ x, x ∈ E.T → Un x.puts) (h0 : ∀ x, x ∈ E.T → ∀ p, p ∈ x.puts → 0 ≤ p.n) (hu' : ∀ x, x ∈ Ec.T → Un x.puts) : wordsR Ec = ans r [] (wordsR E) ∧ done.map (valA E) = wordsR E := by
  have hd : done = adE E := by rw [h.all]; simp
  rw [← adE_val hu', ← adE_val hu, adE_sm h.sm h0, ← hd]
  exact ⟨h.dn, rfl⟩
end Go.Proofs.Ytjoifodjbdbicaa.PW

/- What stands of the program's engine stands behind each deed, plainly. -/
namespace Go.Proofs.Ytjoifodjbdbicaa.QB
open Go.Proofs.Ytjoifodjbdbicaa.UA Go.Proofs.Ytjoifodjbdbicaa.UB Go.Proofs.Ytjoifodjbdbicaa.UD Go.Proofs.Ytjoifodjbdbicaa.UE Go.Proofs.Ytjoifodjbdbicaa.UG Go.Proofs.Ytjoifodjbdbicaa.UQ Go.Proofs.Ytjoifodjbdbicaa.UU Go.Proofs.Ytjoifodjbdbicaa.UX Go.Proofs.Ytjoifodjbdbicaa.UZ Go.Proofs.Ytjoifodjbdbicaa.PA Go.Proofs.Ytjoifodjbdbicaa.PC Go.Proofs.Ytjoifodjbdbicaa.PQ
set_option linter.unusedVariables false
set_option maxRecDepth 100000
set_option maxRecDepth 100000

/-- What 'Pv' says beyond locks and versions. -/
structure Pw (E : Eg) : Prop where
  un : ∀ x, x ∈ E.T → Un x.puts
  pr : ∀ x, x ∈ E.T → ∀ q, q ∈ x.puts → 1 ≤ q.part ∧ q.part ≤ x.parts
  ow : ∀ (i : Nat) (x : Tx), E.T[i]? = some x → 0 < x.stamp → ∀ (j : Nat) (q : Pt), x.done.toNat ≤ j → (sortR x.puts 1)[j]? = some q → ∃ v, E.V[q.n.toNat]? = some v ∧ v.lock = (i : Int)
  lo : ∀ v, v ∈ E.V → -1 ≤ v.lock
theorem Pw.pv {E : Eg} (h : Pw E) (h1 : Lk E) (h2 : Wv E) : Pv E := ⟨h1, h2, h.un, h.pr, h.ow, h.lo⟩
theorem pw_of {E : Eg} (h : Pv E) : Pw E := ⟨h.un, h.pr, h.ow, h.lo⟩
theorem thR_at {E : Eg} {t : Int} {y : Tx} (h : thR E t = some y) : E.T[t.toNat]? = some y ∧ ((t.toNat : Nat) : Int) = t := by
  unfold thR at h
  split at h
  · next h0 => exact ⟨h, Int.toNat_of_nonneg h0⟩
  · cases h
theorem pw_set {E : Eg} (h : Pw E) {t : Int} {y : Tx} (hy : thR E t = some y) {V : List Vr} {c : Int} {x : Tx} (hu : Un x.puts) (hp : ∀ q, q ∈ x.puts → 1 ≤ q.part ∧ q.part ≤ x.parts)
    (ho : 0 < x.stamp → ∀ (j : Nat) (q : Pt), x.done.toNat ≤ j → (sortR x.puts 1)[j]? = some q → ∃ v, V[q.n.toNat]? = some v ∧ v.lock = t)
    (hV : ∀ (k : Nat) (u : Vr), E.V[k]? = some u → ¬ u.lock = t → 0 ≤ u.lock → ∃ u', V[k]? = some u' ∧ u'.lock = u.lock) (hl : ∀ v, v ∈ V → -1 ≤ v.lock) : Pw { setT E t x with V := V, clock := c } := by
  obtain ⟨hat, hnn⟩ := thR_at hy
  have hmem : ∀ z, z ∈ E.T.set t.toNat x → z ∈ E.T ∨ z = x := fun z hz => List.mem_or_eq_of_mem_set hz
  refine ⟨fun z hz => ?_, fun z hz => ?_, fun i z hz hs j q hj hq => ?_, hl⟩
  · rcases hmem z hz with hz | rfl
    · exact h.un z hz
    · exact hu
  · rcases hmem z hz with hz | rfl
    · exact h.pr z hz
    · exact hp
  · have hz : (E.T.set t.toNat x)[i]? = some z := hz
    rw [List.getElem?_set] at hz
    split at hz
    · next e =>
      split at hz
      · injection hz with hz
        subst hz
        rw [← e, hnn]
        exact ho hs j q hj hq
      · cases hz
    · next e =>
      obtain ⟨v, h1, h2⟩ := h.ow i z hz hs j q hj hq
      obtain ⟨u', h3, h4⟩ := hV _ v h1 (fun k => e (by omega)) (by omega)
      exact ⟨u', h3, h4.trans h2⟩
theorem pw_set0 {E : Eg} (h : Pw E) {t : Int} {y : Tx} (hy : thR E t = some y) {x : Tx} (hu : Un x.puts) (hp : ∀ q, q ∈ x.puts → 1 ≤ q.part ∧ q.part ≤ x.parts)
    (ho : 0 < x.stamp → ∀ (j : Nat) (q : Pt), x.done.toNat ≤ j → (sortR x.puts 1)[j]? = some q → ∃ v, E.V[q.n.toNat]? = some v ∧ v.lock = t) : Pw (setT E t x) :=
  pw_set (V := E.V) (c := E.clock) h hy hu hp ho (fun k u hu _ _ => ⟨u, hu, rfl⟩) h.lo
theorem pw_new : Pw newR := ⟨(fun x hx => by rw [new_tx hx]; exact List.Pairwise.nil), (fun x hx q hq => by rw [new_tx hx] at hq; cases hq), (fun i x hx hs => by rw [new_tx (mem_of hx)] at hs; exact absurd hs (by decide)), (fun v hv => by cases hv)⟩
theorem putR_part {n v q : Int} : ∀ {l : List Pt} {p : Pt}, p ∈ putR n v q l → p.part = q ∨ ∃ a, a ∈ l ∧ a.part = p.part
  | [], p, h => .inl (by rw [List.mem_singleton.1 h])
  | a :: l, p, h => by
    unfold putR at h
    split at h
    · rcases List.mem_cons.1 h with rfl | h
      · exact .inr ⟨a, by simp, rfl⟩
      · exact .inr ⟨p, List.mem_cons_of_mem _ h, rfl⟩
    · rcases List.mem_cons.1 h with rfl | h
      · exact .inr ⟨p, by simp, rfl⟩
      · rcases putR_part h with h | ⟨b, h1, h2⟩
        · exact .inl h
        · exact .inr ⟨b, List.mem_cons_of_mem _ h1, h2⟩
theorem first_mine {V : List Vr} {t : Int} : ∀ {l : List Pt}, firstR V t l = none → ∀ q, q ∈ l → ∀ v, V[q.n.toNat]? = some v → v.lock = t
  | [], _, q, hq => by cases hq
  | p :: l, h, q, hq => fun v hv => by
    unfold firstR at h
    rcases List.mem_cons.1 hq with rfl | hq
    · rw [hv] at h
      simp only at h
      split at h
      · next e => exact e
      · cases h
    · split at h
      · split at h
        · exact first_mine h q hq v hv
        · cases h
      · exact first_mine h q hq v hv
theorem opn_both {x : Tx} (h : opn x = true) : x.is = true ∧ x.commits = false := by
  unfold opn at h
  cases h1 : x.is <;> cases h2 : x.commits <;> simp [h1, h2] at h ⊢
theorem pw_nil {P : List Pt} (h : P = []) : Un P ∧ ∀ x : Int, ∀ q, q ∈ P → 1 ≤ q.part ∧ q.part ≤ x := by
  subst h
  exact ⟨List.Pairwise.nil, fun _ q hq => by cases hq⟩
section
variable {E : Eg} {m : Nat}
theorem pw_begin (h : Pw E) (t : Int) : Pw (beginR E t).1 := by
  unfold beginR
  split
  · next x hx =>
    split
    · exact h
    · exact pw_set0 h hx (pw_nil rfl).1 ((pw_nil rfl).2 _) (fun hs => absurd hs (by show ¬ (0:Int) < 0; decide))
  · exact h
theorem pw_read (h : Pw E) (t n : Int) : Pw (readR E t n).1 := by
  unfold readR
  split
  · next x v hx hv =>
    split
    · obtain ⟨hat, hnn⟩ := thR_at hx
      exact pw_set0 h hx (h.un x (mem_of hat)) (h.pr x (mem_of hat)) (fun hs j q hj hq => by
        obtain ⟨u, h1, h2⟩ := h.ow _ x hat hs j q hj hq
        exact ⟨u, h1, h2.trans hnn⟩)
    · exact h
  · exact h
theorem pw_write (h : Pw E) (hg : Wg m E) (t n v : Int) : Pw (writeR E t n v).1 := by
  unfold writeR
  split
  · next x u hx hu =>
    split
    · next ho =>
      obtain ⟨hat, hnn⟩ := thR_at hx
      have hxm := mem_of hat
      have hp1 := (hg.wf.tx x hxm).parts1 (opn_both ho).1
      exact pw_set0 h hx (put_un (h.un x hxm)) (fun q hq => by
        rcases putR_part hq with e | ⟨a, h1, h2⟩
        · show 1 ≤ q.part ∧ q.part ≤ x.parts
          rw [e]
          omega
        · show 1 ≤ q.part ∧ q.part ≤ x.parts
          rw [← h2]
          exact h.pr x hxm a h1) (fun hs => absurd (show 0 < x.stamp from hs) (open_stamp hg hxm ho))
    · exact h
  · exact h
theorem pw_part (h : Pw E) (hg : Wg m E) (t : Int) : Pw (partR E t).1 := by
  unfold partR
  split
  · next x hx =>
    split
    · next ho =>
      obtain ⟨hat, hnn⟩ := thR_at hx
      have hxm := mem_of hat
      exact pw_set0 h hx (h.un x hxm) (fun q hq => by
        have := h.pr x hxm q hq
        show 1 ≤ q.part ∧ q.part ≤ x.parts + 1
        omega) (fun hs => absurd (show 0 < x.stamp from hs) (open_stamp hg hxm ho))
    · exact h
  · exact h
theorem pw_shut (h : Pw E) (hg : Wg m E) (t : Int) (keep : Bool) : Pw (shutR E t keep).1 := by
  unfold shutR
  split
  · next x hx =>
    split
    · next ho =>
      obtain ⟨hat, hnn⟩ := thR_at hx
      have hxm := mem_of hat
      have hp1 := (hg.wf.tx x hxm).parts1 (opn_both ho.1).1
      have h2 : 2 ≤ x.parts := by have := ho.2; omega
      exact pw_set0 h hx (shut_un (h.un x hxm) keep) (fun q hq => shut_part (h.pr x hxm) h2 hq) (fun hs => absurd (show 0 < x.stamp from hs) (open_stamp hg hxm ho.1))
    · exact h
  · exact h
theorem mem_set_lo {V : List Vr} {k : Nat} {u : Vr} (hV : ∀ v, v ∈ V → -1 ≤ v.lock) (hu : -1 ≤ u.lock) : ∀ v, v ∈ V.set k u → -1 ≤ v.lock := fun v hv => by
  rcases List.mem_or_eq_of_mem_set hv with h | rfl
  · exact hV v h
  · exact hu
theorem pw_step (h : Pw E) (hg : Wg m E) (hv0 : Wv E) (t : Int) : Pw (stepR E t).1 := by
  unfold stepR
  split
  · exact h
  · next x hx =>
    obtain ⟨hat, hnn⟩ := thR_at hx
    have hxm := mem_of hat
    have hun := h.un x hxm
    have hpr := h.pr x hxm
    have hwf := hg.wf.tx x hxm
    split
    · exact h
    · next hni =>
      split
      · next hst =>
        split
        · exact h
        · next p hp =>
          obtain ⟨v0, hv0, hl0⟩ := h.ow _ x hat hst _ p (Nat.le_refl _) hp
          rw [hnn] at hl0
          have hVV : ∀ (k : Nat) (u : Vr), E.V[k]? = some u → ¬ u.lock = t → 0 ≤ u.lock → ∃ u', (E.V.set p.n.toNat ⟨p.v, x.stamp, -1⟩)[k]? = some u' ∧ u'.lock = u.lock := fun k u hu hn _ => by
            have hk : ¬ p.n.toNat = k := fun e => by
              rw [← e, hv0] at hu
              injection hu with hu
              exact hn (hu ▸ hl0)
            exact ⟨u, by rw [List.getElem?_set_ne hk]; exact hu, rfl⟩
          have hlo := mem_set_lo (k := p.n.toNat) (u := ⟨p.v, x.stamp, -1⟩) h.lo (Int.le_refl _)
          split
          · refine pw_set (c := E.clock) h hx hun hpr (fun hs j q hj hq => ?_) hVV hlo
            have hd0 := (hwf.stamp hst).1
            have hj : x.done.toNat + 1 ≤ j := by have hj : (x.done + 1).toNat ≤ j := hj; omega
            have hq : (sortR x.puts 1)[j]? = some q := hq
            obtain ⟨u, h1, h2⟩ := h.ow _ x hat hst j q (by omega) hq
            rw [hnn] at h2
            have hup := List.pairwise_iff_getElem.1 (sort_up x.puts 1)
            obtain ⟨l1, e1⟩ := List.getElem?_eq_some_iff.1 hp
            obtain ⟨l2, e2⟩ := List.getElem?_eq_some_iff.1 hq
            have hlt := hup x.done.toNat j (by simpa using l1) (by simpa using l2) (by omega)
            simp only [List.getElem_map, e1, e2] at hlt
            have hp0 := (hwf.inp p (sortR_mem (mem_of hp)).1).1
            exact ⟨u, by rw [List.getElem?_set_ne (by omega)]; exact h1, h2⟩
          · exact pw_set (c := E.clock) h hx (pw_nil rfl).1 ((pw_nil rfl).2 _) (fun hs => absurd hs (by show ¬ (0:Int) < 0; decide)) hVV hlo
      · next hst =>
        split
        · next n v hf =>
          split
          · exact pw_set0 h hx hun hpr (fun hs => absurd hs hst)
          · next hlk =>
            have hfa := (firstR_at hf).1
            refine pw_set (c := E.clock) h hx hun hpr (fun hs => absurd hs hst) (fun k u hu _ h0 => ?_) (mem_set_lo h.lo (by show -1 ≤ t; omega))
            have hk : ¬ n.toNat = k := fun e => by
              rw [← e, hfa] at hu
              injection hu with hu
              rw [hu] at hlk
              omega
            exact ⟨u, by rw [List.getElem?_set_ne hk]; exact hu, rfl⟩
        · next hf =>
          split
          · split
            · exact pw_set0 h hx (pw_nil rfl).1 ((pw_nil rfl).2 _) (fun hs => absurd hs (by show ¬ (0:Int) < 0; decide))
            · refine pw_set (V := E.V) h hx hun hpr (fun hs j q hj hq => ?_) (fun k u hu _ _ => ⟨u, hu, rfl⟩) h.lo
              have hq : (sortR x.puts 1)[j]? = some q := hq
              have hqm := mem_of hq
              have hin := hwf.inp q (sortR_mem hqm).1
              obtain ⟨v, hv⟩ : ∃ v, E.V[q.n.toNat]? = some v := ⟨_, List.getElem?_eq_getElem (by omega)⟩
              exact ⟨v, hv, first_mine hf q hqm v hv⟩
          · exact pw_set0 h hx hun hpr (fun hs => absurd hs hst)
theorem pw_abort (h : Pw E) (t : Int) : Pw (abortR E t).1 := by
  unfold abortR
  split
  · exact h
  · next x hx =>
    split
    · exact h
    · refine pw_set (c := E.clock) h hx (pw_nil rfl).1 ((pw_nil rfl).2 _) (fun hs => absurd hs (by show ¬ (0:Int) < 0; decide)) (fun k u hu hn _ => ?_) (fun v hv => ?_)
      · refine ⟨unlock t u, by rw [List.getElem?_map, hu]; rfl, ?_⟩
        unfold unlock
        rw [if_neg hn]
      · obtain ⟨u, hu, rfl⟩ := List.mem_map.1 hv
        have := h.lo u hu
        unfold unlock
        split
        · exact Int.le_refl _
        · exact this
theorem pw_make (h : Pw E) (v : Int) : Pw (makeR E v).1 := by
  unfold makeR
  split
  · exact h
  · refine ⟨h.un, h.pr, fun i x hx hs j q hj hq => ?_, fun u hu => ?_⟩
    · obtain ⟨u, h1, h2⟩ := h.ow i x hx hs j q hj hq
      exact ⟨u, by rw [List.getElem?_append_left (List.getElem?_eq_some_iff.1 h1).1]; exact h1, h2⟩
    · rcases List.mem_append.1 (show u ∈ E.V ++ [_] from hu) with h1 | h1
      · exact h.lo u h1
      · rw [List.mem_singleton.1 h1]; exact Int.le_refl _
theorem pw_deed (h : Pw E) (hg : Wg m E) (hv : Wv E) (d : Dd) : Pw (deedR E d).1 := by
  unfold deedR
  split; exact pw_begin h d.t
  split; exact pw_read h d.t d.n
  split; exact pw_write h hg d.t d.n d.v
  split; exact pw_step h hg hv d.t
  split; exact pw_part h hg d.t
  split; exact pw_shut h hg d.t true
  split; exact pw_shut h hg d.t false
  split; exact pw_abort h d.t
  split; exact pw_make h d.v
  split; exact h
  exact h
theorem pv_deed (h : Pv E) (hg : Wg m E) (d : Dd) : Pv (deedR E d).1 := (pw_deed (pw_of h) hg h.wv d).pv (lk_deed h.lk hg h.wv d) (wv_deed h.wv d)
end
theorem pv_new : Pv newR := pw_new.pv lk_new wv_new
end Go.Proofs.Ytjoifodjbdbicaa.QB
