/- Patterns, values, types of places; whether a row means something that no row ahead does: plainly. -/
import Derived.Lib.Hide
namespace Go.Proofs.Ytommaomhiaaphaa.CA
set_option linter.unusedVariables false
set_option maxRecDepth 100000

abbrev By := List UInt8
inductive Nd where
  | mk (k n : Int) (s : By) (kids : List Nd)
def Nd.k : Nd → Int | .mk k _ _ _ => k
def Nd.n : Nd → Int | .mk _ n _ _ => n
def Nd.s : Nd → By | .mk _ _ s _ => s
def Nd.kids : Nd → List Nd | .mk _ _ _ l => l
def anyNd : Nd := .mk 24 0 [] []
instance : Inhabited Nd := ⟨anyNd⟩
structure Cn where
  nm : By
  of : By
  tag : Nat
  ar : Nat
  many : Nat
  deriving DecidableEq, Inhabited

def anyB (p : Nd) : Bool := p.k == 24 || p.k == 4

inductive Vl where
  | num (n : Int)
  | con (nm : By) (ps : List Vl)
inductive Ty where
  | any
  | int
  | con (of : By) (ch : By → Nat → Ty)

def Typed (C : List Cn) : Ty → Vl → Prop
  | .any, _ => True
  | .int, v => ∃ n, v = .num n
  | .con of ch, v => ∃ c ps, c ∈ C ∧ c.of = of ∧ v = .con c.nm ps ∧ ps.length = c.ar ∧ ∀ (i : Nat) x, ps[i]? = some x → Typed C (ch c.nm i) x
def Conf (C : List Cn) : Ty → Nd → Prop
  | .any, p => anyB p = true ∧ p.kids = []
  | .int, p => (anyB p = true ∧ p.kids = []) ∨ (p.k = 1 ∧ p.s = [] ∧ p.kids = [])
  | .con of ch, p => (anyB p = true ∧ p.kids = []) ∨ (p.k = 5 ∧ p.n = 0 ∧ ∃ c, c ∈ C ∧ c.nm = p.s ∧ c.of = of ∧ p.kids.length = c.ar ∧ ∀ (i : Nat) q, p.kids[i]? = some q → Conf C (ch c.nm i) q)
def Good (C : List Cn) : Ty → Prop
  | .any => True
  | .int => True
  | .con of ch => (∃ c, c ∈ C ∧ c.of = of) ∧ ∀ d i, Good C (ch d i)

mutual
def means : Nd → Vl → Bool
  | .mk k n s kids, v => if k = 24 ∨ k = 4 then true else match v with
    | .num m => k == 1 && m == n
    | .con d ps => k == 5 && d == s && meansL kids ps
def meansL : List Nd → List Vl → Bool
  | [], [] => true
  | p :: ps, v :: vs => means p v && meansL ps vs
  | [], _ :: _ => false
  | _ :: _, [] => false
end

def TypedL (C : List Cn) : List Ty → List Vl → Prop
  | [], [] => True
  | t :: ts, v :: vs => Typed C t v ∧ TypedL C ts vs
  | [], _ :: _ => False
  | _ :: _, [] => False
def ConfL (C : List Cn) : List Ty → List Nd → Prop
  | [], [] => True
  | t :: ts, v :: vs => Conf C t v ∧ ConfL C ts vs
  | [], _ :: _ => False
  | _ :: _, [] => False

theorem means_any {p : Nd} (h : anyB p = true) (v : Vl) : means p v = true := by
  obtain ⟨k, n, s, l⟩ := p
  simp [anyB, Nd.k] at h
  simp [means, h]
theorem means_num {p : Nd} (h : anyB p = false) (m : Int) : means p (.num m) = (p.k == 1 && m == p.n) := by
  obtain ⟨k, n, s, l⟩ := p
  simp [anyB, Nd.k] at h
  simp [means, h, Nd.k, Nd.n]
theorem means_con {p : Nd} (h : anyB p = false) (d : By) (ps : List Vl) : means p (.con d ps) = (p.k == 5 && d == p.s && meansL p.kids ps) := by
  obtain ⟨k, n, s, l⟩ := p
  simp [anyB, Nd.k] at h
  simp [means, h, Nd.k, Nd.s, Nd.kids]

theorem TypedL.len {C : List Cn} : ∀ {ts : List Ty} {vs : List Vl}, TypedL C ts vs → vs.length = ts.length
  | [], [], _ => rfl
  | _ :: _, _ :: _, h => by simp [TypedL.len h.2]
  | [], _ :: _, h => h.elim
  | _ :: _, [], h => h.elim
theorem ConfL.len {C : List Cn} : ∀ {ts : List Ty} {vs : List Nd}, ConfL C ts vs → vs.length = ts.length
  | [], [], _ => rfl
  | _ :: _, _ :: _, h => by simp [ConfL.len h.2]
  | [], _ :: _, h => h.elim
  | _ :: _, [], h => h.elim
theorem meansL_len : ∀ {ps : List Nd} {vs : List Vl}, meansL ps vs = true → vs.length = ps.length
  | [], [], _ => rfl
  | _ :: _, _ :: _, h => by simp [meansL] at h; simp [meansL_len h.2]
  | [], _ :: _, h => by simp [meansL] at h
  | _ :: _, [], h => by simp [meansL] at h
theorem meansL_app : ∀ (p1 : List Nd) (v1 : List Vl) (p2 : List Nd) (v2 : List Vl), v1.length = p1.length → meansL (p1 ++ p2) (v1 ++ v2) = (meansL p1 v1 && meansL p2 v2)
  | [], [], p2, v2, _ => by simp [meansL]
  | p :: p1, v :: v1, p2, v2, h => by
    show (means p v && meansL (p1 ++ p2) (v1 ++ v2)) = _
    rw [meansL_app p1 v1 p2 v2 (by simpa using h), ← Bool.and_assoc]; rfl
  | [], _ :: _, _, _, h => by simp at h
  | _ :: _, [], _, _, h => by simp at h
theorem TypedL_app {C : List Cn} : ∀ (t1 : List Ty) (v1 : List Vl) (t2 : List Ty) (v2 : List Vl), v1.length = t1.length → (TypedL C (t1 ++ t2) (v1 ++ v2) ↔ TypedL C t1 v1 ∧ TypedL C t2 v2)
  | [], [], t2, v2, _ => by simp [TypedL]
  | t :: t1, v :: v1, t2, v2, h => by
    show (Typed C t v ∧ TypedL C (t1 ++ t2) (v1 ++ v2)) ↔ _
    rw [TypedL_app t1 v1 t2 v2 (by simpa using h)]
    show _ ↔ (Typed C t v ∧ TypedL C t1 v1) ∧ _
    exact and_assoc.symm
  | [], _ :: _, _, _, h => by simp at h
  | _ :: _, [], _, _, h => by simp at h
theorem ConfL_app {C : List Cn} : ∀ (t1 : List Ty) (v1 : List Nd) (t2 : List Ty) (v2 : List Nd), v1.length = t1.length → (ConfL C (t1 ++ t2) (v1 ++ v2) ↔ ConfL C t1 v1 ∧ ConfL C t2 v2)
  | [], [], t2, v2, _ => by simp [ConfL]
  | t :: t1, v :: v1, t2, v2, h => by
    show (Conf C t v ∧ ConfL C (t1 ++ t2) (v1 ++ v2)) ↔ _
    rw [ConfL_app t1 v1 t2 v2 (by simpa using h)]
    show _ ↔ (Conf C t v ∧ ConfL C t1 v1) ∧ _
    exact and_assoc.symm
  | [], _ :: _, _, _, h => by simp at h
  | _ :: _, [], _, _, h => by simp at h
theorem TypedL_of {C : List Cn} : ∀ (ts : List Ty) (vs : List Vl), vs.length = ts.length → (∀ (i : Nat) t v, ts[i]? = some t → vs[i]? = some v → Typed C t v) → TypedL C ts vs
  | [], [], _, _ => trivial
  | t :: ts, v :: vs, h, hh => ⟨hh 0 t v rfl rfl, TypedL_of ts vs (by simpa using h) fun i t v h1 h2 => hh (i + 1) t v (by simpa using h1) (by simpa using h2)⟩
  | [], _ :: _, h, _ => by simp at h
  | _ :: _, [], h, _ => by simp at h
theorem TypedL_at {C : List Cn} : ∀ {ts : List Ty} {vs : List Vl}, TypedL C ts vs → ∀ (i : Nat) t v, ts[i]? = some t → vs[i]? = some v → Typed C t v
  | [], [], _, i, t, v, h1, _ => by simp at h1
  | t :: ts, v :: vs, h, 0, t', v', h1, h2 => by simp at h1 h2; subst h1; subst h2; exact h.1
  | t :: ts, v :: vs, h, i + 1, t', v', h1, h2 => TypedL_at h.2 i t' v' (by simpa using h1) (by simpa using h2)
  | [], _ :: _, h, _, _, _, _, _ => h.elim
  | _ :: _, [], h, _, _, _, _, _ => h.elim
theorem ConfL_of {C : List Cn} : ∀ (ts : List Ty) (vs : List Nd), vs.length = ts.length → (∀ (i : Nat) t v, ts[i]? = some t → vs[i]? = some v → Conf C t v) → ConfL C ts vs
  | [], [], _, _ => trivial
  | t :: ts, v :: vs, h, hh => ⟨hh 0 t v rfl rfl, ConfL_of ts vs (by simpa using h) fun i t v h1 h2 => hh (i + 1) t v (by simpa using h1) (by simpa using h2)⟩
  | [], _ :: _, h, _ => by simp at h
  | _ :: _, [], h, _ => by simp at h

theorem Conf.any {C : List Cn} (t : Ty) {p : Nd} (h : anyB p = true) (hk : p.kids = []) : Conf C t p := by
  cases t with
  | any => exact ⟨h, hk⟩
  | int => exact .inl ⟨h, hk⟩
  | con of ch => exact .inl ⟨h, hk⟩
theorem Conf.anyKids {C : List Cn} {t : Ty} {p : Nd} (h : Conf C t p) (ha : anyB p = true) : p.kids = [] := by
  have e5 : ∀ p : Nd, p.k = 5 → anyB p = false := by intro p h; simp [anyB, h]
  have e1 : ∀ p : Nd, p.k = 1 → anyB p = false := by intro p h; simp [anyB, h]
  cases t with
  | any => exact h.2
  | int => rcases h with h | h
           · exact h.2
           · exact h.2.2
  | con of ch => rcases h with h | h
                 · exact h.2
                 · rw [e5 p h.1] at ha; cases ha

/-- Each good type has a value. -/
theorem Good.inh {C : List Cn} : ∀ t : Ty, Good C t → ∃ v, Typed C t v
  | .any, _ => ⟨.num 0, trivial⟩
  | .int, _ => ⟨.num 0, 0, rfl⟩
  | .con of ch, h => by
    obtain ⟨⟨c, hc, ho⟩, hch⟩ := h
    have hx : ∀ i : Nat, ∃ v, Typed C (ch c.nm i) v := fun i => Good.inh (ch c.nm i) (hch _ _)
    refine ⟨.con c.nm ((List.range c.ar).map fun i => Classical.choose (hx i)), c, _, hc, ho, rfl, by simp, fun i x hi => ?_⟩
    simp only [List.getElem?_map, Option.map_eq_some_iff] at hi
    obtain ⟨j, hj, rfl⟩ := hi
    rw [List.getElem?_range (by have := (List.getElem?_eq_some_iff.1 hj).1; simpa using this)] at hj
    have := Option.some.inj hj
    subst this
    exact Classical.choose_spec (hx i)
/-- .. of a constructor that one names. -/
theorem Good.inhCon {C : List Cn} {of : By} {ch : By → Nat → Ty} (h : Good C (.con of ch)) {c : Cn} (hc : c ∈ C) (ho : c.of = of) : ∃ ps, Typed C (.con of ch) (.con c.nm ps) := by
  have hx : ∀ i : Nat, ∃ v, Typed C (ch c.nm i) v := fun i => Good.inh (ch c.nm i) (h.2 _ _)
  refine ⟨(List.range c.ar).map fun i => Classical.choose (hx i), c, _, hc, ho, rfl, by simp, fun i x hi => ?_⟩
  simp only [List.getElem?_map, Option.map_eq_some_iff] at hi
  obtain ⟨j, hj, rfl⟩ := hi
  rw [List.getElem?_range (by have := (List.getElem?_eq_some_iff.1 hj).1; simpa using this)] at hj
  have := Option.some.inj hj
  subst this
  exact Classical.choose_spec (hx i)

theorem nd_lt {p q : Nd} {i : Nat} (h : p.kids[i]? = some q) : SizeOf.sizeOf q < SizeOf.sizeOf p := by
  obtain ⟨k, n, s, l⟩ := p
  have := List.sizeOf_lt_of_mem (List.mem_of_getElem? h)
  simp [Nd.kids] at this ⊢
  omega
theorem meansL_of : ∀ (ps : List Nd) (vs : List Vl), vs.length = ps.length → (∀ (i : Nat) p v, ps[i]? = some p → vs[i]? = some v → means p v = true) → meansL ps vs = true
  | [], [], _, _ => rfl
  | p :: ps, v :: vs, h, hh => by
    simp only [meansL, Bool.and_eq_true]
    exact ⟨hh 0 p v rfl rfl, meansL_of ps vs (by simpa using h) fun i p v h1 h2 => hh (i + 1) p v (by simpa using h1) (by simpa using h2)⟩
  | [], _ :: _, h, _ => by simp at h
  | _ :: _, [], h, _ => by simp at h
theorem anyB_five {p : Nd} (h : p.k = 5) : anyB p = false := by simp [anyB, h]
theorem anyB_one {p : Nd} (h : p.k = 1) : anyB p = false := by simp [anyB, h]
/-- Each pattern means a value of its type. -/
theorem Conf.has {C : List Cn} : ∀ (t : Ty) (p : Nd), Good C t → Conf C t p → ∃ v, Typed C t v ∧ means p v = true
  | .any, p, _, h => ⟨.num 0, trivial, means_any h.1 _⟩
  | .int, p, _, h => by
    rcases h with h | h
    · exact ⟨.num 0, ⟨0, rfl⟩, means_any h.1 _⟩
    · exact ⟨.num p.n, ⟨_, rfl⟩, by rw [means_num (anyB_one h.1)]; simp [h.1]⟩
  | .con of ch, p, hg, h => by
    rcases h with h | ⟨h5, h0, c, hc, hn, ho, hl, hk⟩
    · obtain ⟨v, hv⟩ := Good.inh _ hg
      exact ⟨v, hv, means_any h.1 _⟩
    · have hx : ∀ i : Nat, ∃ v, Typed C (ch c.nm i) v ∧ ∀ q, p.kids[i]? = some q → means q v = true := fun i => by
        cases hq : p.kids[i]? with
        | none =>
          obtain ⟨v, hv⟩ := Good.inh (ch c.nm i) (hg.2 _ _)
          exact ⟨v, hv, fun q hq => by cases hq⟩
        | some q =>
          obtain ⟨v, hv, hm⟩ := Conf.has (ch c.nm i) q (hg.2 _ _) (hk i q hq)
          exact ⟨v, hv, fun q' hq' => by cases hq'; exact hm⟩
      obtain ⟨f, hf⟩ : ∃ f : Nat → Vl, ∀ i, Typed C (ch c.nm i) (f i) ∧ ∀ q, p.kids[i]? = some q → means q (f i) = true := ⟨fun i => Classical.choose (hx i), fun i => Classical.choose_spec (hx i)⟩
      have hat : ∀ i x, ((List.range c.ar).map f)[i]? = some x → f i = x := fun i x hi => by
        simp only [List.getElem?_map, Option.map_eq_some_iff] at hi
        obtain ⟨j, hj, rfl⟩ := hi
        rw [List.getElem?_range (by have := (List.getElem?_eq_some_iff.1 hj).1; simpa using this)] at hj
        rw [Option.some.inj hj]
      refine ⟨.con c.nm ((List.range c.ar).map f), ⟨c, _, hc, ho, rfl, by simp, fun i x hi => ?_⟩, ?_⟩
      · rw [← hat i x hi]; exact (hf i).1
      · rw [means_con (anyB_five h5)]
        simp only [h5, hn, beq_self_eq_true, Bool.true_and]
        refine meansL_of _ _ (by simp [hl]) fun i q v h1 h2 => ?_
        rw [← hat i v h2]; exact (hf i).2 q h1
theorem ConfL.has {C : List Cn} : ∀ (ts : List Ty) (ps : List Nd), (∀ t ∈ ts, Good C t) → ConfL C ts ps → ∃ vs, TypedL C ts vs ∧ meansL ps vs = true
  | [], [], _, _ => ⟨[], trivial, rfl⟩
  | t :: ts, p :: ps, hg, h => by
    obtain ⟨v, hv, hm⟩ := Conf.has t p (hg t List.mem_cons_self) h.1
    obtain ⟨vs, hvs, hms⟩ := ConfL.has ts ps (fun t ht => hg t (List.mem_cons_of_mem _ ht)) h.2
    exact ⟨v :: vs, ⟨hv, hvs⟩, by simp [meansL, hm, hms]⟩
  | [], _ :: _, _, h => h.elim
  | _ :: _, [], _, h => h.elim

/-- Whether a row means something that none ahead does. -/
def Useful (C : List Cn) (G : List Ty) (r : List Nd) (ahead : List (List Nd)) : Prop :=
  ∃ vs, TypedL C G vs ∧ meansL r vs = true ∧ ∀ a, a ∈ ahead → meansL a vs = false
open Classical in
noncomputable def usefulB (C : List Cn) (G : List Ty) (r : List Nd) (ahead : List (List Nd)) : Bool := decide (Useful C G r ahead)

/-- The rows are of the places' types. -/
def Mx (C : List Cn) (G : List Ty) (r : List Nd) (ahead : List (List Nd)) : Prop :=
  ConfL C G r ∧ (∀ a, a ∈ ahead → ConfL C G a) ∧ ∀ t ∈ G, Good C t
theorem usefulB_iff {C : List Cn} {G : List Ty} {r : List Nd} {ahead : List (List Nd)} : usefulB C G r ahead = true ↔ Useful C G r ahead := by
  classical
  unfold usefulB
  simp
theorem usefulB_no {C : List Cn} {G : List Ty} {r : List Nd} {ahead : List (List Nd)} : usefulB C G r ahead = false ↔ ¬ Useful C G r ahead := by
  rw [← usefulB_iff]; simp
theorem useful_nil {C : List Cn} {G : List Ty} {r : List Nd} (h : Mx C G r []) : usefulB C G r [] = true := by
  obtain ⟨vs, h1, h2⟩ := ConfL.has G r h.2.2 h.1
  exact usefulB_iff.2 ⟨vs, h1, h2, fun a ha => by cases ha⟩
def allAny (r : List Nd) : Bool := !r.any fun p => !anyB p
theorem meansL_all : ∀ (r : List Nd) (vs : List Vl), (∀ p ∈ r, anyB p = true) → vs.length = r.length → meansL r vs = true
  | [], [], _, _ => rfl
  | p :: r, v :: vs, h, hl => by
    simp only [meansL, Bool.and_eq_true]
    exact ⟨means_any (h p List.mem_cons_self) v, meansL_all r vs (fun p hp => h p (List.mem_cons_of_mem _ hp)) (by simpa using hl)⟩
  | [], _ :: _, _, h => by simp at h
  | _ :: _, [], _, h => by simp at h
theorem allAny_iff {r : List Nd} : allAny r = true ↔ ∀ p ∈ r, anyB p = true := by
  unfold allAny
  simp
theorem useful_all {C : List Cn} {G : List Ty} {r : List Nd} {ahead : List (List Nd)} (h : Mx C G r ahead) (ha : ahead.any allAny = true) : usefulB C G r ahead = false := by
  refine usefulB_no.2 ?_
  rintro ⟨vs, h1, h2, h3⟩
  obtain ⟨a, hm, hall⟩ := List.any_eq_true.1 ha
  have := h3 a hm
  rw [meansL_all a vs (allAny_iff.1 hall) (by rw [h1.len, (h.2.1 a hm).len])] at this
  cases this
end Go.Proofs.Ytommaomhiaaphaa.CA
