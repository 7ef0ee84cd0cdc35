/- What the document's answer asks of rows: plainly. -/
import Derived.Test.YtommaomhiaaphaaDI
namespace Go.Proofs.Ytommaomhiaaphaa.DL
open Go.RowKit Go.Proofs.Ytommaomhiaaphaa.CA Go.Proofs.Ytommaomhiaaphaa.CB Go.Proofs.Ytommaomhiaaphaa.CC Go.Proofs.Ytommaomhiaaphaa.CT Go.Proofs.Ytommaomhiaaphaa.CU Go.Proofs.Ytommaomhiaaphaa.CW Go.Proofs.Ytommaomhiaaphaa.DB Go.Proofs.Ytommaomhiaaphaa.DA Go.Proofs.Ytommaomhiaaphaa.DF Go.Proofs.Ytommaomhiaaphaa.DI
set_option linter.unusedVariables false
set_option maxRecDepth 100000

/-! ## A row that means any, behind all -/
theorem bad_app {C : List Cn} (p : Nd) : ∀ (L done : List Nd) (i : Nat), firstBad C done (L ++ [p]) i = (match firstBad C done L i with
    | some k => some k
    | none => if us C [p] ((done ++ L).map fun q => [q]) = true then none else some (i + L.length))
  | [], done, i => by
    simp only [List.nil_append, List.append_nil]
    unfold firstBad
    by_cases h : us C [p] (done.map fun q => [q]) = true
    · rw [if_pos h]; simp [firstBad, h]
    · rw [if_neg h]; simp [firstBad, h]
  | q :: L, done, i => by
    show firstBad C done (q :: (L ++ [p])) i = _
    unfold firstBad
    by_cases h : us C [q] (done.map fun q => [q]) = true
    · rw [if_pos h, if_pos h, bad_app p L (done ++ [q]) (i + 1)]
      have e : done ++ [q] ++ L = done ++ q :: L := by simp
      have e2 : i + 1 + L.length = i + (q :: L).length := by simp; omega
      rw [e, e2]
    · rw [if_neg h, if_neg h]
theorem any_last {C : List Cn} (L : List Nd) (hl : L.length ≤ 19) (hL : mayB C L = true) (n e : Int) (h : chk C L = (n, e)) :
    (e = 27 ∧ ∃ m, chk C (L ++ [anyNd]) = (m, 27)) ∨ (e = 26 ∧ chk C (L ++ [anyNd]) = (0, 0)) ∨ (e = 0 ∧ chk C (L ++ [anyNd]) = ((L.length : Int), 27)) := by
  have hm : mayB C (L ++ [anyNd]) = true := by
    rw [may_iff] at hL ⊢
    exact ⟨by simp; omega, ok_snocAny.2 hL.2⟩
  have hb := bad_app (C := C) anyNd L [] 0
  simp only [List.nil_append, Nat.zero_add] at hb
  rcases may_yes hL with ⟨i, hi, hc⟩ | ⟨hn, ⟨hu, hc⟩ | ⟨hu, hc⟩⟩
  · rw [hc] at h
    rw [hi] at hb
    refine .inl ⟨(Prod.mk.inj h).2.symm, i, ?_⟩
    rcases may_yes hm with ⟨i', hi', hc'⟩ | ⟨hn', _⟩
    · rw [hb] at hi'; rw [hc', Option.some.inj hi']
    · rw [hb] at hn'; cases hn'
  · rw [hc] at h
    have hu' : us C [anyNd] (L.map fun q => [q]) = true := hu
    rw [hn, hu'] at hb
    refine .inr (.inl ⟨(Prod.mk.inj h).2.symm, ?_⟩)
    have hz : us C [anyNd] (sing (L ++ [anyNd])) = false := by
      unfold us usB
      have h1 : (sing (L ++ [anyNd])).isEmpty = false := by simp [sing]
      have h2 : (sing (L ++ [anyNd])).any allAny = true := List.any_eq_true.2 ⟨[anyNd], by simp [sing], rfl⟩
      rw [h1, h2]; rfl
    rcases may_yes hm with ⟨i', hi', hc'⟩ | ⟨hn', ⟨hx, _⟩ | ⟨_, hc'⟩⟩
    · rw [hb] at hi'; simp at hi'
    · rw [hz] at hx; cases hx
    · exact hc'
  · rw [hc] at h
    have hu' : us C [anyNd] (L.map fun q => [q]) = false := hu
    rw [hn, hu'] at hb
    refine .inr (.inr ⟨(Prod.mk.inj h).2.symm, ?_⟩)
    rcases may_yes hm with ⟨i', hi', hc'⟩ | ⟨hn', _⟩
    · rw [hb] at hi'
      rw [hc', show i' = L.length from by simpa using hi'.symm]
    · rw [hb] at hn'; simp at hn'

/-! ## What may be handed in -/
mutual
theorem room_is {C : List Cn} : ∀ (p : Nd) (m : Int), Fm C p → (sz p : Int) ≤ m → room C p m = m - sz p
  | .mk k n s l, m, h, hm => by
    have e : sz (.mk k n s l) = 1 + szL l := rfl
    rw [e] at hm ⊢
    unfold room
    rw [if_pos h.1, roomL_is l (m - 1) h.2 (by omega)]
    omega
theorem roomL_is {C : List Cn} : ∀ (l : List Nd) (m : Int), FmL C l → (szL l : Int) ≤ m → roomL C l m = m - szL l
  | [], m, _, _ => by simp [roomL, szL]
  | p :: ps, m, h, hm => by
    have e : szL (p :: ps) = sz p + szL ps := rfl
    rw [e] at hm ⊢
    unfold roomL
    rw [if_neg (by omega), room_is p m h.1 (by omega), roomL_is ps _ h.2 (by omega)]
    omega
end
mutual
def fmB (C : List Cn) : Nd → Bool
  | .mk k n s l => formedB C (.mk k n s l) && fmLB C l
def fmLB (C : List Cn) : List Nd → Bool
  | [] => true
  | p :: ps => fmB C p && fmLB C ps
end
mutual
theorem fm_iff {C : List Cn} : ∀ p : Nd, fmB C p = true ↔ Fm C p
  | .mk k n s l => by
    show (formedB C (.mk k n s l) && fmLB C l) = true ↔ formedB C (.mk k n s l) = true ∧ FmL C l
    rw [Bool.and_eq_true, fmL_iff l]
theorem fmL_iff {C : List Cn} : ∀ l : List Nd, fmLB C l = true ↔ FmL C l
  | [] => by simp [fmLB, FmL]
  | p :: ps => by
    show (fmB C p && fmLB C ps) = true ↔ Fm C p ∧ FmL C ps
    rw [Bool.and_eq_true, fm_iff p, fmL_iff ps]
end
def Tg (C : List Cn) (L : List Nd) : Prop := ∀ p, p ∈ L → ∀ q, q ∈ L → together C p q = true
open Classical in
noncomputable def tgB (C : List Cn) (L : List Nd) : Bool := decide (Tg C L)
theorem tgB_iff {C : List Cn} {L : List Nd} : tgB C L = true ↔ Tg C L := by
  classical
  unfold tgB; simp
theorem right_iff {C : List Cn} {L : List Nd} (hl : L.length ≤ 20) (hs : ∀ p, p ∈ L → sz p ≤ 9) : mayB C L = true ↔ (∀ p, p ∈ L → Fm C p) ∧ Tg C L := by
  rw [may_iff]
  constructor
  · rintro ⟨_, hok⟩
    have hf := fm_of hok
    refine ⟨hf, fun p hp q hq => ?_⟩
    have h2 : L.Pairwise fun a b => (Fm C a ∧ Fm C b → together C a b = true) := List.Pairwise.imp (R := fun a b => together C a b = true) (S := fun a b => (Fm C a ∧ Fm C b → together C a b = true)) (fun {a b} h _ => h) hok.2
    exact pair_all (R := fun a b => Fm C a ∧ Fm C b → together C a b = true) (fun a b hab hf => together_symm a b hf.2 hf.1 (hab ⟨hf.2, hf.1⟩)) (fun a _ => together_self a) h2 p q hp hq ⟨hf p hp, hf q hq⟩
  · rintro ⟨hf, ht⟩
    refine ⟨hl, fun p hp => ?_, ?_⟩
    · rw [room_is p 30 (hf p hp) (by have := hs p hp; omega)]
      have := hs p hp; omega
    · exact List.Pairwise.imp_of_mem (R := fun _ _ => True) (fun {a b} ha hb _ => ht a ha b hb) (List.pairwise_of_forall (fun _ _ => trivial))

/-! ## Patterns that go together -/
def ofK (C : List Cn) (p : Nd) : By := if p.k = 5 then ((conOf C p.s).getD zeroCn).of else []
theorem tog_kind {C : List Cn} {p q : Nd} (hp : anyB p = false) (hq : anyB q = false) (h : together C p q = true) : p.k = q.k ∧ ofK C p = ofK C q := by
  obtain ⟨k, n, s, l⟩ := p
  obtain ⟨k', n', s', l'⟩ := q
  rw [together_eq, if_neg (by rw [hp, hq]; simp)] at h
  by_cases hk : k = k'
  · subst hk
    rw [if_neg (fun h => h rfl)] at h
    refine ⟨rfl, ?_⟩
    unfold ofK
    by_cases h5 : k = 5
    · subst h5
      rw [if_neg (by decide)] at h
      by_cases ho : ((conOf C s).getD zeroCn).of = ((conOf C s').getD zeroCn).of
      · simp only [Nd.k, Nd.s, if_true]; exact ho
      · rw [if_pos ho] at h; cases h
    · simp [Nd.k, h5]
  · rw [if_pos hk] at h; cases h
theorem tog_any' {C : List Cn} {p q : Nd} (h : anyB p = true ∨ anyB q = true) : together C p q = true := by
  obtain ⟨k, n, s, l⟩ := p
  obtain ⟨k', n', s', l'⟩ := q
  rw [together_eq, if_pos (by simpa [Bool.or_eq_true] using h)]
theorem tog_one {C : List Cn} {p q : Nd} (hp : p.k = 1) (hq : q.k = 1) : together C p q = true := by
  obtain ⟨k, n, s, l⟩ := p
  obtain ⟨k', n', s', l'⟩ := q
  obtain rfl : k = 1 := hp
  obtain rfl : k' = 1 := hq
  rw [together_eq]
  simp
theorem togL_of {C : List Cn} : ∀ (l m : List Nd), l.length = m.length → (∀ (i : Nat) p q, l[i]? = some p → m[i]? = some q → together C p q = true) → togL C l m = true
  | [], [], _, _ => rfl
  | p :: l, q :: m, he, h => by
    simp only [togL, Bool.and_eq_true]
    exact ⟨h 0 p q rfl rfl, togL_of l m (by simpa using he) fun i p q h1 h2 => h (i + 1) p q (by simpa using h1) (by simpa using h2)⟩
  | [], _ :: _, he, _ => by simp at he
  | _ :: _, [], he, _ => by simp at he
/-- No number but constructors of one type: they go together as their parts do. -/
theorem tg_parts {C : List Cn} (Sd : Sound C) {l : List Nd} {of : By} (hf : ∀ p, p ∈ l → Fm C p) (h5 : ∀ p, p ∈ l → anyB p = false → p.k = 5 ∧ ofK C p = of) :
    Tg C l ↔ ∀ c, c ∈ C → c.of = of → ∀ i, i < c.ar → Tg C (partsAt l c.nm i) := by
  have hcon : ∀ p, p ∈ l → anyB p = false → ∃ c, conOf C p.s = some c ∧ c ∈ C ∧ c.nm = p.s ∧ c.of = of ∧ p.kids.length = c.ar := fun p hp ha => by
    obtain ⟨k5, ho⟩ := h5 p hp ha
    rcases (hf p hp).cases with h | h | ⟨_, _, c, hc, hm, hn, hl⟩
    · rw [h.1] at ha; cases ha
    · rw [k5] at h; exact absurd h.1 (by decide)
    · refine ⟨c, hc, hm, hn, ?_, hl⟩
      unfold ofK at ho
      rw [if_pos k5, hc] at ho
      exact ho
  constructor
  · intro ht c hc ho i hi q1 h1 q2 h2
    obtain ⟨p1, hp1, k1, s1, e1⟩ := mem_partsAt.1 h1
    obtain ⟨p2, hp2, k2, s2, e2⟩ := mem_partsAt.1 h2
    have h := ht p1 hp1 p2 hp2
    have c1 : conOf C p1.s = some c := by rw [s1]; exact Sd.conOf hc
    have c2 : conOf C p2.s = some c := by rw [s2]; exact Sd.conOf hc
    rw [together_con k1 k2 c1 c2] at h
    simp only [beq_self_eq_true, Bool.true_and, Bool.not_true, Bool.false_or] at h
    exact togL_at h i q1 q2 e1 e2
  · intro h p hp q hq
    by_cases ha : anyB p = true
    · exact tog_any' (.inl ha)
    by_cases hb : anyB q = true
    · exact tog_any' (.inr hb)
    have ha : anyB p = false := by simpa using ha
    have hb : anyB q = false := by simpa using hb
    obtain ⟨c, hc, hcm, hcn, hco, hcl⟩ := hcon p hp ha
    obtain ⟨d, hd, hdm, hdn, hdo, hdl⟩ := hcon q hq hb
    rw [together_con (h5 p hp ha).1 (h5 q hq hb).1 hc hd]
    rw [hco, hdo]
    simp only [beq_self_eq_true, Bool.true_and]
    by_cases hn : c.nm = d.nm
    · have hcd := Sd.eq hcm hdm hn
      subst hcd
      simp only [beq_self_eq_true, Bool.not_true, Bool.false_or]
      refine togL_of _ _ (by rw [hcl, hdl]) fun i p' q' h1 h2 => ?_
      have hi : i < c.ar := by rw [← hcl]; exact (List.getElem?_eq_some_iff.1 h1).1
      exact h c hcm hco i hi p' (mem_partsAt.2 ⟨p, hp, (h5 p hp ha).1, hcn.symm, h1⟩) q' (mem_partsAt.2 ⟨q, hq, (h5 q hq hb).1, hdn.symm, h2⟩)
    · have : (c.nm == d.nm) = false := by simpa using hn
      rw [this]; rfl
theorem fm_parts {C : List Cn} {l : List Nd} (hf : ∀ p, p ∈ l → Fm C p) (d : By) (i : Nat) : ∀ q, q ∈ partsAt l d i → Fm C q := by
  intro q hq
  obtain ⟨p, hp, _, _, e⟩ := mem_partsAt.1 hq
  exact FmL_mem (hf p hp).kids q (List.mem_of_getElem? e)
theorem tg_part {C : List Cn} {l : List Nd} (hf : ∀ p, p ∈ l → Fm C p) (ht : Tg C l) (d : By) (i : Nat) : Tg C (partsAt l d i) := by
  intro q1 h1 q2 h2
  obtain ⟨p1, hp1, k1, s1, e1⟩ := mem_partsAt.1 h1
  obtain ⟨p2, hp2, k2, s2, e2⟩ := mem_partsAt.1 h2
  have h := ht p1 hp1 p2 hp2
  rcases (hf p1 hp1).cases with h' | h' | ⟨_, _, c, hc, hm, hn, hl⟩
  · rw [anyB_five k1] at h'; cases h'.1
  · rw [k1] at h'; exact absurd h'.1 (by decide)
  · have c2 : conOf C p2.s = some c := by rw [s2, ← s1]; exact hc
    rw [together_con k1 k2 hc c2] at h
    simp only [beq_self_eq_true, Bool.true_and, Bool.not_true, Bool.false_or] at h
    exact togL_at h i q1 q2 e1 e2

/-! ## The type of a place, reckoned -/
def tyF (C : List Cn) : Nat → List Nd → Ty
  | 0, _ => .any
  | m + 1, l => match l.find? (fun p => p.k == 5) with
    | some p => .con (ofK C p) (fun d i => tyF C m (partsAt l d i))
    | none => if l.any (fun p => p.k == 1) then .int else .any
theorem ty_ok {C : List Cn} (Sd : Sound C) : ∀ (m : Nat) (l : List Nd), szL l ≤ m → (∀ p, p ∈ l → Fm C p) → Tg C l → CA.Good C (tyF C m l) ∧ ∀ p, p ∈ l → Conf C (tyF C m l) p
  | 0, l, hm, hf, ht => by
    have : l = [] := by
      cases l with
      | nil => rfl
      | cons p l => have := sz_eq p; simp only [szL] at hm; omega
    subst this
    exact ⟨trivial, fun p hp => by cases hp⟩
  | m + 1, l, hm, hf, ht => by
    unfold tyF
    cases hfd : l.find? (fun p => p.k == 5) with
    | some p0 =>
      have hp0 := List.mem_of_find?_eq_some hfd
      have k0 : p0.k = 5 := by simpa using List.find?_some hfd
      have hsub : ∀ d i, szL (partsAt l d i) ≤ m := fun d i => by
        have h1 := partsAt_sz d i l
        have h2 : 0 < l.length := List.length_pos_of_mem hp0
        omega
      have ih := fun d i => ty_ok Sd m (partsAt l d i) (hsub d i) (fm_parts hf d i) (tg_part hf ht d i)
      rcases (hf p0 hp0).cases with h | h | ⟨_, _, c0, hc0, hm0, hn0, hl0⟩
      · rw [anyB_five k0] at h; cases h.1
      · rw [k0] at h; exact absurd h.1 (by decide)
      · have ho0 : ofK C p0 = c0.of := by unfold ofK; rw [if_pos k0, hc0]; rfl
        refine ⟨⟨⟨c0, hm0, ho0.symm⟩, fun d i => (ih d i).1⟩, fun p hp => ?_⟩
        by_cases ha : anyB p = true
        · refine .inl ⟨ha, ?_⟩
          rcases (hf p hp).cases with h | h | h
          · exact h.2
          · exact h.2.2
          · rw [anyB_five h.1] at ha; cases ha
        · have ha : anyB p = false := by simpa using ha
          obtain ⟨hk, ho⟩ := tog_kind ha (anyB_five k0) (ht p hp p0 hp0)
          rw [k0] at hk
          rcases (hf p hp).cases with h | h | ⟨_, n0, c, hc, hcm, hn, hl⟩
          · rw [h.1] at ha; cases ha
          · rw [hk] at h; exact absurd h.1 (by decide)
          · refine .inr ⟨hk, n0, c, hcm, hn, ?_, hl, fun i q hq => ?_⟩
            · rw [← ho]; unfold ofK; rw [if_pos hk, hc]; rfl
            · exact (ih c.nm i).2 q (mem_partsAt.2 ⟨p, hp, hk, hn.symm, hq⟩)
    | none =>
      have hno : ∀ p, p ∈ l → p.k ≠ 5 := fun p hp e => by
        have := List.find?_eq_none.1 hfd p hp
        simp [e] at this
      by_cases h1 : l.any (fun p => p.k == 1) = true
      · simp only [h1, if_true]
        refine ⟨trivial, fun p hp => ?_⟩
        rcases (hf p hp).cases with h | h | h
        · exact .inl h
        · exact .inr h
        · exact absurd h.1 (hno p hp)
      · have h1 : l.any (fun p => p.k == 1) = false := by simpa using h1
        simp only [h1, Bool.false_eq_true, if_false]
        refine ⟨trivial, fun p hp => ?_⟩
        rcases (hf p hp).cases with h | h | h
        · exact h
        · have := List.any_eq_false.1 h1 p hp
          simp [h.1] at this
        · exact absurd h.1 (hno p hp)
/-- Behind OK each value of the type is meant by a row. -/
theorem covered {C : List Cn} (Sd : Sound C) {L : List Nd} {t : Ty} (hg : CA.Good C t) (hc : ∀ p, p ∈ L → Conf C t p) (hm : mayB C L = true) {n : Int} (h : chk C L = (n, 0)) (v : Vl) (hv : Typed C t v) : ∃ p, p ∈ L ∧ means p v = true := by
  have hu : us C [anyNd] (sing L) = false := by
    rcases may_yes hm with ⟨i, _, hc⟩ | ⟨_, ⟨_, hc⟩ | ⟨hu, _⟩⟩
    · rw [hc] at h; cases (Prod.mk.inj h).2
    · rw [hc] at h; cases (Prod.mk.inj h).2
    · exact hu
  have hnu : ¬ Useful C [t] [anyNd] (sing L) := fun h => by
    rw [(us_ok Sd (mx_sing hg (Conf.any t (p := anyNd) rfl rfl) hc)).2 h] at hu; cases hu
  false_or_by_contra
  rename_i hno
  refine hnu ⟨[v], ⟨hv, trivial⟩, ?_, fun a ha => ?_⟩
  · simp only [meansL, Bool.and_true]
    exact means_any rfl v
  · obtain ⟨p, hp, rfl⟩ := List.mem_map.1 ha
    simp only [meansL, Bool.and_true]
    cases hb : means p v with
    | false => rfl
    | true => exact absurd ⟨p, hp, hb⟩ hno
end Go.Proofs.Ytommaomhiaaphaa.DL
