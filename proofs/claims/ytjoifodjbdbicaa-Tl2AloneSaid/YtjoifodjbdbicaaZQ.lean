/- ZQ: several texts in one (PA PB PC). -/
import Derived.Test.YtjoifodjbdbicaaZD
import Derived.Test.YtjoifodjbdbicaaZA
import Derived.Maps.OwnSet
import Derived.Maps.RangeWalk
import Derived.Test.YtjoifodjbdbicaaUI

/- Writes as maps, plainly: a part's pairs; the vars of a part in order; the youngest part's write. -/
namespace Go.Proofs.Ytjoifodjbdbicaa.PA
open Go.Proofs.Ytjoifodjbdbicaa.UA Go.Proofs.Ytjoifodjbdbicaa.UG
set_option linter.unusedVariables false
set_option maxRecDepth 100000
set_option maxRecDepth 100000

/-! ## A map's pairs -/
def asc (ks : List (Int × Int)) (n : Int) : Option Int := match ks with
  | [] => none
  | p :: l => if p.1 = n then some p.2 else asc l n
def putK (K V : Int) : List (Int × Int) → List (Int × Int)
  | [] => [(K, V)]
  | p :: l => if p.1 = K then (K, V) :: l else p :: putK K V l
abbrev keys (ks : List (Int × Int)) : List Int := ks.map (·.1)
theorem asc_put (K V n : Int) : ∀ ks : List (Int × Int), asc (putK K V ks) n = if n = K then some V else asc ks n
  | [] => by
    show (if K = n then some V else none) = if n = K then some V else none
    by_cases h : n = K
    · rw [if_pos h, if_pos h.symm]
    · rw [if_neg h, if_neg (fun e => h e.symm)]
  | p :: l => by
    have ih := asc_put K V n l
    unfold putK
    by_cases h : p.1 = K
    · rw [if_pos h]
      show (if K = n then some V else asc l n) = if n = K then some V else (if p.1 = n then some p.2 else asc l n)
      by_cases h2 : n = K
      · rw [if_pos h2, if_pos h2.symm]
      · rw [if_neg h2, if_neg (fun e => h2 e.symm), if_neg (fun e => h2 (e.symm.trans h))]
    · rw [if_neg h]
      show (if p.1 = n then some p.2 else asc (putK K V l) n) = if n = K then some V else (if p.1 = n then some p.2 else asc l n)
      rw [ih]
      by_cases h2 : n = K
      · rw [if_pos h2, if_pos h2, if_neg (fun e => h (e.trans h2))]
      · rw [if_neg h2, if_neg h2]
theorem asc_none {n : Int} : ∀ {ks : List (Int × Int)}, asc ks n = none ↔ n ∉ keys ks
  | [] => by simp [asc, keys]
  | p :: l => by
    have ih := asc_none (n := n) (ks := l)
    unfold asc
    by_cases h : p.1 = n
    · rw [if_pos h]; simp [keys, h]
    · rw [if_neg h, ih]; simp [keys, Ne.symm h]
theorem asc_some {n : Int} {ks : List (Int × Int)} : n ∈ keys ks ↔ ∃ v, asc ks n = some v := by
  rw [← Option.isSome_iff_exists]
  cases h : asc ks n with
  | none => simp [asc_none.1 h]
  | some v =>
    simp only [Option.isSome_some, iff_true]
    exact Classical.byContradiction fun h2 => by rw [asc_none.2 h2] at h; cases h
theorem asc_mem {n v : Int} : ∀ {ks : List (Int × Int)}, asc ks n = some v → (n, v) ∈ ks
  | [], h => by cases h
  | p :: l, h => by
    unfold asc at h
    split at h
    · next e => injection h with h; rw [← e, ← h]; exact List.mem_cons_self
    · exact List.mem_cons_of_mem _ (asc_mem h)
theorem mem_asc {n v : Int} : ∀ {ks : List (Int × Int)}, (keys ks).Nodup → (n, v) ∈ ks → asc ks n = some v
  | [], _, h => by cases h
  | p :: l, hd, h => by
    have hd : (p.1 :: keys l).Nodup := hd
    unfold asc
    rcases List.mem_cons.1 h with rfl | h
    · rw [if_pos rfl]
    · rw [if_neg (fun e => (List.nodup_cons.1 hd).1 (by rw [e]; exact List.mem_map.2 ⟨(n, v), h, rfl⟩))]
      exact mem_asc (List.nodup_cons.1 hd).2 h
theorem keys_put (K V : Int) : ∀ ks : List (Int × Int), keys (putK K V ks) = if K ∈ keys ks then keys ks else keys ks ++ [K]
  | [] => rfl
  | p :: l => by
    have ih := keys_put K V l
    unfold putK
    by_cases h : p.1 = K
    · rw [if_pos h, if_pos (by rw [← h]; exact List.mem_cons_self)]
      show K :: keys l = p.1 :: keys l
      rw [h]
    · rw [if_neg h]
      show p.1 :: keys (putK K V l) = if K ∈ p.1 :: keys l then p.1 :: keys l else p.1 :: keys l ++ [K]
      rw [ih]
      by_cases h2 : K ∈ keys l
      · rw [if_pos h2, if_pos (List.mem_cons_of_mem _ h2)]
      · rw [if_neg h2, if_neg (fun e => by
          rcases List.mem_cons.1 e with e | e
          · exact h e.symm
          · exact h2 e)]
        rfl
theorem nd_put {K V : Int} {ks : List (Int × Int)} (h : (keys ks).Nodup) : (keys (putK K V ks)).Nodup := by
  rw [keys_put]
  split
  · exact h
  · next h2 =>
    rw [List.nodup_append]
    exact ⟨h, by simp, fun a ha b hb e => by rw [List.mem_singleton.1 hb] at e; exact h2 (e ▸ ha)⟩
/-- The same value, put again, changes nothing. -/
theorem put_same {K V : Int} : ∀ {ks : List (Int × Int)}, asc ks K = some V → putK K V ks = ks
  | [], h => by cases h
  | p :: l, h => by
    unfold asc at h
    unfold putK
    split at h
    · next e => injection h with h; rw [if_pos e, ← e, ← h]
    · next e => rw [if_neg e, put_same h]

/-! ## Writes of parts -/
def gt (P : List Pt) (n q : Int) : Option Int := match P with
  | [] => none
  | p :: l => if p.n = n ∧ p.part = q then some p.v else gt l n q
def Un (P : List Pt) : Prop := P.Pairwise fun a b => ¬ (a.n = b.n ∧ a.part = b.part)
theorem gt_put (n v q n' q' : Int) : ∀ P : List Pt, gt (putR n v q P) n' q' = if n' = n ∧ q' = q then some v else gt P n' q'
  | [] => by
    show (if n = n' ∧ q = q' then some v else none) = _
    by_cases h : n' = n ∧ q' = q
    · rw [if_pos h, if_pos ⟨h.1.symm, h.2.symm⟩]
    · rw [if_neg h, if_neg (fun h2 => h ⟨h2.1.symm, h2.2.symm⟩)]; rfl
  | p :: l => by
    have ih := gt_put n v q n' q' l
    unfold putR
    by_cases h : p.n = n ∧ p.part = q
    · rw [if_pos h]
      show (if p.n = n' ∧ p.part = q' then some v else gt l n' q') = if n' = n ∧ q' = q then some v else (if p.n = n' ∧ p.part = q' then some p.v else gt l n' q')
      by_cases h2 : n' = n ∧ q' = q
      · rw [if_pos h2, if_pos ⟨h.1.trans h2.1.symm, h.2.trans h2.2.symm⟩]
      · rw [if_neg h2, if_neg (fun h3 => h2 ⟨h3.1.symm.trans h.1, h3.2.symm.trans h.2⟩), if_neg (fun h3 => h2 ⟨h3.1.symm.trans h.1, h3.2.symm.trans h.2⟩)]
    · rw [if_neg h]
      show (if p.n = n' ∧ p.part = q' then some p.v else gt (putR n v q l) n' q') = if n' = n ∧ q' = q then some v else (if p.n = n' ∧ p.part = q' then some p.v else gt l n' q')
      rw [ih]
      by_cases h2 : n' = n ∧ q' = q
      · rw [if_pos h2, if_pos h2, if_neg (fun h3 => h ⟨h3.1.trans h2.1, h3.2.trans h2.2⟩)]
      · rw [if_neg h2, if_neg h2]
theorem gt_none {n q : Int} : ∀ {P : List Pt}, gt P n q = none ↔ ∀ p, p ∈ P → ¬ (p.n = n ∧ p.part = q)
  | [] => by simp [gt]
  | p :: l => by
    have ih := gt_none (n := n) (q := q) (P := l)
    unfold gt
    by_cases h : p.n = n ∧ p.part = q
    · rw [if_pos h]
      exact ⟨(fun e => by cases e), fun e => absurd h (e p List.mem_cons_self)⟩
    · rw [if_neg h, ih]
      exact ⟨fun e a ha => by
        rcases List.mem_cons.1 ha with rfl | ha
        · exact h
        · exact e a ha, fun e a ha => e a (List.mem_cons_of_mem _ ha)⟩
theorem gt_mem {P : List Pt} {n q v : Int} (h : gt P n q = some v) : ∃ p, p ∈ P ∧ p.n = n ∧ p.part = q ∧ p.v = v := by
  induction P with
  | nil => cases h
  | cons p l ih =>
    unfold gt at h
    split at h
    · next e => injection h with h; exact ⟨p, List.mem_cons_self, e.1, e.2, h⟩
    · obtain ⟨a, ha, r⟩ := ih h; exact ⟨a, List.mem_cons_of_mem _ ha, r⟩
theorem mem_gt {P : List Pt} {p : Pt} (hu : Un P) (h : p ∈ P) : gt P p.n p.part = some p.v := by
  induction P with
  | nil => cases h
  | cons a l ih =>
    have h1 := List.pairwise_cons.1 hu
    unfold gt
    rcases List.mem_cons.1 h with rfl | h
    · rw [if_pos ⟨rfl, rfl⟩]
    · rw [if_neg (h1.1 p h)]
      exact ih h1.2 h
theorem put_key {n v q : Int} : ∀ {P : List Pt} {p : Pt}, p ∈ putR n v q P → (p.n = n ∧ p.part = q) ∨ ∃ a, a ∈ P ∧ a.n = p.n ∧ a.part = p.part
  | [], p, h => .inl (by rw [List.mem_singleton.1 h]; exact ⟨rfl, rfl⟩)
  | q' :: l, p, h => by
    unfold putR at h
    split at h
    · next e =>
      rcases List.mem_cons.1 h with rfl | h
      · exact .inl e
      · exact .inr ⟨p, List.mem_cons_of_mem _ h, rfl, rfl⟩
    · rcases List.mem_cons.1 h with rfl | h
      · exact .inr ⟨p, List.mem_cons_self, rfl, rfl⟩
      · rcases put_key h with h | ⟨y, h1, h2⟩
        · exact .inl h
        · exact .inr ⟨y, List.mem_cons_of_mem _ h1, h2⟩
theorem put_un {n v q : Int} : ∀ {P : List Pt}, Un P → Un (putR n v q P)
  | [], _ => List.pairwise_singleton _ _
  | p :: l, h => by
    have h1 := List.pairwise_cons.1 h
    unfold putR
    split
    · next e => exact List.pairwise_cons.2 ⟨fun b hb => h1.1 b hb, h1.2⟩
    · next e =>
      refine List.pairwise_cons.2 ⟨fun b hb hc => ?_, put_un h1.2⟩
      rcases put_key hb with ⟨e1, e2⟩ | ⟨a, ha, e1, e2⟩
      · exact e ⟨hc.1.trans e1, hc.2.trans e2⟩
      · exact h1.1 a ha ⟨hc.1.trans e1.symm, hc.2.trans e2.symm⟩
theorem fold_un {k : Int} : ∀ (O R : List Pt), Un R → Un (O.foldl (joinS k) R)
  | [], R, h => h
  | a :: O, R, h => fold_un O _ (put_un h)
theorem fold_key {k : Int} : ∀ (O R : List Pt) {p : Pt}, p ∈ O.foldl (joinS k) R → p.part = k - 1 ∨ ∃ a, a ∈ R ∧ a.part = p.part
  | [], R, p, h => .inr ⟨p, h, rfl⟩
  | a :: O, R, p, h => by
    rcases fold_key O (joinS k R a) h with h | ⟨b, hb, e⟩
    · exact .inl h
    · rcases put_key (show b ∈ putR a.n a.v (k - 1) R from hb) with h1 | ⟨c, hc, h1⟩
      · exact .inl (by rw [← e]; exact h1.2)
      · exact .inr ⟨c, hc, h1.2.trans e⟩
theorem gt_fold {n k q : Int} : ∀ (O R : List Pt), Un O → (∀ p, p ∈ O → p.part = k) → gt (O.foldl (joinS k) R) n q = if q = k - 1 then (gt O n k).or (gt R n (k - 1)) else gt R n q
  | [], R, _, _ => by
    show gt R n q = if q = k - 1 then (gt [] n k).or (gt R n (k - 1)) else gt R n q
    split
    · next e => rw [e]; rfl
    · rfl
  | a :: O, R, hu, hp => by
    have h1 := List.pairwise_cons.1 hu
    have ha := hp a List.mem_cons_self
    show gt (O.foldl (joinS k) (joinS k R a)) n q = _
    rw [gt_fold O (joinS k R a) h1.2 (fun p h => hp p (List.mem_cons_of_mem _ h))]
    have e1 : ∀ q', gt (joinS k R a) n q' = if n = a.n ∧ q' = k - 1 then some a.v else gt R n q' := fun q' => gt_put a.n a.v (k - 1) n q' R
    have e2 : gt (a :: O) n k = if a.n = n ∧ a.part = k then some a.v else gt O n k := rfl
    by_cases hq : q = k - 1
    · rw [if_pos hq, if_pos hq, e1, e2]
      by_cases hn : a.n = n
      · rw [if_pos ⟨hn.symm, rfl⟩, if_pos ⟨hn, ha⟩]
        rw [gt_none.2 (fun p h e => h1.1 p h ⟨hn.trans e.1.symm, ha.trans e.2.symm⟩)]
        rfl
      · rw [if_neg (fun e => hn e.1.symm), if_neg (fun e => hn e.1)]
    · rw [if_neg hq, if_neg hq, e1, if_neg (fun e => hq e.2)]
theorem gt_filter {n q : Int} {c : Pt → Bool} (hc : ∀ p : Pt, p.part = q → c p = true) : ∀ P : List Pt, gt (P.filter c) n q = gt P n q
  | [] => rfl
  | p :: l => by
    have ih := gt_filter (n := n) hc l
    by_cases h : c p = true
    · rw [List.filter_cons_of_pos h]; unfold gt; rw [ih]
    · rw [List.filter_cons_of_neg h, ih]
      show _ = if p.n = n ∧ p.part = q then some p.v else gt l n q
      rw [if_neg (fun e => h (hc p e.2))]
theorem un_filter {c : Pt → Bool} {P : List Pt} (h : Un P) : Un (P.filter c) := List.Pairwise.filter c h
/-- A part is joined, or forgotten: what parts have behind it. -/
theorem gt_shut {x : Tx} (hu : Un x.puts) (keep : Bool) {n q : Int} (hq : q ≠ x.parts) : gt (shutX x keep) n q = if keep = true ∧ q = x.parts - 1 then (gt x.puts n x.parts).or (gt x.puts n q) else gt x.puts n q := by
  have hR : ∀ q', q' ≠ x.parts → gt (x.puts.filter fun p => !decide (p.part = x.parts)) n q' = gt x.puts n q' := fun q' h => gt_filter (fun p e => by simp [e, h]) _
  cases keep with
  | false =>
    show gt (x.puts.filter _) n q = _
    rw [hR q hq, if_neg (fun e => by cases e.1)]
  | true =>
    show gt ((x.puts.filter fun p => decide (p.part = x.parts)).foldl (joinS x.parts) (x.puts.filter fun p => !decide (p.part = x.parts))) n q = _
    rw [gt_fold _ _ (un_filter hu) (fun p h => by simpa using (List.mem_filter.1 h).2), gt_filter (fun p e => by simp [e])]
    by_cases h : q = x.parts - 1
    · rw [if_pos h, if_pos ⟨rfl, h⟩, hR (x.parts - 1) (by omega), h]
    · rw [if_neg h, if_neg (fun e => h e.2), hR q hq]
theorem shut_un {x : Tx} (hu : Un x.puts) (keep : Bool) : Un (shutX x keep) := by
  cases keep with
  | false => exact un_filter hu
  | true => exact fold_un _ _ (un_filter hu)
theorem shut_part {x : Tx} {keep : Bool} {p : Pt} (hp : ∀ p, p ∈ x.puts → 1 ≤ p.part ∧ p.part ≤ x.parts) (h2 : 2 ≤ x.parts) (h : p ∈ shutX x keep) : 1 ≤ p.part ∧ p.part ≤ x.parts - 1 := by
  have hR : ∀ a, a ∈ (x.puts.filter fun p => !decide (p.part = x.parts)) → 1 ≤ a.part ∧ a.part ≤ x.parts - 1 := fun a ha => by
    have h3 := List.mem_filter.1 ha
    have h4 : ¬ a.part = x.parts := by simpa using h3.2
    have := hp a h3.1
    omega
  cases keep with
  | false => exact hR p h
  | true =>
    rcases fold_key _ _ (show p ∈ (x.puts.filter fun p => decide (p.part = x.parts)).foldl (joinS x.parts) (x.puts.filter fun p => !decide (p.part = x.parts)) from h) with h | ⟨a, ha, e⟩
    · omega
    · rw [← e]; exact hR a ha

/-- These pairs are a part's writes. -/
structure IsP (ks : List (Int × Int)) (P : List Pt) (q : Int) : Prop where
  nd : (keys ks).Nodup
  eq : ∀ n, asc ks n = gt P n q
theorem IsP.key {ks : List (Int × Int)} {P : List Pt} {q n : Int} (h : IsP ks P q) : n ∈ keys ks ↔ ∃ p, p ∈ P ∧ p.n = n ∧ p.part = q := by
  rw [asc_some]
  constructor
  · rintro ⟨v, hv⟩
    rw [h.eq] at hv
    obtain ⟨p, h1, h2, h3, _⟩ := gt_mem hv
    exact ⟨p, h1, h2, h3⟩
  · rintro ⟨p, h1, h2, h3⟩
    cases hv : asc ks n with
    | some v => exact ⟨v, rfl⟩
    | none =>
      rw [h.eq] at hv
      exact absurd ⟨h2, h3⟩ (gt_none.1 hv p h1)
theorem IsP.put {ks : List (Int × Int)} {P : List Pt} {q : Int} (h : IsP ks P q) (n v : Int) : IsP (putK n v ks) (putR n v q P) q :=
  ⟨nd_put h.nd, fun m => by
    rw [asc_put, gt_put, h.eq]
    by_cases e : m = n
    · rw [if_pos e, if_pos ⟨e, rfl⟩]
    · rw [if_neg e, if_neg (fun k => e k.1)]⟩
theorem IsP.put_other {ks : List (Int × Int)} {P : List Pt} {q q' : Int} (h : IsP ks P q) (hq : q ≠ q') (n v : Int) : IsP ks (putR n v q' P) q :=
  ⟨h.nd, fun m => by rw [gt_put, if_neg (fun k => hq k.2), h.eq]⟩
theorem isP_nil {P : List Pt} {q : Int} (h : ∀ p, p ∈ P → p.part ≠ q) : IsP [] P q := ⟨List.nodup_nil, fun n => (gt_none.2 fun p hp e => h p hp e.2).symm⟩

/-! ## The vars of a part, in order -/
theorem next_none {part last : Int} : ∀ {l : List Pt} {b : Option Pt}, l.foldl (nextS part last) b = none → b = none ∧ ∀ p, p ∈ l → ¬ (p.part = part ∧ last < p.n)
  | [], b, h => ⟨h, fun p hp => by cases hp⟩
  | q :: l, b, h => by
    obtain ⟨h1, h2⟩ := next_none (l := l) (b := nextS part last b q) h
    unfold nextS at h1
    split at h1
    · exfalso
      cases b with
      | none => cases h1
      | some y =>
        simp only at h1
        split at h1 <;> cases h1
    · next hc =>
      exact ⟨h1, fun p hp => by
        rcases List.mem_cons.1 hp with rfl | hp
        · exact hc
        · exact h2 p hp⟩
theorem next_least {part last : Int} : ∀ {l : List Pt} {b : Option Pt} {p : Pt}, l.foldl (nextS part last) b = some p → (∀ y, b = some y → p.n ≤ y.n) ∧ ∀ y, y ∈ l → y.part = part → last < y.n → p.n ≤ y.n
  | [], b, p, h => ⟨(fun y hy => by rw [show b = some p from h] at hy; injection hy with hy; rw [hy]; exact Int.le_refl _), fun y hy => by cases hy⟩
  | q :: l, b, p, h => by
    obtain ⟨h1, h2⟩ := next_least (l := l) (b := nextS part last b q) h
    unfold nextS at h1
    by_cases hc : q.part = part ∧ last < q.n
    · rw [if_pos hc] at h1
      cases b with
      | none =>
        have h3 := h1 q rfl
        exact ⟨(fun y hy => by cases hy), fun y hy e1 e2 => by
          rcases List.mem_cons.1 hy with rfl | hy
          · exact h3
          · exact h2 y hy e1 e2⟩
      | some z =>
        simp only at h1
        by_cases hz : q.n < z.n
        · rw [if_pos hz] at h1
          have h3 := h1 q rfl
          exact ⟨(fun y hy => by injection hy with hy; rw [← hy]; omega), fun y hy e1 e2 => by
            rcases List.mem_cons.1 hy with rfl | hy
            · exact h3
            · exact h2 y hy e1 e2⟩
        · rw [if_neg hz] at h1
          have h3 := h1 z rfl
          exact ⟨(fun y hy => by injection hy with hy; rw [← hy]; exact h3), fun y hy e1 e2 => by
            rcases List.mem_cons.1 hy with rfl | hy
            · omega
            · exact h2 y hy e1 e2⟩
    · rw [if_neg hc] at h1
      exact ⟨h1, fun y hy e1 e2 => by
        rcases List.mem_cons.1 hy with rfl | hy
        · exact absurd ⟨e1, e2⟩ hc
        · exact h2 y hy e1 e2⟩
theorem sortF_full (l : List Pt) (part : Int) : ∀ (f : Nat) (last : Int), cnt l part last < f → ∀ p, p ∈ l → p.part = part → last < p.n → ∃ y, y ∈ sortF l part f last ∧ y.n = p.n
  | 0, last, h, _, _, _, _ => absurd h (by omega)
  | f + 1, last, h, p, hp, e1, e2 => by
    unfold sortF
    cases hx : nextR l part last with
    | none => exact absurd ⟨e1, e2⟩ ((next_none (b := none) hx).2 p hp)
    | some y =>
      simp only
      have h1 := (next_least (b := none) hx).2 p hp e1 e2
      have h2 := cnt_next hx
      by_cases h3 : y.n = p.n
      · exact ⟨y, List.mem_cons_self, h3⟩
      · obtain ⟨z, hz, e⟩ := sortF_full l part f y.n (by omega) p hp e1 (by omega)
        exact ⟨z, List.mem_cons_of_mem _ hz, e⟩
theorem sort_full {l : List Pt} {part : Int} {p : Pt} (hp : p ∈ l) (e : p.part = part) (h0 : 0 ≤ p.n) : ∃ y, y ∈ sortR l part ∧ y.n = p.n :=
  sortF_full l part (l.length + 1) (-1) (by have := cnt_le l part (-1); omega) p hp e (by omega)
theorem sort_up (l : List Pt) (part : Int) : ((sortR l part).map (·.n)).Pairwise (· < ·) := by
  rw [List.pairwise_map]
  have key : ∀ (f : Nat) (last : Int), (sortF l part f last).Pairwise fun a b => a.n < b.n := by
    intro f
    induction f with
    | zero => exact fun last => List.Pairwise.nil
    | succ f ih =>
      intro last
      unfold sortF
      cases hx : nextR l part last with
      | none => exact List.Pairwise.nil
      | some y => exact List.pairwise_cons.2 ⟨fun b hb => (sortF_mem l part f y.n b hb).2.2, ih y.n⟩
  exact key _ _
theorem up_unique : ∀ {A B : List Int}, A.Pairwise (· < ·) → B.Pairwise (· < ·) → (∀ x, x ∈ A ↔ x ∈ B) → A = B
  | [], [], _, _, _ => rfl
  | [], b :: B, _, _, h => by have := (h b).2 List.mem_cons_self; cases this
  | a :: A, [], _, _, h => by have := (h a).1 List.mem_cons_self; cases this
  | a :: A, b :: B, hA, hB, h => by
    have h1 := List.pairwise_cons.1 hA
    have h2 := List.pairwise_cons.1 hB
    have e : a = b := by
      rcases List.mem_cons.1 ((h a).1 List.mem_cons_self) with e | e
      · exact e
      · rcases List.mem_cons.1 ((h b).2 List.mem_cons_self) with e' | e'
        · exact e'.symm
        · have := h2.1 a e; have := h1.1 b e'; omega
    subst e
    rw [up_unique h1.2 h2.2 fun x => ⟨fun hx => by
      rcases List.mem_cons.1 ((h x).1 (List.mem_cons_of_mem _ hx)) with e | e
      · have := h1.1 x hx; omega
      · exact e, fun hx => by
      rcases List.mem_cons.1 ((h x).2 (List.mem_cons_of_mem _ hx)) with e | e
      · have := h2.1 x hx; omega
      · exact e⟩]
abbrev srt (l : List Int) : List Int := l.mergeSort fun x y => decide (x ≤ y)
theorem srt_mem {l : List Int} {x : Int} : x ∈ srt l ↔ x ∈ l := (List.mergeSort_perm l _).mem_iff
theorem srt_len (l : List Int) : (srt l).length = l.length := (List.mergeSort_perm l _).length_eq
theorem srt_up {l : List Int} (h : l.Nodup) : (srt l).Pairwise (· < ·) := by
  have h1 : (srt l).Pairwise (fun a b => decide (a ≤ b) = true) := List.pairwise_mergeSort (le := fun x y => decide (x ≤ y)) (by intro a b c; simp; omega) (by intro a b; simp; omega) l
  have h2 : (srt l).Nodup := (List.mergeSort_perm l _).nodup_iff.2 h
  refine List.Pairwise.imp₂ (R := fun a b => decide (a ≤ b) = true) (S := fun a b => a ≠ b) (fun a b h3 h4 => ?_) h1 h2
  have : a ≤ b := by simpa using h3
  omega
theorem IsP.sorted {ks : List (Int × Int)} {P : List Pt} {q : Int} (h : IsP ks P q) (h0 : ∀ p, p ∈ P → 0 ≤ p.n) : srt (keys ks) = (sortR P q).map (·.n) := by
  refine up_unique (srt_up h.nd) (sort_up P q) fun x => ?_
  rw [srt_mem, h.key, List.mem_map]
  constructor
  · rintro ⟨p, h1, h2, h3⟩
    obtain ⟨y, hy, e⟩ := sort_full h1 h3 (h0 p h1)
    exact ⟨y, hy, e.trans h2⟩
  · rintro ⟨y, hy, e⟩
    obtain ⟨h1, h2⟩ := sortR_mem hy
    exact ⟨y, h1, e, h2⟩
/-- What a map has, in the order of the vars. -/
def vals (ks : List (Int × Int)) : List Int := (srt (keys ks)).map fun n => (asc ks n).getD 0
theorem IsP.vals {ks : List (Int × Int)} {P : List Pt} {q : Int} (h : IsP ks P q) (hu : Un P) (h0 : ∀ p, p ∈ P → 0 ≤ p.n) : vals ks = (sortR P q).map (·.v) := by
  unfold PA.vals
  rw [h.sorted h0, List.map_map]
  apply List.map_congr_left
  intro p hp
  obtain ⟨h1, h2⟩ := sortR_mem hp
  show (asc ks p.n).getD 0 = p.v
  rw [h.eq, ← h2, mem_gt hu h1]
  rfl
/-- No more keys than writes. -/
theorem nd_len : ∀ {A B : List Int}, A.Nodup → (∀ x, x ∈ A → x ∈ B) → A.length ≤ B.length
  | [], _, _, _ => Nat.zero_le _
  | a :: A, B, hA, h => by
    have h1 := List.nodup_cons.1 hA
    have h2 := h a List.mem_cons_self
    have ih := nd_len (A := A) (B := B.erase a) h1.2 fun x hx => (List.mem_erase_of_ne (fun e => h1.1 (by rw [← e]; exact hx))).2 (h x (List.mem_cons_of_mem _ hx))
    rw [List.length_erase_of_mem h2] at ih
    have := List.length_pos_of_mem h2
    show A.length + 1 ≤ _
    omega
theorem IsP.len {ks : List (Int × Int)} {P : List Pt} {q : Int} (h : IsP ks P q) : ks.length ≤ P.length := by
  have := nd_len (A := keys ks) (B := P.map (·.n)) h.nd fun x hx => by
    obtain ⟨p, h1, h2, _⟩ := h.key.1 hx
    exact List.mem_map.2 ⟨p, h1, h2⟩
  simpa [keys] using this

/-! ## The youngest part's write -/
/-- The first of the parts from k down that writes n. -/
def ownW (P : List Pt) (n : Int) : Nat → Option Int
  | 0 => none
  | k + 1 => (gt P n ((k : Int) + 1)).or (ownW P n k)
theorem best_spec {n : Int} : ∀ {l : List Pt} {b : Option Pt}, (l.foldl (bestS n) b = none → b = none ∧ ∀ p, p ∈ l → ¬ p.n = n) ∧ (∀ p, l.foldl (bestS n) b = some p → (b = some p ∨ (p ∈ l ∧ p.n = n)) ∧ (∀ y, b = some y → y.part ≤ p.part) ∧ ∀ y, y ∈ l → y.n = n → y.part ≤ p.part)
  | [], b => ⟨fun h => ⟨h, fun p hp => by cases hp⟩, fun p h => ⟨.inl h, (fun y hy => by rw [show b = some p from h] at hy; injection hy with hy; rw [hy]; exact Int.le_refl _), fun y hy => by cases hy⟩⟩
  | q :: l, b => by
    obtain ⟨h1, h2⟩ := best_spec (n := n) (l := l) (b := bestS n b q)
    by_cases hc : q.n = n
    · obtain ⟨z, hz, hz1, hz2, hz3⟩ : ∃ z, bestS n b q = some z ∧ (b = some z ∨ z = q) ∧ (∀ y, b = some y → y.part ≤ z.part) ∧ q.part ≤ z.part := by
        unfold bestS
        rw [if_pos hc]
        cases b with
        | none => exact ⟨q, rfl, .inr rfl, (fun y hy => by cases hy), Int.le_refl _⟩
        | some y =>
          simp only
          by_cases h3 : y.part < q.part
          · rw [if_pos h3]
            exact ⟨q, rfl, .inr rfl, (fun z hz => by injection hz with hz; rw [← hz]; omega), Int.le_refl _⟩
          · rw [if_neg h3]
            exact ⟨y, rfl, .inl rfl, (fun z hz => by injection hz with hz; rw [← hz]; exact Int.le_refl _), by omega⟩
      refine ⟨fun h => absurd (h1 h).1 (by rw [hz]; exact fun e => by cases e), fun p h => ?_⟩
      obtain ⟨k1, k2, k3⟩ := h2 p h
      have k4 := k2 z hz
      refine ⟨?_, fun y hy => Int.le_trans (hz2 y hy) k4, fun y hy e => ?_⟩
      · rcases k1 with k1 | k1
        · rw [hz] at k1
          injection k1 with k1
          rcases hz1 with hz1 | hz1
          · exact .inl (by rw [hz1, k1])
          · exact .inr ⟨by rw [← k1, hz1]; exact List.mem_cons_self, by rw [← k1, hz1]; exact hc⟩
        · exact .inr ⟨List.mem_cons_of_mem _ k1.1, k1.2⟩
      · rcases List.mem_cons.1 hy with rfl | hy
        · exact Int.le_trans hz3 k4
        · exact k3 y hy e
    · have hb : bestS n b q = b := by unfold bestS; rw [if_neg hc]
      rw [hb] at h1 h2
      refine ⟨fun h => ⟨(h1 (by rw [List.foldl_cons, hb] at h; exact h)).1, fun p hp => ?_⟩, fun p h => ?_⟩
      · rcases List.mem_cons.1 hp with rfl | hp
        · exact hc
        · exact (h1 (by rw [List.foldl_cons, hb] at h; exact h)).2 p hp
      · obtain ⟨k1, k2, k3⟩ := h2 p (by rw [List.foldl_cons, hb] at h; exact h)
        refine ⟨?_, k2, fun y hy e => ?_⟩
        · rcases k1 with k1 | k1
          · exact .inl k1
          · exact .inr ⟨List.mem_cons_of_mem _ k1.1, k1.2⟩
        · rcases List.mem_cons.1 hy with rfl | hy
          · exact absurd e hc
          · exact k3 y hy e
theorem ownW_none {P : List Pt} {n : Int} (h : ∀ p, p ∈ P → ¬ p.n = n) : ∀ k, ownW P n k = none
  | 0 => rfl
  | k + 1 => by
    unfold ownW
    rw [gt_none.2 (fun p hp e => h p hp e.1), ownW_none h k]
    rfl
theorem ownW_some {P : List Pt} (hu : Un P) {n : Int} {p : Pt} (hp : p ∈ P) (hn : p.n = n) (hm : ∀ y, y ∈ P → y.n = n → y.part ≤ p.part) (h1 : 1 ≤ p.part) : ∀ k : Nat, p.part ≤ (k : Int) → ownW P n k = some p.v
  | 0, h => by omega
  | k + 1, h => by
    unfold ownW
    by_cases e : p.part = (k : Int) + 1
    · have := mem_gt hu hp
      rw [hn, e] at this
      rw [this]
      rfl
    · rw [gt_none.2 (fun y hy c => by have := hm y hy c.1; omega), ownW_some hu hp hn hm h1 k (by omega)]
      rfl
theorem own_best {P : List Pt} (hu : Un P) {n : Int} {k : Nat} (hp : ∀ p, p ∈ P → 1 ≤ p.part ∧ p.part ≤ (k : Int)) : ownW P n k = (bestR n P).map (·.v) := by
  obtain ⟨h1, h2⟩ := best_spec (n := n) (l := P) (b := none)
  unfold bestR
  cases hx : P.foldl (bestS n) none with
  | none => exact ownW_none (h1 hx).2 k
  | some p =>
    obtain ⟨k1, _, k3⟩ := h2 p hx
    rcases k1 with k1 | ⟨k1, k2⟩
    · cases k1
    · exact ownW_some hu k1 k2 k3 (hp p k1).1 k (hp p k1).2
end Go.Proofs.Ytjoifodjbdbicaa.PA

/- Maps from numbers to numbers, as they lie, exactly; a range over one. -/
namespace Go.Proofs.Ytjoifodjbdbicaa.PB
open Go.RowKit Go.Proofs.Ytjoifodjbdbicaa.RG Go.Proofs.Ytjoifodjbdbicaa.RI Go.Proofs.Ytjoifodjbdbicaa.RM Go.Proofs.Ytjoifodjbdbicaa.PA
open Go.WideElems (Fit rd rg rg_of rd_mk)
set_option linter.unusedVariables false
set_option maxRecDepth 100000
set_option maxRecDepth 100000

/-- A map's entries. -/
def entsV : Nat → List (Int × Int) → List MapEntry
  | _, [] => []
  | i, k :: ks => { key := .int .i64 k.1, val := .int .i64 k.2, born := i } :: entsV (i + 1) ks
theorem entsV_snoc : ∀ (ks : List (Int × Int)) (i : Nat) (K : Int × Int), entsV i (ks ++ [K]) = entsV i ks ++ [{ key := .int .i64 K.1, val := .int .i64 K.2, born := i + ks.length }]
  | [], i, K => rfl
  | k :: ks, i, K => by
    show _ :: entsV (i + 1) (ks ++ [K]) = _ :: (entsV (i + 1) ks ++ _)
    rw [entsV_snoc ks (i + 1) K]
    congr 3
    simp only [List.length_cons]
    congr 1
    omega
theorem entsV_mem : ∀ {ks : List (Int × Int)} {i : Nat} {x : MapEntry}, x ∈ entsV i ks → ∃ p, p ∈ ks ∧ x.key = .int .i64 p.1 ∧ x.val = .int .i64 p.2 ∧ i ≤ x.born ∧ x.born < i + ks.length
  | [], i, x, h => by cases h
  | k :: ks, i, x, h => by
    rcases List.mem_cons.1 h with rfl | h
    · exact ⟨k, List.mem_cons_self, rfl, rfl, Nat.le_refl _, by simp⟩
    · obtain ⟨p, h1, h2, h3, h4, h5⟩ := entsV_mem h
      exact ⟨p, List.mem_cons_of_mem _ h1, h2, h3, by omega, by simp; omega⟩
theorem entsV_born : ∀ (ks : List (Int × Int)) (i : Nat), ((entsV i ks).map (·.born)).Nodup
  | [], i => List.nodup_nil
  | k :: ks, i => by
    refine List.nodup_cons.2 ⟨fun h => ?_, entsV_born ks (i + 1)⟩
    obtain ⟨x, hx, e⟩ := List.mem_map.1 h
    obtain ⟨_, _, _, _, h4, _⟩ := entsV_mem hx
    simp only at e
    omega
theorem entsV_keys : ∀ (ks : List (Int × Int)) (i : Nat), (entsV i ks).map (·.key) = (keys ks).map (Value.int .i64)
  | [], i => rfl
  | k :: ks, i => by
    show Value.int .i64 k.1 :: (entsV (i + 1) ks).map (·.key) = _
    rw [entsV_keys ks (i + 1)]
    rfl
theorem nd_int : ∀ {l : List Int}, l.Nodup → (l.map (Value.int .i64)).Nodup
  | [], _ => List.nodup_nil
  | a :: l, h => by
    have h1 := List.nodup_cons.1 h
    refine List.nodup_cons.2 ⟨fun h2 => ?_, nd_int h1.2⟩
    obtain ⟨x, hx, e⟩ := List.mem_map.1 h2
    injection e with _ e
    exact h1.1 (e ▸ hx)
/-- The place of a key. -/
def idx (ks : List (Int × Int)) (K : Int) : Option Nat := match ks with
  | [] => none
  | p :: l => if p.1 = K then some 0 else (idx l K).map (· + 1)
theorem find_yes : ∀ (ks : List (Int × Int)) (i j : Nat) (K V : Int), asc ks K = some V → ∃ m, idx ks K = some m ∧ Instr.findNow (.int .i64) (.int .i64 K) (entsV i ks) j = some (some (j + m, .int .i64 V))
  | [], i, j, K, V, h => by cases h
  | k :: ks, i, j, K, V, h => by
    unfold asc at h
    unfold idx
    by_cases e : k.1 = K
    · rw [if_pos e] at h ⊢
      injection h with h
      subst e
      refine ⟨0, rfl, ?_⟩
      unfold entsV Instr.findNow Instr.sameNow
      simp [h]
    · rw [if_neg e] at h ⊢
      have hne : (K == k.1) = false := by rw [beq_eq_false_iff_ne]; exact fun h => e h.symm
      obtain ⟨m, h1, h2⟩ := find_yes ks (i + 1) (j + 1) K V h
      refine ⟨m + 1, by rw [h1]; rfl, ?_⟩
      unfold entsV Instr.findNow Instr.sameNow
      simp only [if_pos, hne]
      rw [h2]
      congr 3
      omega
theorem find_no : ∀ (ks : List (Int × Int)) (i j : Nat) (K : Int), asc ks K = none → Instr.findNow (.int .i64) (.int .i64 K) (entsV i ks) j = some none
  | [], i, j, K, _ => rfl
  | k :: ks, i, j, K, h => by
    unfold asc at h
    by_cases e : k.1 = K
    · rw [if_pos e] at h; cases h
    · rw [if_neg e] at h
      have hne : (K == k.1) = false := by rw [beq_eq_false_iff_ne]; exact fun h => e h.symm
      unfold entsV Instr.findNow Instr.sameNow
      simp only [if_pos, hne]
      exact find_no ks (i + 1) (j + 1) K h
theorem entsV_put : ∀ (ks : List (Int × Int)) (i m : Nat) (K V : Int), idx ks K = some m → (entsV i ks).modify m (fun e => { e with key := .int .i64 K, val := .int .i64 V }) = entsV i (putK K V ks) ∧ (putK K V ks).length = ks.length ∧ ∃ e, (entsV i ks)[m]? = some e ∧ e.key = .int .i64 K
  | [], i, m, K, V, h => by cases h
  | k :: ks, i, m, K, V, h => by
    unfold idx at h
    unfold putK
    by_cases e : k.1 = K
    · rw [if_pos e] at h ⊢
      injection h with h
      subst h
      exact ⟨rfl, rfl, _, rfl, by rw [e]⟩
    · rw [if_neg e] at h ⊢
      rw [Option.map_eq_some_iff] at h
      obtain ⟨m', hm, rfl⟩ := h
      obtain ⟨h1, h2, h3⟩ := entsV_put ks (i + 1) m' K V hm
      refine ⟨?_, by simp [h2], by simpa [entsV] using h3⟩
      show (_ :: entsV (i + 1) ks).modify (m' + 1) _ = _ :: entsV (i + 1) (putK K V ks)
      rw [List.modify_succ_cons, h1]
theorem putK_new : ∀ {ks : List (Int × Int)} {K V : Int}, asc ks K = none → putK K V ks = ks ++ [(K, V)]
  | [], _, _, _ => rfl
  | k :: ks, K, V, h => by
    unfold asc at h
    unfold putK
    by_cases e : k.1 = K
    · rw [if_pos e] at h; cases h
    · rw [if_neg e] at h ⊢
      rw [putK_new h]
      rfl
/-- The block r is the map of these pairs. -/
def MapB (w : World) (r : Nat) (ks : List (Int × Int)) : Prop := w.heap[r]? = some (.map (entsV 0 ks).toArray ks.length)
theorem MapB.lt {w : World} {r : Nat} {ks : List (Int × Int)} (h : MapB w r ks) : r < w.heap.size := (Array.getElem?_eq_some_iff.1 h).1
theorem MapB.keep {w w' : World} {r : Nat} {ks : List (Int × Int)} (h : MapB w r ks) (hb : Below w.heap.size w w') : MapB w' r ks := (hb.block r h.lt).trans h
theorem MapB.on {S : Nat → Prop} {w w' : World} {r : Nat} {ks : List (Int × Int)} (h : MapB w r ks) (ho : OnS S w w') (hn : ¬ S r) : MapB w' r ks := (ho.block r h.lt hn).trans h
theorem MapB.new (w : World) : MapB (w.alloc (.map #[] 0)) w.heap.size [] := heap_alloc_new w _
theorem MapB.grown {w w' : World} {row : Option Nat} {r : Nat} {ks : List (Int × Int)} (h : MapB w r ks) (hg : w.grownBy w' row) (hn : some r ≠ row) : MapB w' r ks := (hg.block r h.lt hn).trans h
/-- A map's block is no block of cells. -/
theorem MapB.ne {w : World} {r b : Nat} {ks : List (Int × Int)} {c : Array Value} {T : TypeId} (h : MapB w r ks) (hk : Bk w b c T) : r ≠ b := fun e => by
  subst e
  unfold MapB at h
  unfold Bk at hk
  rw [h] at hk
  injection hk with hk
  cases hk
/-- A pair is put. -/
abbrev putM (w : World) (r : Nat) (K V : Int) (ks : List (Int × Int)) : World := setMap w r (.map (entsV 0 (putK K V ks)).toArray (putK K V ks).length)
theorem MapB.put {w : World} {r : Nat} {ks : List (Int × Int)} (h : MapB w r ks) (K V : Int) : MapB (putM w r K V ks) r (putK K V ks) := setMap_at h
theorem putM_on (w : World) (r : Nat) (K V : Int) (ks : List (Int × Int)) : OnS (fun b => b = r) w (putM w r K V ks) :=
  ⟨rfl, rfl, rfl, by rw [setMap_size]; exact Nat.le_refl _, fun k _ hs => setMap_other r _ hs⟩
theorem putM_same {w : World} {r : Nat} {ks : List (Int × Int)} {K V : Int} (h : MapB w r ks) (hv : asc ks K = some V) : putM w r K V ks = w := by
  unfold putM setMap
  rw [put_same hv]
  have : w.heap.setIfInBounds r (.map (entsV 0 ks).toArray ks.length) = w.heap := by
    apply Array.ext_getElem?
    intro i
    rw [Array.getElem?_setIfInBounds]
    split
    · next e => subst e; split
                · exact h.symm
                · next hn => exact absurd h.lt hn
    · rfl
  rw [this]
section
variable {P : Program} {MT KT ET : TypeId}
theorem run_put (hmap : P.underlying MT = some (.map KT ET)) (hint : P.underlying KT = some (.int .i64)) (w : World) (r : Nat) (ks : List (Int × Int)) (K V : Int) (hb : MapB w r ks) :
    (Instr.mapUpdate MT (.map (some r)) (.int .i64 K) (.int .i64 V)).run P w = .ok () (putM w r K V ks) := by
  unfold MapB at hb
  have hc : (Instr.checkKey false 10000 KT (.int .i64 K)).run P w = .ok () w := MapKept.run_checkKey (k := .int .i64 K) hint (by simp [MapKept.IsKey]) false 9999
  cases hv : asc ks K with
  | none =>
    have hf : Instr.findNow (.int .i64) (.int .i64 K) (entsV 0 ks).toArray.toList 0 = some none := by
      rw [List.toList_toArray]
      exact find_no ks 0 0 K hv
    have hp : (entsV 0 ks).toArray.push { key := .int .i64 K, val := .int .i64 V, born := ks.length } = (entsV 0 (ks ++ [(K, V)])).toArray := by
      rw [entsV_snoc]
      simp
    unfold putM
    rw [putK_new hv, ← hp]
    simp [Instr.mapUpdate, run_underlying hmap, MapKept.run_getObj_map hb, hc, MapKept.run_findKey hint hf, MapKept.run_setObj_map _ hb, Result.andThen, setMap]
  | some U =>
    obtain ⟨m, h1, h2⟩ := find_yes ks 0 0 K U hv
    obtain ⟨h3, h4, x, hx, hxk⟩ := entsV_put ks 0 m K V h1
    rw [Nat.zero_add] at h2
    have hf : Instr.findNow (.int .i64) (.int .i64 K) (entsV 0 ks).toArray.toList 0 = some (some (m, .int .i64 U)) := by
      rw [List.toList_toArray]
      exact h2
    have hk : (((entsV 0 ks).toArray[m]?).map (·.key)).getD (.int .i64 K) = .int .i64 K := by
      rw [List.getElem?_toArray, hx]
      exact hxk
    have hs : (Instr.keyThatStays (.int .i64 K) (.int .i64 K)).run P w = .ok (.int .i64 K) w := by
      simp [Instr.keyThatStays, Instr.sameBits]
    have hm : (entsV 0 ks).toArray.modify m (fun e => { e with key := .int .i64 K, val := .int .i64 V }) = (entsV 0 (putK K V ks)).toArray := by
      rw [← h3]
      simp
    unfold putM
    rw [h4, ← hm]
    simp only [Instr.mapUpdate, run_underlying hmap, MapKept.run_getObj_map hb, hc, MapKept.run_findKey hint hf, Sem.run_bind, Result.andThen_ok, hk, hs, MapKept.run_setObj_map _ hb, setMap]
theorem run_look (hmap : P.underlying MT = some (.map KT ET)) (hint : P.underlying KT = some (.int .i64)) (hz : ∀ w, (zeroValue ET).run P w = .ok (.int .i64 0) w) (w : World) (r : Nat) (ks : List (Int × Int)) (K : Int) (hb : MapB w r ks) :
    (Instr.lookup MT (.map (some r)) (.int .i64 K) true).run P w = .ok (.tuple #[.int .i64 ((asc ks K).getD 0), .bool (asc ks K).isSome]) w ∧ (Instr.lookup MT (.map (some r)) (.int .i64 K) false).run P w = .ok (.int .i64 ((asc ks K).getD 0)) w := by
  unfold MapB at hb
  have hc : ∀ b, (Instr.checkKey b 10000 KT (.int .i64 K)).run P w = .ok () w := fun b => MapKept.run_checkKey (k := .int .i64 K) hint (by simp [MapKept.IsKey]) b 9999
  cases hv : asc ks K with
  | none =>
    have hf : Instr.findNow (.int .i64) (.int .i64 K) (entsV 0 ks).toArray.toList 0 = some none := by rw [List.toList_toArray]; exact find_no ks 0 0 K hv
    constructor
    · simp [Instr.lookup, run_underlying hmap, MapKept.run_getObj_map hb, hc, MapKept.run_findKey hint hf, hz, Result.andThen]
    · simp [Instr.lookup, run_underlying hmap, MapKept.run_getObj_map hb, hc, MapKept.run_findKey hint hf, hz, Result.andThen]
  | some V =>
    obtain ⟨m, _, hm⟩ := find_yes ks 0 0 K V hv
    have hf : Instr.findNow (.int .i64) (.int .i64 K) (entsV 0 ks).toArray.toList 0 = some (some (0 + m, .int .i64 V)) := by rw [List.toList_toArray]; exact hm
    constructor
    · simp [Instr.lookup, run_underlying hmap, MapKept.run_getObj_map hb, hc, MapKept.run_findKey hint hf, Result.andThen]
    · simp [Instr.lookup, run_underlying hmap, MapKept.run_getObj_map hb, hc, MapKept.run_findKey hint hf, Result.andThen]
end

/-! ## A range -/
/-- How a value reads, whatever number it is. -/
def anyInt (v : Value) : Option (DataW Unit × List MemPlace) := match v with
  | .int .i64 a => some (.lit (.int .i64 a), [])
  | _ => none
theorem anyInt_inv (v : Value) (y : DataW Unit × List MemPlace) (h : anyInt v = some y) : ∃ c : Int, v = .int .i64 c := by
  unfold anyInt at h
  split at h
  · exact ⟨_, rfl⟩
  · cases h
/-- A number that is small. -/
theorem wf_small {n : Int} (h : 0 ≤ n ∧ n < 1000000) : (Lit.int .i64 n).wf = true := by
  have h1 : IntKind.i64.min = -9223372036854775808 := rfl
  have h2 : IntKind.i64.max = 9223372036854775807 := rfl
  simp only [Lit.wf, h1, h2, Bool.and_eq_true, decide_eq_true_eq]
  omega
def lits (ks : List (Int × Int)) : List (Lit × DataW Unit) := ks.map fun p => (.int .i64 p.1, .lit (.int .i64 p.2))
def dat (ks : List (Int × Int)) : DataW Unit := .map ((lits ks).foldr DataW.insert [])
abbrev kinfo : Maps.Keyed Try.prog 3 := Maps.int_keyed Try.underlying3
def Small (ks : List (Int × Int)) : Prop := ∀ n, n ∈ keys ks → 0 ≤ n ∧ n < 1000000
theorem rg_ents : ∀ (ks : List (Int × Int)) (i : Nat), Small ks → (∀ x, x ∈ entsV i ks → ∃ y, rd Try.prog 3 anyInt x = some y) ∧ (entsV i ks).map (rg Try.prog 3 anyInt) = lits ks
  | [], i, _ => ⟨(fun x h => by cases h), rfl⟩
  | k :: ks, i, h => by
    obtain ⟨h1, h2⟩ := rg_ents ks (i + 1) fun n hn => h n (List.mem_cons_of_mem _ hn)
    have hk := Maps.keyOf_int_mk (P := Try.prog) (k := 3) Try.underlying3 (wf_small (h k.1 List.mem_cons_self))
    have hr : rd Try.prog 3 anyInt ⟨.int .i64 k.1, .int .i64 k.2, i⟩ = some (.int .i64 k.1, .lit (.int .i64 k.2)) := rd_mk hk (yv := (.lit (.int .i64 k.2), [])) rfl
    refine ⟨fun x hx => ?_, ?_⟩
    · rcases List.mem_cons.1 hx with rfl | hx
      · exact ⟨_, hr⟩
      · exact h1 x hx
    · show rg _ _ _ _ :: (entsV (i + 1) ks).map _ = _ :: lits ks
      rw [h2, rg_of hr]
theorem MapB.own {w : World} {r : Nat} {ks : List (Int × Int)} (h : MapB w r ks) (hd : (keys ks).Nodup) (hs : Small ks) (hl : ks.length ≤ 1000000) : w.ownsMap Try.prog 3 anyInt r ks.length (dat ks) := by
  obtain ⟨h1, h2⟩ := rg_ents ks 0 hs
  have hlen : (entsV 0 ks).length = ks.length := by have := congrArg List.length h2; simpa [lits] using this
  refine ⟨(entsV 0 ks).toArray, ks.length, h, ⟨by simp [hlen, maxLen]; omega, ⟨fun x hx => ?_, by simpa using entsV_born ks 0, by rw [List.toList_toArray, entsV_keys]; exact nd_int hd⟩, fun x hx => h1 x (by simpa using hx)⟩, by simp [hlen], by rw [List.toList_toArray, h2]; rfl⟩
  obtain ⟨_, _, _, _, _, h5⟩ := entsV_mem (by simpa using hx)
  omega
theorem has_dat (ks : List (Int × Int)) (n : Int) : Maps.has (dat ks) (.int .i64 n) = decide (n ∈ keys ks) := by
  unfold dat
  rw [Maps.has_eq, Bool.eq_iff_iff, List.any_eq_true, decide_eq_true_eq]
  constructor
  · rintro ⟨p, hp, e⟩
    obtain ⟨q, hq, rfl⟩ := List.mem_map.1 (mem_sorted.1 hp)
    have : q.1 = n := by simpa [Lit.sameKey] using e
    exact List.mem_map.2 ⟨q, hq, this⟩
  · intro h
    obtain ⟨q, hq, e⟩ := List.mem_map.1 h
    exact ⟨_, mem_sorted.2 (List.mem_map.2 ⟨q, hq, rfl⟩), by simp [Lit.sameKey, e]⟩
theorem at_dat {ks : List (Int × Int)} {n c : Int} {y : DataW Unit × List MemPlace} (hd : (keys ks).Nodup) (hn : n ∈ keys ks) (hy : anyInt (.int .i64 c) = some y) (h : ∀ z, (dat ks).atKey (.int .i64 n) z = y.1) : asc ks n = some c := by
  have h := h .nil
  injection hy with hy
  rw [← hy] at h
  unfold dat DataW.atKey at h
  simp only at h
  split at h
  · next p hp =>
    have h1 := List.mem_of_find?_eq_some hp
    have h2 := List.find?_some hp
    obtain ⟨q, hq, rfl⟩ := List.mem_map.1 (mem_sorted.1 h1)
    have e : q.1 = n := by simpa [Lit.sameKey] using h2
    have e2 : q.2 = c := by simpa using h
    exact mem_asc hd (by rw [← e, ← e2]; exact hq)
  · cases h
/-- What has come of the keys, and what is left. -/
structure Left (ks : List (Int × Int)) (l : List Int) (left : Lit → Bool) : Prop where
  nd : l.Nodup
  mem : ∀ n, n ∈ l ↔ n ∈ keys ks ∧ left (.int .i64 n) = false
  sub : ∀ n, left (.int .i64 n) = true → n ∈ keys ks
theorem left_start (ks : List (Int × Int)) : Left ks [] (Maps.has (dat ks)) :=
  ⟨List.nodup_nil, fun n => by rw [has_dat]; simp, fun n h => by rw [has_dat] at h; simpa using h⟩
theorem Left.step {ks : List (Int × Int)} {l : List Int} {left : Lit → Bool} (h : Left ks l left) {x : Int} (hx : left (.int .i64 x) = true) : Left ks (l ++ [x]) (fun z => left z && !z.sameKey (.int .i64 x)) := by
  have hn : x ∉ l := fun h2 => by have := ((h.mem x).1 h2).2; rw [hx] at this; cases this
  refine ⟨?_, fun n => ?_, fun n h2 => ?_⟩
  · rw [List.nodup_append]
    exact ⟨h.nd, by simp, fun a ha b hb e => by rw [List.mem_singleton.1 hb] at e; exact hn (e ▸ ha)⟩
  · rw [List.mem_append, List.mem_singleton, h.mem]
    simp only [Lit.sameKey, true_and]
    by_cases e : n = x
    · subst e; simp [h.sub _ hx]
    · simp [e]
  · simp only [Bool.and_eq_true] at h2
    exact h.sub n h2.1
theorem Left.all {ks : List (Int × Int)} {l : List Int} {left : Lit → Bool} (h : Left ks l left) (h0 : ∀ kl, left kl = false) (n : Int) : n ∈ l ↔ n ∈ keys ks := by rw [h.mem, h0]; simp
theorem Left.srt {ks : List (Int × Int)} {l : List Int} {left : Lit → Bool} (h : Left ks l left) (h0 : ∀ kl, left kl = false) (hd : (keys ks).Nodup) : PA.srt l = PA.srt (keys ks) :=
  up_unique (srt_up h.nd) (srt_up hd) fun x => by rw [srt_mem, srt_mem, h.all h0]
theorem Left.len {ks : List (Int × Int)} {l : List Int} {left : Lit → Bool} (h : Left ks l left) : l.length ≤ ks.length := by
  have := nd_len (A := l) (B := keys ks) h.nd fun x hx => ((h.mem x).1 hx).1
  simpa [keys] using this
end Go.Proofs.Ytjoifodjbdbicaa.PB

/- The program's engine in memory: vars, threads, a transaction's rows and maps. -/
namespace Go.Proofs.Ytjoifodjbdbicaa.PC
open Go.RowKit Go.Proofs.Ytjoifodjbdbicaa.RG Go.Proofs.Ytjoifodjbdbicaa.RB Go.Proofs.Ytjoifodjbdbicaa.RI Go.Proofs.Ytjoifodjbdbicaa.RM Go.Proofs.Ytjoifodjbdbicaa.UA Go.Proofs.Ytjoifodjbdbicaa.UB Go.Proofs.Ytjoifodjbdbicaa.UD Go.Proofs.Ytjoifodjbdbicaa.UE Go.Proofs.Ytjoifodjbdbicaa.PA Go.Proofs.Ytjoifodjbdbicaa.PB
set_option linter.unusedVariables false
set_option maxRecDepth 100000
set_option maxRecDepth 100000

def TVp : Ty Try.prog Vr := Ty.flat 80 86 3 24 (.agg #[.int .i64 0, .int .i64 0, .int .i64 0]) (fun v => [.int .i64 v.val, .int .i64 v.ver, .int .i64 v.lock]) Try.underlying80 (by kernel_rfl) rfl (by decide) (by decide) (fun _ => rfl) (fun a u hu => by
  simp only [List.mem_cons, List.not_mem_nil, or_false] at hu
  rcases hu with rfl | rfl | rfl <;> rfl)
/-- A row of maps. -/
def TMp : Ty Try.prog Nat := Ty.flat 76 88 1 8 (.map none) (fun b => [.map (some b)]) Try.underlying76 (by kernel_rfl) rfl (by decide) (by decide) (fun _ => rfl) (fun a u hu => by rw [List.mem_singleton.1 hu]; rfl)
def ptr (o : Option Nat) : Value := .pointer (o.map fun b => ⟨b, 0, none⟩)
theorem ptr_some (b : Nat) : ptr (some b) = .pointer (some ⟨b, 0, none⟩) := rfl
theorem ptr_none : ptr none = .pointer none := rfl
def txc (x : Tx) (rv pv lv : Value) : Array Value := #[.int .i64 x.start, rv, pv, .bool x.commits, lv, .int .i64 x.stamp]
abbrev Mp := Nat × List (Int × Int)
/-- A transaction at b, of the blocks G; L: what is left. -/
structure TX (w : World) (G : Nat → Prop) (b : Nat) (x : Tx) (L : List Int) (rv pv lv : Value) (ms : List Mp) : Prop where
  bk : Bk w b (txc x rv pv lv) 78
  rd : OwnF TI w rv x.reads
  pt : OwnF TMp w pv (ms.map (·.1))
  lf : RowI w lv L
  mp : ∀ m, m ∈ ms → MapB w m.1 m.2
  np : (ms.length : Int) = x.parts
  isp : ∀ (k : Nat) (m : Mp), ms[k]? = some m → IsP m.2 x.puts ((k : Int) + 1)
  nd : (ms.map (·.1)).Nodup
  ne : ∀ c, rv.ownBlock = some c → lv.ownBlock ≠ some c
  lk : ∀ c, lv.ownBlock = some c → ∃ cur, Bk w c cur 3
  inb : G b
  inr : ∀ c, rv.ownBlock = some c → G c
  inp : ∀ c, pv.ownBlock = some c → G c
  inl : ∀ c, lv.ownBlock = some c → G c
  inm : ∀ m, m ∈ ms → G m.1
  lt : ∀ c, G c → c < w.heap.size
def TD (w : World) (G : Nat → Prop) (b : Nat) (x : Tx) (L : List Int) : Prop := ∃ rv pv lv ms, TX w G b x L rv pv lv ms
theorem TX.on {w w' : World} {G S : Nat → Prop} {b : Nat} {x : Tx} {L : List Int} {rv pv lv : Value} {ms : List Mp} (H : TX w G b x L rv pv lv ms) (ho : OnS S w w') (hn : ∀ c, G c → ¬ S c) : TX w' G b x L rv pv lv ms :=
  ⟨ho.bk H.bk (hn b H.inb), ownF_on H.rd ho (fun c hc => hn c (H.inr c hc)), ownF_on H.pt ho (fun c hc => hn c (H.inp c hc)), row_onS H.lf ho (fun c hc => hn c (H.inl c hc)), fun m hm => (H.mp m hm).on ho (hn _ (H.inm m hm)), H.np, H.isp, H.nd, H.ne, fun c hc => by
    obtain ⟨cur, h⟩ := H.lk c hc
    exact ⟨cur, ho.bk h (hn c (H.inl c hc))⟩, H.inb, H.inr, H.inp, H.inl, H.inm, fun c hc => Nat.lt_of_lt_of_le (H.lt c hc) ho.size⟩
theorem TX.keep {w w' : World} {G : Nat → Prop} {b : Nat} {x : Tx} {L : List Int} {rv pv lv : Value} {ms : List Mp} (H : TX w G b x L rv pv lv ms) (h : Below w.heap.size w w') : TX w' G b x L rv pv lv ms := H.on (OnS.none h) (fun _ _ h => h)
theorem TX.weak {w : World} {G G' : Nat → Prop} {b : Nat} {x : Tx} {L : List Int} {rv pv lv : Value} {ms : List Mp} (H : TX w G b x L rv pv lv ms) (h : ∀ c, G c → G' c) (hl : ∀ c, G' c → c < w.heap.size) : TX w G' b x L rv pv lv ms :=
  { H with inb := h _ H.inb, inr := fun c hc => h c (H.inr c hc), inp := fun c hc => h c (H.inp c hc), inl := fun c hc => h c (H.inl c hc), inm := fun m hm => h _ (H.inm m hm), lt := hl }
theorem TD.on {w w' : World} {G S : Nat → Prop} {b : Nat} {x : Tx} {L : List Int} (H : TD w G b x L) (ho : OnS S w w') (hn : ∀ c, G c → ¬ S c) : TD w' G b x L := by
  obtain ⟨rv, pv, lv, ms, h⟩ := H
  exact ⟨rv, pv, lv, ms, h.on ho hn⟩
theorem TX.cells {w : World} {G : Nat → Prop} {b : Nat} {x : Tx} {L : List Int} {rv pv lv : Value} {ms : List Mp} (H : TX w G b x L rv pv lv ms) : w.cell? ⟨b, 0, none⟩ = some (.int .i64 x.start) ∧ w.cell? ⟨b, 1, none⟩ = some rv ∧ w.cell? ⟨b, 2, none⟩ = some pv ∧ w.cell? ⟨b, 3, none⟩ = some (.bool x.commits) ∧ w.cell? ⟨b, 4, none⟩ = some lv ∧ w.cell? ⟨b, 5, none⟩ = some (.int .i64 x.stamp) :=
  ⟨H.bk.cell 0 _ rfl, H.bk.cell 1 _ rfl, H.bk.cell 2 _ rfl, H.bk.cell 3 _ rfl, H.bk.cell 4 _ rfl, H.bk.cell 5 _ rfl⟩
/-- Where the parts' row turns, all else is as it was. -/
theorem TX.pv {w w' : World} {G : Nat → Prop} {b : Nat} {x : Tx} {L : List Int} {rv pv lv : Value} {ms : List Mp} (H : TX w G b x L rv pv lv ms) (ho : OnS (fun c => pv.ownBlock = some c) w w') : Bk w' b (txc x rv pv lv) 78 ∧ OwnF TI w' rv x.reads ∧ RowI w' lv L ∧ (∀ m, m ∈ ms → MapB w' m.1 m.2) ∧ ∀ c, lv.ownBlock = some c → ∃ cur, Bk w' c cur 3 := by
  have hl : ∀ c, lv.ownBlock = some c → ¬ pv.ownBlock = some c := fun c hc e => by
    obtain ⟨cur, h⟩ := H.lk c hc
    exact own_typ H.pt h (by decide) e rfl
  exact ⟨ho.bk H.bk (fun e => own_typ H.pt H.bk (by decide) e rfl), ownF_on H.rd ho (fun c hc e => own_diff H.rd H.pt (by decide) hc e), row_onS H.lf ho hl, fun m hm => (H.mp m hm).on ho fun e => by
    obtain ⟨⟨cur, hk⟩, _⟩ := own_blk H.pt e
    exact (H.mp m hm).ne hk rfl, fun c hc => by
    obtain ⟨cur, h⟩ := H.lk c hc
    exact ⟨cur, ho.bk h (hl c hc)⟩⟩
/-- Where the reads' row turns, all else is as it was. -/
theorem TX.rv {w w' : World} {G : Nat → Prop} {b : Nat} {x : Tx} {L : List Int} {rv pv lv : Value} {ms : List Mp} (H : TX w G b x L rv pv lv ms) (ho : OnS (fun c => rv.ownBlock = some c) w w') : Bk w' b (txc x rv pv lv) 78 ∧ OwnF TMp w' pv (ms.map (·.1)) ∧ RowI w' lv L ∧ (∀ m, m ∈ ms → MapB w' m.1 m.2) ∧ ∀ c, lv.ownBlock = some c → ∃ cur, Bk w' c cur 3 := by
  have hl : ∀ c, lv.ownBlock = some c → ¬ rv.ownBlock = some c := fun c hc e => H.ne c e hc
  exact ⟨ho.bk H.bk (fun e => own_typ H.rd H.bk (by decide) e rfl), ownF_on H.pt ho (fun c hc e => own_diff H.pt H.rd (by decide) hc e), row_onS H.lf ho hl, fun m hm => (H.mp m hm).on ho fun e => by
    obtain ⟨⟨cur, hk⟩, _⟩ := own_blk H.rd e
    exact (H.mp m hm).ne hk rfl, fun c hc => by
    obtain ⟨cur, h⟩ := H.lk c hc
    exact ⟨cur, ho.bk h (hl c hc)⟩⟩
/-- Where a map turns, all but it is as it was. -/
theorem TX.map {w w' : World} {G : Nat → Prop} {b : Nat} {x : Tx} {L : List Int} {rv pv lv : Value} {ms : List Mp} (H : TX w G b x L rv pv lv ms) {q : Nat} {ks : List (Int × Int)} (hq : MapB w q ks) (ho : OnS (fun c => c = q) w w') : Bk w' b (txc x rv pv lv) 78 ∧ OwnF TI w' rv x.reads ∧ OwnF TMp w' pv (ms.map (·.1)) ∧ RowI w' lv L ∧ (∀ m, m ∈ ms → m.1 ≠ q → MapB w' m.1 m.2) ∧ ∀ c, lv.ownBlock = some c → ∃ cur, Bk w' c cur 3 := by
  have hr : ∀ {α : Type} {R : Ty Try.prog α} {v : Value} {L : List α}, OwnF R w v L → ∀ c, v.ownBlock = some c → ¬ c = q := fun {α R v L} h c hc e => by
    obtain ⟨⟨cur, hk⟩, _⟩ := own_blk h hc
    exact hq.ne hk e.symm
  have hl : ∀ c, lv.ownBlock = some c → ¬ c = q := fun c hc e => by
    obtain ⟨cur, h⟩ := H.lk c hc
    exact hq.ne h e.symm
  exact ⟨ho.bk H.bk (fun e => hq.ne H.bk e.symm), ownF_on H.rd ho (hr H.rd), ownF_on H.pt ho (hr H.pt), row_onS H.lf ho hl, fun m hm hne => (H.mp m hm).on ho hne, fun c hc => by
    obtain ⟨cur, h⟩ := H.lk c hc
    exact ⟨cur, ho.bk h (hl c hc)⟩⟩
/-- A cell of the transaction itself is written: its rows are as they were. -/
theorem TX.wr {w : World} {G : Nat → Prop} {b : Nat} {x : Tx} {L : List Int} {rv pv lv : Value} {ms : List Mp} (H : TX w G b x L rv pv lv ms) (j : Nat) (u : Value) : Bk (w.setCell ⟨b, j, none⟩ u) b ((txc x rv pv lv).set! j u) 78 ∧ OwnF TI (w.setCell ⟨b, j, none⟩ u) rv x.reads ∧ OwnF TMp (w.setCell ⟨b, j, none⟩ u) pv (ms.map (·.1)) ∧ RowI (w.setCell ⟨b, j, none⟩ u) lv L ∧ (∀ m, m ∈ ms → MapB (w.setCell ⟨b, j, none⟩ u) m.1 m.2) ∧ ∀ c, lv.ownBlock = some c → ∃ cur, Bk (w.setCell ⟨b, j, none⟩ u) c cur 3 := by
  have hl : ∀ c, lv.ownBlock = some c → ¬ c = b := fun c hc e => by
    obtain ⟨cur, h⟩ := H.lk c hc
    exact absurd (bk_typ (e ▸ h) H.bk) (by decide)
  exact ⟨H.bk.set j u, ownF_wr H.rd H.bk (by decide) j u, ownF_wr H.pt H.bk (by decide) j u, row_onS H.lf (OnS.cell b j u) hl, fun m hm => (H.mp m hm).on (OnS.cell b j u) ((H.mp m hm).ne H.bk), fun c hc => by
    obtain ⟨cur, h⟩ := H.lk c hc
    exact ⟨cur, h.other (hl c hc) j u⟩⟩
/-- A transaction's block, its rows and its maps. -/
structure TC (w : World) (b : Nat) (c : Array Value) (rs L : List Int) (rv pv lv : Value) (ms : List Mp) : Prop where
  bk : Bk w b c 78
  rd : OwnF TI w rv rs
  pt : OwnF TMp w pv (ms.map (·.1))
  lf : RowI w lv L
  mp : ∀ m, m ∈ ms → MapB w m.1 m.2
  lk : ∀ c, lv.ownBlock = some c → ∃ cur, Bk w c cur 3
theorem TC.wr {w : World} {b : Nat} {c : Array Value} {rs L : List Int} {rv pv lv : Value} {ms : List Mp} (H : TC w b c rs L rv pv lv ms) (j : Nat) (u : Value) : TC (w.setCell ⟨b, j, none⟩ u) b (c.set! j u) rs L rv pv lv ms := by
  have hl : ∀ c, lv.ownBlock = some c → ¬ c = b := fun c hc e => by
    obtain ⟨cur, h⟩ := H.lk c hc
    exact absurd (bk_typ (e ▸ h) H.bk) (by decide)
  exact ⟨H.bk.set j u, ownF_wr H.rd H.bk (by decide) j u, ownF_wr H.pt H.bk (by decide) j u, row_onS H.lf (OnS.cell b j u) hl, fun m hm => (H.mp m hm).on (OnS.cell b j u) ((H.mp m hm).ne H.bk), fun c hc => by
    obtain ⟨cur, h⟩ := H.lk c hc
    exact ⟨cur, h.other (hl c hc) j u⟩⟩
theorem TX.tc {w : World} {G : Nat → Prop} {b : Nat} {x : Tx} {L : List Int} {rv pv lv : Value} {ms : List Mp} (H : TX w G b x L rv pv lv ms) : TC w b (txc x rv pv lv) x.reads L rv pv lv ms := ⟨H.bk, H.rd, H.pt, H.lf, H.mp, H.lk⟩
/-- A transaction out of its parts. -/
theorem TC.tx {w : World} {b : Nat} {L : List Int} {rv pv lv : Value} {ms : List Mp} {x : Tx} (H : TC w b (txc x rv pv lv) x.reads L rv pv lv ms) {G : Nat → Prop} (np : (ms.length : Int) = x.parts) (isp : ∀ (k : Nat) (m : Mp), ms[k]? = some m → IsP m.2 x.puts ((k : Int) + 1)) (nd : (ms.map (·.1)).Nodup) (ne : ∀ c, rv.ownBlock = some c → lv.ownBlock ≠ some c)
    (inb : G b) (inr : ∀ c, rv.ownBlock = some c → G c) (inp : ∀ c, pv.ownBlock = some c → G c) (inl : ∀ c, lv.ownBlock = some c → G c) (inm : ∀ m, m ∈ ms → G m.1) (lt : ∀ c, G c → c < w.heap.size) : TX w G b x L rv pv lv ms := ⟨H.bk, H.rd, H.pt, H.lf, H.mp, np, isp, nd, ne, H.lk, inb, inr, inp, inl, inm, lt⟩
/-- Which vars are still to be locked, or to be written. -/
def lftR (V : List Vr) (i : Int) (x : Tx) : List Int :=
  if 0 < x.stamp then ((sortR x.puts 1).map (·.n)).drop x.done.toNat
  else if x.commits then ((sortR x.puts 1).filter fun p => match V[p.n.toNat]? with | some v => !decide (v.lock = i) | none => false).map (·.n) else []
def ecells (c : Int) (vv : Value) (tv : Nat → Option Nat) : Array Value := #[.int .i64 c, vv, ptr (tv 0), ptr (tv 1), ptr (tv 2), ptr (tv 3), ptr (tv 4), ptr (tv 5), ptr (tv 6), ptr (tv 7)]
def upd (tv : Nat → Option Nat) (i : Nat) (o : Option Nat) : Nat → Option Nat := fun j => if j = i then o else tv j
theorem lt8 {i : Nat} (h : i < 8) : i = 0 ∨ i = 1 ∨ i = 2 ∨ i = 3 ∨ i = 4 ∨ i = 5 ∨ i = 6 ∨ i = 7 := by omega
theorem ecells_at (c : Int) (vv : Value) (tv : Nat → Option Nat) {i : Nat} (h : i < 8) : (ecells c vv tv)[2 + i]? = some (ptr (tv i)) := by
  rcases lt8 h with rfl | rfl | rfl | rfl | rfl | rfl | rfl | rfl <;> rfl
theorem ecells_set (c : Int) (vv : Value) (tv : Nat → Option Nat) {i : Nat} (h : i < 8) (o : Option Nat) : (ecells c vv tv).set! (2 + i) (ptr o) = ecells c vv (upd tv i o) := by
  rcases lt8 h with rfl | rfl | rfl | rfl | rfl | rfl | rfl | rfl <;> rfl
/-- The program's engine: its block p, of the blocks F; where its vars lie, and each thread's transaction, of its own blocks. -/
structure EI (w : World) (F : Nat → Prop) (p : Nat) (E : Eg) (vv : Value) (tv : Nat → Option Nat) (G : Nat → Nat → Prop) : Prop where
  bk : Bk w p (ecells E.clock vv tv) 83
  vs : OwnF TVp w vv E.V
  th0 : ∀ (i : Nat) (x : Tx), E.T[i]? = some x → x.is = false → tv i = none ∧ x = tx0
  th1 : ∀ (i : Nat) (x : Tx), E.T[i]? = some x → x.is = true → ∃ b, tv i = some b ∧ TD w (G i) b x (lftR E.V (i : Int) x)
  ap : ∀ i j c, i ≠ j → G i c → ¬ G j c
  gf : ∀ i c, G i c → F c
  gp : ∀ i c, G i c → c ≠ p ∧ vv.ownBlock ≠ some c
  own : F p
  inv : ∀ c, vv.ownBlock = some c → F c
  lt : ∀ c, F c → c < w.heap.size
theorem EI.on {w w' : World} {F S : Nat → Prop} {p : Nat} {E : Eg} {vv : Value} {tv : Nat → Option Nat} {G : Nat → Nat → Prop} (H : EI w F p E vv tv G) (ho : OnS S w w') (hn : ∀ c, F c → ¬ S c) : EI w' F p E vv tv G :=
  ⟨ho.bk H.bk (hn p H.own), ownF_on H.vs ho (fun c hc => hn c (H.inv c hc)), H.th0, fun i x hx hi => by
    obtain ⟨b, h1, h2⟩ := H.th1 i x hx hi
    exact ⟨b, h1, h2.on ho (fun c hc => hn c (H.gf i c hc))⟩, H.ap, H.gf, H.gp, H.own, H.inv, fun c hc => Nat.lt_of_lt_of_le (H.lt c hc) ho.size⟩
theorem EI.keep {w w' : World} {F : Nat → Prop} {p : Nat} {E : Eg} {vv : Value} {tv : Nat → Option Nat} {G : Nat → Nat → Prop} (H : EI w F p E vv tv G) (h : Below w.heap.size w w') : EI w' F p E vv tv G := H.on (OnS.none h) (fun _ _ h => h)
theorem EI.vne {w : World} {F : Nat → Prop} {p : Nat} {E : Eg} {vv : Value} {tv : Nat → Option Nat} {G : Nat → Nat → Prop} (H : EI w F p E vv tv G) : vv.ownBlock ≠ some p := fun e => own_typ H.vs H.bk (by decide) e rfl
/-- A var's cells. -/
theorem EI.vr {w : World} {F : Nat → Prop} {p : Nat} {E : Eg} {vv : Value} {tv : Nat → Option Nat} {G : Nat → Nat → Prop} (H : EI w F p E vv tv G) {i : Nat} {v : Vr} (hv : E.V[i]? = some v) : ∃ g cap cur, vv = .slice (some ⟨g, 0, none⟩) E.V.length cap ∧ Bk w g cur 86 ∧ g < w.heap.size ∧ (∀ i, w.frozen? ⟨g, i, none⟩ = false) ∧ F g ∧
    w.cell? ⟨g, i * 3, none⟩ = some (.int .i64 v.val) ∧ w.cell? ⟨g, i * 3 + 1, none⟩ = some (.int .i64 v.ver) ∧ w.cell? ⟨g, i * 3 + 2, none⟩ = some (.int .i64 v.lock) := by
  have h0 : E.V ≠ [] := by intro e; rw [e] at hv; simp at hv
  obtain ⟨g, cap, cur, hv1, hk, hg, hf⟩ := own_block H.vs h0
  obtain ⟨b, off, cap', hv', _, _, hc⟩ := H.vs.row.open_ h0
  rw [hv1] at hv'
  injection hv' with e1 e2
  injection e1 with e1
  injection e1 with e1 e3
  subst e1
  subst e3
  obtain ⟨q, hL, _⟩ := hc i v hv
  rw [Nat.zero_add] at hL
  exact ⟨g, cap, cur, hv1, hk, hg, hf, H.inv g (by rw [hv1]; rfl), hL 0 _ rfl, hL 1 _ rfl, hL 2 _ rfl⟩
theorem EI.tc {w : World} {F : Nat → Prop} {p : Nat} {E : Eg} {vv : Value} {tv : Nat → Option Nat} {G : Nat → Nat → Prop} (H : EI w F p E vv tv G) {i : Nat} (h : i < 8) : w.cell? ⟨p, 2 + i, none⟩ = some (ptr (tv i)) := H.bk.cell _ _ (ecells_at _ _ _ h)
/-- A thread's transaction. -/
def ofV (tv : Nat → Option Nat) (t : Int) : Option Nat := if 0 ≤ t ∧ t < 8 then tv t.toNat else none
theorem ofV_nat (tv : Nat → Option Nat) {i : Nat} (h : i < 8) : ofV tv (i : Int) = tv i := by unfold ofV; rw [if_pos (by omega), Int.toNat_natCast]
theorem ofV_none (tv : Nat → Option Nat) {t : Int} (h : t < 0 ∨ (0 ≤ t ∧ 8 ≤ t)) : ofV tv t = none := by unfold ofV; rw [if_neg (by omega)]
theorem isThread_c (w : World) (t : Int) : Calls Try.prog 59 #[.int .i64 t] w fun e w' => e = .returned (.bool (decide (0 ≤ t ∧ t < 8))) ∧ w' = w := by
  by_cases h1 : 0 ≤ t
  · by_cases h2 : t < 8
    · rw [decide_eq_true ⟨h1, h2⟩]
      go_enter Try.func59, Try.ntmps59
      go_wp2_with fail
      go_ret
      exact ⟨rfl, rfl⟩
    · rw [decide_eq_false (fun h => h2 h.2)]
      go_enter Try.func59, Try.ntmps59
      go_wp2_with fail
      go_ret
      exact ⟨rfl, rfl⟩
  · rw [decide_eq_false (fun h => h1 h.1)]
    go_enter Try.func59, Try.ntmps59
    go_wp2_with fail
    go_ret
    exact ⟨rfl, rfl⟩
theorem of_c (w : World) (F : Nat → Prop) (p : Nat) (E : Eg) (vv : Value) (tv : Nat → Option Nat) (G : Nat → Nat → Prop) (H : EI w F p E vv tv G) (t : Int) :
    Calls Try.prog 53 #[.pointer (some ⟨p, 0, none⟩), .int .i64 t] w fun e w' => e = .returned (ptr (ofV tv t)) ∧ w' = w := by
  have HT := Lib.hid (isThread_c w t)
  by_cases h : 0 ≤ t ∧ t < 8
  · obtain ⟨i, rfl⟩ : ∃ i : Nat, t = (i : Int) := ⟨t.toNat, by omega⟩
    have hi : i < 8 := by omega
    rw [ofV_nat tv hi]
    have y := H.tc hi
    obtain ⟨o, ho⟩ : ∃ o, ptr (tv i) = .pointer o := ⟨_, rfl⟩
    rw [ho] at y ⊢
    rw [decide_eq_true h] at HT
    have i0 : (0 : Int) ≤ (i : Int) := by omega
    have i1 : (i : Int) < 8 := by omega
    clear H h hi ho
    go_enter Try.func53, Try.ntmps53
    go_wp2_with (go_at_call 59; refine HT.out.mono ?_; rintro e w1 ⟨rfl, rfl⟩)
    go_ret
    exact ⟨rfl, rfl⟩
  · rw [show ofV tv t = none from if_neg h]
    rw [decide_eq_false h] at HT
    clear H h
    go_enter Try.func53, Try.ntmps53
    go_wp2_with (go_at_call 59; refine HT.out.mono ?_; rintro e w1 ⟨rfl, rfl⟩)
    go_ret
    exact ⟨rfl, rfl⟩
theorem isVar_c (w : World) (F : Nat → Prop) (p : Nat) (E : Eg) (vv : Value) (tv : Nat → Option Nat) (G : Nat → Nat → Prop) (H : EI w F p E vv tv G) (n : Int) :
    Calls Try.prog 52 #[.pointer (some ⟨p, 0, none⟩), .int .i64 n] w fun e w' => e = .returned (.bool (vrR E n).isSome) ∧ w' = w := by
  obtain ⟨va, vc, rfl, _⟩ := H.vs.val
  obtain ⟨N, hN⟩ : ∃ N, Hid (E.V.length = N) := ⟨_, Lib.hid rfl⟩
  have y0 : w.cell? ⟨p, 1, none⟩ = some (.slice va E.V.length vc) := H.bk.cell 1 _ rfl
  rw [hN.out] at y0
  rcases vrR_cases E n with ⟨hn, h1 | ⟨h1, h2⟩⟩ | ⟨i, x, rfl, hi, hx, hth⟩
  · rw [hn]
    clear H hn hN
    go_enter Try.func52, Try.ntmps52
    go_wp2_with fail
    go_ret
    exact ⟨rfl, rfl⟩
  · rw [hn]
    rw [hN.out] at h2
    have h3 : ¬ n < (N : Int) := by omega
    clear H hn hN h2
    go_enter Try.func52, Try.ntmps52
    go_wp2_with fail
    go_ret
    exact ⟨rfl, rfl⟩
  · rw [hth]
    rw [hN.out] at hi
    have i0 : (0 : Int) ≤ (i : Int) := by omega
    have i1 : (i : Int) < (N : Int) := by omega
    clear H hth hx hi hN
    go_enter Try.func52, Try.ntmps52
    go_wp2_with fail
    go_ret
    exact ⟨rfl, rfl⟩
end Go.Proofs.Ytjoifodjbdbicaa.PC
