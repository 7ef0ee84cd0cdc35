/- A column's heads; rows behind a head; that usefulness is that of some head: plainly. -/
import Derived.Test.YtommaomhiaaphaaCA
namespace Go.Proofs.Ytommaomhiaaphaa.CB
open Go.Proofs.Ytommaomhiaaphaa.CA
set_option linter.unusedVariables false
set_option maxRecDepth 100000

def col (r : List Nd) (at_ : Nat) : Nd := r.getD at_ anyNd
def meets (p h : Nd) : Bool := anyB p || (p.k == h.k && p.s == h.s && p.n == h.n)
def parts (p h : Nd) : List Nd := if anyB p then List.replicate h.kids.length anyNd else p.kids
def rbehind (r : List Nd) (at_ : Nat) (h : Nd) : List Nd := (r.take at_ ++ parts (col r at_) h) ++ r.drop (at_ + 1)
def lbehind (rows : List (List Nd)) (at_ : Nat) (h : Nd) : List (List Nd) := (rows.filter fun a => meets (col a at_) h).map fun a => rbehind a at_ h
def newHead (hs : List Nd) (p : Nd) : Bool := !anyB p && !hs.any (fun x => meets x p)
def addHead (at_ : Nat) (hs : List Nd) (a : List Nd) : List Nd := if newHead hs (col a at_) then hs ++ [col a at_] else hs
def headsOf (ahead : List (List Nd)) (at_ : Nat) : List Nd := ahead.foldl (addHead at_) []
def conOf (C : List Cn) (s : By) : Option Cn := C.find? fun c => c.nm == s
def manyOf (C : List Cn) (s : By) : Nat := match conOf C s with | some c => c.many | none => 0
def whole (C : List Cn) (hs : List Nd) : Bool := match hs with | [] => false | h :: _ => h.k == 5 && manyOf C h.s == hs.length
def heads (C : List Cn) (r : List Nd) (ahead : List (List Nd)) (at_ : Nat) : List Nd :=
  if anyB (col r at_) then (if whole C (headsOf ahead at_) then headsOf ahead at_ else [anyNd]) else [col r at_]
def kidsT (t : Ty) (h : Nd) : List Ty := match t with
  | .con of ch => if h.k = 5 then (List.range h.kids.length).map (ch h.s) else []
  | _ => []
def tcol (G : List Ty) (at_ : Nat) : Ty := G.getD at_ .any
def tbehind (G : List Ty) (at_ : Nat) (h : Nd) : List Ty := (G.take at_ ++ kidsT (tcol G at_) h) ++ G.drop (at_ + 1)

structure Sound (C : List Cn) : Prop where
  names : (C.map Cn.nm).Nodup
  many : ∀ c, c ∈ C → c.many = (C.filter fun d => d.of == c.of).length
  ar : ∀ c, c ∈ C → c.ar ≤ 4

theorem nodup_map_inj {α β : Type} (f : α → β) : ∀ {l : List α}, (l.map f).Nodup → ∀ {a b : α}, a ∈ l → b ∈ l → f a = f b → a = b
  | [], _, _, _, h, _, _ => by cases h
  | x :: l, hn, a, b, ha, hb, e => by
    simp only [List.map_cons, List.nodup_cons] at hn
    rcases List.mem_cons.1 ha with h1 | ha
    · rcases List.mem_cons.1 hb with h2 | hb
      · rw [h1, h2]
      · exact absurd (List.mem_map.2 ⟨b, hb, by rw [← e, h1]⟩) hn.1
    · rcases List.mem_cons.1 hb with h2 | hb
      · exact absurd (List.mem_map.2 ⟨a, ha, by rw [e, h2]⟩) hn.1
      · exact nodup_map_inj f hn.2 ha hb e
theorem Sound.eq {C : List Cn} (h : Sound C) {c d : Cn} (hc : c ∈ C) (hd : d ∈ C) (e : c.nm = d.nm) : c = d := nodup_map_inj Cn.nm h.names hc hd e
theorem Sound.conOf {C : List Cn} (h : Sound C) {c : Cn} (hc : c ∈ C) : conOf C c.nm = some c := by
  unfold CB.conOf
  cases hf : C.find? fun d => d.nm == c.nm with
  | none => exact absurd (List.find?_eq_none.1 hf c hc) (by simp)
  | some d =>
    have hd := List.mem_of_find?_eq_some hf
    have he : d.nm = c.nm := by simpa using List.find?_some hf
    rw [h.eq hd hc he]

theorem split_at {α : Type} (l : List α) (i : Nat) (d : α) (h : i < l.length) : l = l.take i ++ l.getD i d :: l.drop (i + 1) := by
  rw [List.getD_eq_getElem?_getD, List.getElem?_eq_getElem h, Option.getD_some, ← List.drop_eq_getElem_cons h, List.take_append_drop]
theorem nodup_sub {α : Type} [DecidableEq α] : ∀ (L M : List α), L.Nodup → (∀ x ∈ L, x ∈ M) → L.length ≤ M.length ∧ (M.length ≤ L.length → ∀ x ∈ M, x ∈ L)
  | [], M, _, _ => ⟨Nat.zero_le _, fun h x hx => by
      cases M with
      | nil => cases hx
      | cons y M => simp at h⟩
  | y :: L, M, hn, hs => by
    rw [List.nodup_cons] at hn
    have hy : y ∈ M := hs y List.mem_cons_self
    have hle := List.length_erase_of_mem hy
    have hpos : 0 < M.length := List.length_pos_of_mem hy
    obtain ⟨h1, h2⟩ := nodup_sub L (M.erase y) hn.2 fun z hz => (List.mem_erase_of_ne (fun e => hn.1 (by rw [← e]; exact hz))).2 (hs z (List.mem_cons_of_mem _ hz))
    refine ⟨by simp only [List.length_cons]; omega, fun h x hx => ?_⟩
    by_cases e : x = y
    · rw [e]; exact List.mem_cons_self
    · exact List.mem_cons_of_mem _ (h2 (by simp only [List.length_cons] at h; omega) x ((List.mem_erase_of_ne e).2 hx))

/-- What a value is behind a head. -/
def HV (h : Nd) (x : Vl) (ps : List Vl) : Prop := (h.k = 5 ∧ x = .con h.s ps ∧ ps.length = h.kids.length) ∨ (h.k = 1 ∧ h.kids = [] ∧ x = .num h.n ∧ ps = [])
theorem Conf.cases {C : List Cn} {t : Ty} {p : Nd} (h : Conf C t p) (ha : anyB p = false) :
    (t = .int ∧ p.k = 1 ∧ p.s = [] ∧ p.kids = []) ∨ (∃ of ch c, t = .con of ch ∧ p.k = 5 ∧ p.n = 0 ∧ c ∈ C ∧ c.nm = p.s ∧ c.of = of ∧ p.kids.length = c.ar ∧ ∀ (i : Nat) q, p.kids[i]? = some q → Conf C (ch c.nm i) q) := by
  cases t with
  | any => rw [h.1] at ha; cases ha
  | int =>
    rcases h with h | h
    · rw [h.1] at ha; cases ha
    · exact .inl ⟨rfl, h⟩
  | con of ch =>
    rcases h with h | ⟨h5, h0, c, hc, hn, ho, hl, hk⟩
    · rw [h.1] at ha; cases ha
    · exact .inr ⟨of, ch, c, rfl, h5, h0, hc, hn, ho, hl, hk⟩
theorem means_head {C : List Cn} {t : Ty} {p h : Nd} {x : Vl} {ps : List Vl} (hp : Conf C t p) (hh : Conf C t h) (ha : anyB h = false) (hv : HV h x ps) :
    (meets p h = true → meansL (parts p h) ps = means p x) ∧ (meets p h = false → means p x = false) := by
  by_cases hany : anyB p = true
  · have hpl : ps.length = h.kids.length := by
      rcases hv with ⟨_, _, hl⟩ | ⟨_, hk, _, rfl⟩
      · exact hl
      · rw [hk]; rfl
    refine ⟨fun _ => ?_, fun hm => by simp [meets, hany] at hm⟩
    rw [means_any hany, parts, if_pos hany]
    refine meansL_all _ _ (fun q hq => ?_) (by simpa using hpl)
    rw [List.eq_of_mem_replicate hq]; rfl
  · have hany : anyB p = false := by simpa using hany
    rcases Conf.cases hp hany with ⟨rfl, k1, s0, l0⟩ | ⟨of, ch, c, rfl, k5, n0, hc, hn, ho, hl, hk⟩
    · rcases Conf.cases hh ha with ⟨_, k1', s0', l0'⟩ | ⟨_, _, _, e, _⟩
      · rcases hv with ⟨k5, _⟩ | ⟨_, _, rfl, rfl⟩
        · rw [k1'] at k5; cases k5
        · rw [means_num hany]
          simp only [meets, hany, k1, k1', s0, s0', parts, l0, Bool.false_or, beq_self_eq_true, Bool.true_and, Bool.false_eq_true, if_false, meansL]
          exact ⟨fun e => by rw [eq_of_beq e]; simp, fun e => by rw [Bool.eq_false_iff] at e ⊢; exact fun h => e (by rw [eq_of_beq h]; simp)⟩
      · cases e
    · rcases Conf.cases hh ha with ⟨e, _⟩ | ⟨of', ch', c', e, k5', n0', _⟩
      · cases e
      · rcases hv with ⟨_, rfl, _⟩ | ⟨k1, _⟩
        · rw [means_con hany]
          simp only [meets, hany, k5, k5', n0, n0', parts, Bool.false_or, beq_self_eq_true, Bool.true_and, Bool.and_true, Bool.false_eq_true, if_false]
          exact ⟨fun e => by rw [eq_of_beq e]; simp, fun e => by
            have : (h.s == p.s) = false := by rw [Bool.eq_false_iff] at e ⊢; exact fun h => e (by rw [eq_of_beq h]; simp)
            rw [this]; rfl⟩
        · rw [k5'] at k1; cases k1

theorem ConfL.split {C : List Cn} {G : List Ty} {r : List Nd} (h : ConfL C G r) {i : Nat} (hi : i < r.length) : ConfL C (G.take i) (r.take i) ∧ Conf C (tcol G i) (col r i) ∧ ConfL C (G.drop (i + 1)) (r.drop (i + 1)) := by
  have hl := h.len
  have e1 := split_at r i anyNd hi
  have e2 := split_at G i .any (by omega)
  rw [e1, e2] at h
  have := (ConfL_app _ _ _ _ (by simp; omega)).1 h
  exact ⟨this.1, this.2.1, this.2.2⟩
theorem meansL_split {r : List Nd} {i : Nat} (hi : i < r.length) {v1 : List Vl} (h1 : v1.length = i) (x : Vl) (v2 : List Vl) : meansL r (v1 ++ x :: v2) = (meansL (r.take i) v1 && (means (col r i) x && meansL (r.drop (i + 1)) v2)) := by
  conv => lhs; rw [split_at r i anyNd hi]
  rw [meansL_app _ _ _ _ (by simp; omega)]
  rfl
theorem meansL_rbehind {r : List Nd} {i : Nat} {h : Nd} (hi : i < r.length) {v1 ps : List Vl} (h1 : v1.length = i) (hp : ps.length = (parts (col r i) h).length) (v2 : List Vl) : meansL (rbehind r i h) ((v1 ++ ps) ++ v2) = (meansL (r.take i) v1 && (meansL (parts (col r i) h) ps && meansL (r.drop (i + 1)) v2)) := by
  unfold rbehind
  rw [meansL_app _ _ _ _ (by simp [hp]; omega), meansL_app _ _ _ _ (by simp; omega), Bool.and_assoc]
theorem parts_len {C : List Cn} {t : Ty} {p h : Nd} (S : Sound C) (hp : Conf C t p) (hh : Conf C t h) (ha : anyB h = false) (hm : meets p h = true) : (parts p h).length = h.kids.length := by
  by_cases hany : anyB p = true
  · rw [parts, if_pos hany]; simp
  · have hany : anyB p = false := by simpa using hany
    rw [parts, hany]
    rcases Conf.cases hp hany with ⟨rfl, k1, s0, l0⟩ | ⟨of, ch, c, rfl, k5, n0, hc, hn, ho, hl, hk⟩
    · rcases Conf.cases hh ha with ⟨_, k1', s0', l0'⟩ | ⟨_, _, _, e, _⟩
      · simp [l0, l0']
      · cases e
    · rcases Conf.cases hh ha with ⟨e, _⟩ | ⟨of', ch', c', e, k5', n0', hc', hn', ho', hl', hk'⟩
      · cases e
      · have es : p.s = h.s := by
          simp only [meets, hany, Bool.false_or, Bool.and_eq_true, beq_iff_eq] at hm
          exact hm.1.2
        have := S.eq hc hc' (by rw [hn, hn', es])
        show p.kids.length = _
        rw [hl, hl', this]
/-- A row behind a head means what the row means with that head's value put in. -/
theorem row_head {C : List Cn} {G : List Ty} {a : List Nd} {i : Nat} {h : Nd} {x : Vl} {ps : List Vl} (S : Sound C) (hc : ConfL C G a) (hi : i < a.length) (hh : Conf C (tcol G i) h) (ha : anyB h = false) (hv : HV h x ps) {v1 : List Vl} (h1 : v1.length = i) (v2 : List Vl) :
    (meets (col a i) h = true → meansL (rbehind a i h) ((v1 ++ ps) ++ v2) = meansL a (v1 ++ x :: v2)) ∧ (meets (col a i) h = false → meansL a (v1 ++ x :: v2) = false) := by
  obtain ⟨c1, c2, c3⟩ := ConfL.split hc hi
  obtain ⟨m1, m2⟩ := means_head c2 hh ha hv
  have hpl : ps.length = h.kids.length := by
    rcases hv with ⟨_, _, hl⟩ | ⟨_, hk, _, rfl⟩
    · exact hl
    · rw [hk]; rfl
  refine ⟨fun hm => ?_, fun hm => ?_⟩
  · rw [meansL_rbehind hi h1 (by rw [parts_len S c2 hh ha hm, hpl]), meansL_split hi h1, m1 hm]
  · rw [meansL_split hi h1, m2 hm]; simp
/-- Typed vectors, likewise. -/
theorem typed_head {C : List Cn} {G : List Ty} {i : Nat} {h : Nd} {x : Vl} {ps : List Vl} (S : Sound C) (hi : i < G.length) (hh : Conf C (tcol G i) h) (ha : anyB h = false) (hv : HV h x ps) {v1 : List Vl} (h1 : v1.length = i) (v2 : List Vl) :
    TypedL C G (v1 ++ x :: v2) ↔ TypedL C (tbehind G i h) ((v1 ++ ps) ++ v2) := by
  have key : Typed C (tcol G i) x ↔ TypedL C (kidsT (tcol G i) h) ps := by
    rcases Conf.cases hh ha with ⟨e, k1', s0', l0'⟩ | ⟨of', ch', c', e, k5', n0', hc', hn', ho', hl', hk'⟩
    · rcases hv with ⟨k5, _⟩ | ⟨_, _, rfl, rfl⟩
      · rw [k1'] at k5; cases k5
      · rw [e]; exact ⟨fun _ => trivial, fun _ => ⟨_, rfl⟩⟩
    · rcases hv with ⟨_, rfl, hl⟩ | ⟨k1, _⟩
      · rw [e]
        simp only [kidsT, k5', if_true]
        constructor
        · rintro ⟨c, ps', hc, ho, hx, hlen, hall⟩
          obtain ⟨hs, hps⟩ := Vl.con.inj hx
          rw [← hps] at hall
          refine TypedL_of _ _ (by simp [hl]) fun j t v ht hv => ?_
          simp only [List.getElem?_map, Option.map_eq_some_iff] at ht
          obtain ⟨j', hj, rfl⟩ := ht
          rw [List.getElem?_range (by have := (List.getElem?_eq_some_iff.1 hj).1; simpa using this)] at hj
          have hj := Option.some.inj hj
          rw [← hj, hs]
          exact hall j v hv
        · intro ht
          refine ⟨c', ps, hc', ho', by rw [hn'], by rw [hl, hl'], fun j v hv => ?_⟩
          have hj : j < h.kids.length := by have := (List.getElem?_eq_some_iff.1 hv).1; omega
          have := TypedL_at ht j (ch' h.s j) v (by rw [List.getElem?_map, List.getElem?_range hj]; rfl) hv
          rw [hn']; exact this
      · rw [k5'] at k1; cases k1
  have hpl : TypedL C (kidsT (tcol G i) h) ps → ps.length = (kidsT (tcol G i) h).length := fun h => h.len
  have hkl : ps.length = (kidsT (tcol G i) h).length := by
    rcases Conf.cases hh ha with ⟨e, k1', s0', l0'⟩ | ⟨of', ch', c', e, k5', n0', hc', hn', ho', hl', hk'⟩
    · rcases hv with ⟨k5, _⟩ | ⟨_, _, rfl, rfl⟩
      · rw [k1'] at k5; cases k5
      · rw [e]; rfl
    · rcases hv with ⟨_, rfl, hl⟩ | ⟨k1, _⟩
      · rw [e]; simp [kidsT, k5', hl]
      · rw [k5'] at k1; cases k1
  unfold tbehind
  conv => lhs; rw [split_at G i .any hi]
  rw [TypedL_app _ _ _ _ (by simp; omega), TypedL_app _ _ _ _ (by simp [hkl]; omega), TypedL_app _ _ _ _ (by simp; omega)]
  show _ ∧ (Typed C (tcol G i) x ∧ _) ↔ _
  rw [key]
  exact ⟨fun h => ⟨⟨h.1, h.2.1⟩, h.2.2⟩, fun h => ⟨h.1.1, h.1.2, h.2⟩⟩

theorem mem_lbehind {rows : List (List Nd)} {i : Nat} {h : Nd} {b : List Nd} : b ∈ lbehind rows i h ↔ ∃ a, a ∈ rows ∧ meets (col a i) h = true ∧ b = rbehind a i h := by
  unfold lbehind
  simp only [List.mem_map, List.mem_filter]
  exact ⟨fun ⟨a, ⟨h1, h2⟩, h3⟩ => ⟨a, h1, h2, h3.symm⟩, fun ⟨a, h1, h2, h3⟩ => ⟨a, ⟨h1, h2⟩, h3.symm⟩⟩
/-- A vector of values, cut at a head's parts. -/
theorem typed_cut {C : List Cn} {G : List Ty} {i : Nat} {h : Nd} {vs : List Vl} (hi : i < G.length) (ht : TypedL C (tbehind G i h) vs) : ∃ v1 ps v2, vs = (v1 ++ ps) ++ v2 ∧ v1.length = i ∧ ps.length = (kidsT (tcol G i) h).length := by
  have hl := ht.len
  unfold tbehind at hl
  simp only [List.length_append, List.length_take, List.length_drop] at hl
  refine ⟨vs.take i, (vs.drop i).take (kidsT (tcol G i) h).length, vs.drop (i + (kidsT (tcol G i) h).length), ?_, by simp; omega, by simp; omega⟩
  rw [List.append_assoc, ← List.drop_drop, List.take_append_drop, List.take_append_drop]
theorem useful_of_head {C : List Cn} {G : List Ty} {r : List Nd} {ahead : List (List Nd)} {i : Nat} {h : Nd} (S : Sound C) (M : Mx C G r ahead) (hi : i < r.length) (hh : Conf C (tcol G i) h) (ha : anyB h = false) (hr : meets (col r i) h = true)
    (hu : Useful C (tbehind G i h) (rbehind r i h) (lbehind ahead i h)) : Useful C G r ahead := by
  have hG : i < G.length := by rw [← M.1.len]; exact hi
  obtain ⟨vs, ht, hm, hn⟩ := hu
  obtain ⟨v1, ps, v2, rfl, h1, h2⟩ := typed_cut hG ht
  obtain ⟨x, hv⟩ : ∃ x, HV h x ps := by
    rcases Conf.cases hh ha with ⟨e, k1', s0', l0'⟩ | ⟨of', ch', c', e, k5', n0', hc', hn', ho', hl', hk'⟩
    · rw [e] at h2
      exact ⟨.num h.n, .inr ⟨k1', l0', rfl, List.eq_nil_of_length_eq_zero h2⟩⟩
    · rw [e] at h2
      exact ⟨.con h.s ps, .inl ⟨k5', rfl, by simpa [kidsT, k5'] using h2⟩⟩
  refine ⟨v1 ++ x :: v2, (typed_head S hG hh ha hv h1 v2).2 ht, ?_, fun a hmem => ?_⟩
  · rw [← (row_head S M.1 hi hh ha hv h1 v2).1 hr]; exact hm
  · have hia : i < a.length := by rw [(M.2.1 a hmem).len]; exact hG
    have R := row_head S (M.2.1 a hmem) hia hh ha hv h1 v2
    cases hma : meets (col a i) h with
    | true => rw [← R.1 hma]; exact hn _ (mem_lbehind.2 ⟨a, hmem, hma, rfl⟩)
    | false => exact R.2 hma
theorem head_of_useful {C : List Cn} {G : List Ty} {r : List Nd} {ahead : List (List Nd)} {i : Nat} {h : Nd} (S : Sound C) (M : Mx C G r ahead) (hi : i < r.length) (hh : Conf C (tcol G i) h) (ha : anyB h = false) (hr : meets (col r i) h = true)
    {v1 v2 ps : List Vl} {x : Vl} (h1 : v1.length = i) (hv : HV h x ps) (ht : TypedL C G (v1 ++ x :: v2)) (hm : meansL r (v1 ++ x :: v2) = true) (hn : ∀ a, a ∈ ahead → meansL a (v1 ++ x :: v2) = false) :
    Useful C (tbehind G i h) (rbehind r i h) (lbehind ahead i h) := by
  have hG : i < G.length := by rw [← M.1.len]; exact hi
  refine ⟨(v1 ++ ps) ++ v2, (typed_head S hG hh ha hv h1 v2).1 ht, ?_, fun b hb => ?_⟩
  · rw [(row_head S M.1 hi hh ha hv h1 v2).1 hr]; exact hm
  · obtain ⟨a, hmem, hma, rfl⟩ := mem_lbehind.1 hb
    have hia : i < a.length := by rw [(M.2.1 a hmem).len]; exact hG
    rw [(row_head S (M.2.1 a hmem) hia hh ha hv h1 v2).1 hma]; exact hn a hmem
theorem vec_cut {vs : List Vl} {i : Nat} (h : i < vs.length) : ∃ v1 x v2, vs = v1 ++ x :: v2 ∧ v1.length = i :=
  ⟨vs.take i, vs[i], vs.drop (i + 1), by rw [← List.drop_eq_getElem_cons h, List.take_append_drop], by simp; omega⟩

/-! ## A column's heads -/
structure HS (C : List Cn) (t : Ty) (i : Nat) (ahead : List (List Nd)) (hs : List Nd) : Prop where
  from_ : ∀ h, h ∈ hs → anyB h = false ∧ ∃ a, a ∈ ahead ∧ h = col a i
  all : ∀ a, a ∈ ahead → anyB (col a i) = false → ∃ h, h ∈ hs ∧ meets h (col a i) = true
  apart : (hs.map fun h => (h.s, h.n)).Nodup
theorem heads_step {C : List Cn} {t : Ty} {i : Nat} : ∀ (ahead done : List (List Nd)) (hs : List Nd), (∀ a, a ∈ done ++ ahead → Conf C t (col a i)) → HS C t i done hs → HS C t i (done ++ ahead) (ahead.foldl (addHead i) hs)
  | [], done, hs, _, h => by simpa using h
  | a :: ahead, done, hs, hc, h => by
    have key : HS C t i (done ++ [a]) (addHead i hs a) := by
      unfold addHead newHead
      cases hany : anyB (col a i) with
      | true =>
        simp only [Bool.not_true, Bool.false_and, Bool.false_eq_true, if_false]
        refine ⟨fun x hx => ⟨(h.from_ x hx).1, ?_⟩, fun b hb hnb => ?_, h.apart⟩
        · obtain ⟨b, hb, e⟩ := (h.from_ x hx).2
          exact ⟨b, List.mem_append_left _ hb, e⟩
        · rcases List.mem_append.1 hb with hb | hb
          · exact h.all b hb hnb
          · rw [List.mem_singleton.1 hb, hany] at hnb; cases hnb
      | false =>
        cases hmet : hs.any (fun x => meets x (col a i)) with
        | true =>
          simp only [Bool.not_true, Bool.and_false, Bool.false_eq_true, if_false]
          refine ⟨fun x hx => ⟨(h.from_ x hx).1, ?_⟩, fun b hb hnb => ?_, h.apart⟩
          · obtain ⟨b, hb, e⟩ := (h.from_ x hx).2
            exact ⟨b, List.mem_append_left _ hb, e⟩
          · rcases List.mem_append.1 hb with hb | hb
            · exact h.all b hb hnb
            · rw [List.mem_singleton.1 hb]
              obtain ⟨x, hx, hm⟩ := List.any_eq_true.1 hmet
              exact ⟨x, hx, hm⟩
        | false =>
          simp only [Bool.not_false, Bool.and_self, if_true]
          refine ⟨fun x hx => ?_, fun b hb hnb => ?_, ?_⟩
          · rcases List.mem_append.1 hx with hx | hx
            · obtain ⟨b, hb, e⟩ := (h.from_ x hx).2
              exact ⟨(h.from_ x hx).1, b, List.mem_append_left _ hb, e⟩
            · rw [List.mem_singleton.1 hx]
              exact ⟨hany, a, by simp, rfl⟩
          · rcases List.mem_append.1 hb with hb | hb
            · obtain ⟨x, hx, hm⟩ := h.all b hb hnb
              exact ⟨x, List.mem_append_left _ hx, hm⟩
            · rw [List.mem_singleton.1 hb]
              exact ⟨col a i, by simp, by simp [meets]⟩
          · rw [List.map_append, List.nodup_append]
            refine ⟨h.apart, by simp, fun x hx y hy => ?_⟩
            obtain ⟨z, hz, rfl⟩ := List.mem_map.1 hx
            simp only [List.map_cons, List.map_nil, List.mem_singleton] at hy
            subst hy
            intro e
            have e1 := congrArg Prod.fst e
            have e2 := congrArg Prod.snd e
            simp only at e1 e2
            have hzany := (h.from_ z hz).1
            obtain ⟨b, hb, ez⟩ := (h.from_ z hz).2
            have cz : Conf C t z := by rw [ez]; exact hc b (List.mem_append_left _ hb)
            have ca : Conf C t (col a i) := hc a (by simp)
            have hk : z.k = (col a i).k := by
              rcases Conf.cases cz hzany with ⟨rfl, k1, _⟩ | ⟨_, _, _, rfl, k5, _⟩
              · rcases Conf.cases ca hany with ⟨_, k1', _⟩ | ⟨_, _, _, e, _⟩
                · rw [k1, k1']
                · cases e
              · rcases Conf.cases ca hany with ⟨e, _⟩ | ⟨_, _, _, _, k5', _⟩
                · cases e
                · rw [k5, k5']
            have : (hs.any fun x => meets x (col a i)) = true := List.any_eq_true.2 ⟨z, hz, by simp [meets, hk, e1, e2]⟩
            rw [this] at hmet; cases hmet
    have := heads_step ahead (done ++ [a]) (addHead i hs a) (fun b hb => hc b (by simpa using hb)) key
    simpa using this
theorem headsOf_ok {C : List Cn} {t : Ty} {i : Nat} {ahead : List (List Nd)} (hc : ∀ a, a ∈ ahead → Conf C t (col a i)) : HS C t i ahead (headsOf ahead i) :=
  heads_step ahead [] [] hc ⟨fun h hh => absurd hh (by simp), fun a ha => absurd ha (by simp), List.nodup_nil⟩
theorem fresh_num (l : List Int) : ∃ n : Int, ∀ m ∈ l, n ≠ m := by
  have : ∀ l : List Int, ∃ n : Int, ∀ m ∈ l, m < n := by
    intro l
    induction l with
    | nil => exact ⟨0, fun m hm => by cases hm⟩
    | cons x l ih =>
      obtain ⟨n, hn⟩ := ih
      refine ⟨max n (x + 1), fun m hm => ?_⟩
      rcases List.mem_cons.1 hm with rfl | hm
      · omega
      · have := hn m hm; omega
  obtain ⟨n, hn⟩ := this l
  exact ⟨n, fun m hm e => by have := hn m hm; omega⟩

/-- A column whose heads are not whole: a value of the place that no head means. -/
theorem fresh_value {C : List Cn} {t : Ty} {i : Nat} {ahead : List (List Nd)} (S : Sound C) (hg : Good C t) (hc : ∀ a, a ∈ ahead → Conf C t (col a i)) (hw : whole C (headsOf ahead i) = false) :
    ∃ x, Typed C t x ∧ ∀ a, a ∈ ahead → anyB (col a i) = false → means (col a i) x = false := by
  have H := headsOf_ok hc
  by_cases hnone : ∀ a, a ∈ ahead → anyB (col a i) = true
  · obtain ⟨x, hx⟩ := Good.inh t hg
    exact ⟨x, hx, fun a ha hn => by rw [hnone a ha] at hn; cases hn⟩
  · obtain ⟨a0, ha0, hn0⟩ : ∃ a, a ∈ ahead ∧ anyB (col a i) = false := by
      false_or_by_contra
      rename_i h
      exact hnone fun a ha => by
        cases e : anyB (col a i) with
        | true => rfl
        | false => exact absurd ⟨a, ha, e⟩ h
    rcases Conf.cases (hc a0 ha0) hn0 with ⟨rfl, k1, _⟩ | ⟨of, ch, c, rfl, k5, n0, hcm, hnm, ho, hl, hk⟩
    · obtain ⟨n, hn⟩ := fresh_num (ahead.map fun a => (col a i).n)
      refine ⟨.num n, ⟨n, rfl⟩, fun a ha hna => ?_⟩
      rw [means_num hna, Bool.eq_false_iff]
      intro e
      simp only [Bool.and_eq_true, beq_iff_eq] at e
      exact hn _ (List.mem_map.2 ⟨a, ha, rfl⟩) e.2
    · have hcon : ∀ h, h ∈ headsOf ahead i → h.k = 5 ∧ h.n = 0 ∧ ∃ d, d ∈ C ∧ d.nm = h.s ∧ d.of = of := fun h hh => by
        obtain ⟨hna, a, ha, e⟩ := H.from_ h hh
        rcases Conf.cases (hc a ha) (by rw [← e]; exact hna) with ⟨e2, _⟩ | ⟨of', ch', c', e2, k5', n0', hcm', hnm', ho', _⟩
        · cases e2
        · cases e2
          rw [e]
          exact ⟨k5', n0', c', hcm', hnm', ho'⟩
      have hnod : ((headsOf ahead i).map Nd.s).Nodup := by
        have hp : ∀ (l : List Nd), (∀ h, h ∈ l → h.n = 0) → (l.map fun h => (h.s, h.n)).Nodup → (l.map Nd.s).Nodup := by
          intro l
          induction l with
          | nil => intro _ _; exact List.nodup_nil
          | cons x l ih =>
            intro h0 hn
            simp only [List.map_cons, List.nodup_cons] at hn ⊢
            refine ⟨fun hm => hn.1 ?_, ih (fun h hh => h0 h (List.mem_cons_of_mem _ hh)) hn.2⟩
            obtain ⟨y, hy, e⟩ := List.mem_map.1 hm
            exact List.mem_map.2 ⟨y, hy, by rw [e, h0 x List.mem_cons_self, h0 y (List.mem_cons_of_mem _ hy)]⟩
        exact hp _ (fun h hh => (hcon h hh).2.1) H.apart
      have hsub : ∀ s ∈ (headsOf ahead i).map Nd.s, s ∈ (C.filter fun d => d.of == of).map Cn.nm := fun s hs => by
        obtain ⟨h, hh, rfl⟩ := List.mem_map.1 hs
        obtain ⟨_, _, d, hd, e1, e2⟩ := hcon h hh
        exact List.mem_map.2 ⟨d, List.mem_filter.2 ⟨hd, by simp [e2]⟩, e1⟩
      have hmany : c.many = ((C.filter fun d => d.of == of).map Cn.nm).length := by
        rw [List.length_map, S.many c hcm, ho]
      obtain ⟨d, hd, hfree⟩ : ∃ d, d ∈ C.filter (fun d => d.of == of) ∧ d.nm ∉ (headsOf ahead i).map Nd.s := by
        false_or_by_contra
        rename_i hno
        have hall : ∀ s ∈ (C.filter fun d => d.of == of).map Cn.nm, s ∈ (headsOf ahead i).map Nd.s := fun s hs => by
          obtain ⟨d, hd, rfl⟩ := List.mem_map.1 hs
          by_cases e : d.nm ∈ (headsOf ahead i).map Nd.s
          · exact e
          · exact absurd ⟨d, hd, e⟩ hno
        have hnd2 : ((C.filter fun d => d.of == of).map Cn.nm).Nodup := List.Nodup.sublist (List.Sublist.map _ List.filter_sublist) S.names
        have l1 := (nodup_sub _ _ hnod hsub).1
        have l2 := (nodup_sub _ _ hnd2 hall).1
        cases hhs : headsOf ahead i with
        | nil =>
          obtain ⟨h, hh, _⟩ := H.all a0 ha0 hn0
          rw [hhs] at hh; cases hh
        | cons h hs =>
          obtain ⟨hk5, _, d, hdC, e1, e2⟩ := hcon h (by rw [hhs]; exact List.mem_cons_self)
          have hmd : manyOf C h.s = c.many := by
            unfold manyOf
            rw [← e1, S.conOf hdC]
            show d.many = c.many
            rw [S.many d hdC, S.many c hcm, e2, ho]
          rw [hhs] at hw l1 l2
          unfold whole at hw
          simp only [hk5, beq_self_eq_true, Bool.true_and, hmd, beq_eq_false_iff_ne] at hw
          exact hw (by rw [hmany]; simp only [List.length_map] at l1 l2 ⊢; omega)
      obtain ⟨hdC, hdo⟩ := List.mem_filter.1 hd
      obtain ⟨ps, hps⟩ := Good.inhCon hg hdC (by simpa using hdo)
      refine ⟨.con d.nm ps, hps, fun a ha hna => ?_⟩
      rw [means_con hna]
      obtain ⟨h, hh, hm⟩ := H.all a ha hna
      have es : h.s = (col a i).s := by
        simp only [meets, (H.from_ h hh).1, Bool.false_or, Bool.and_eq_true, beq_iff_eq] at hm
        exact hm.1.2
      have : (d.nm == (col a i).s) = false := by
        rw [beq_eq_false_iff_ne]
        intro e
        exact hfree (List.mem_map.2 ⟨h, hh, by rw [es, e]⟩)
      rw [this]; simp

theorem meets_anyNd {C : List Cn} {t : Ty} {p : Nd} (h : Conf C t p) : meets p anyNd = anyB p := by
  cases e : anyB p with
  | true => simp [meets, e]
  | false =>
    have : p.k ≠ 24 := by intro k; simp [anyB, k] at e
    simp [meets, e, anyNd, Nd.k] at this ⊢
    intro k; exact absurd k this
theorem parts_anyNd {p : Nd} (h : anyB p = true) : parts p anyNd = [] := by simp [parts, h, anyNd, Nd.kids]
theorem kidsT_anyNd (t : Ty) : kidsT t anyNd = [] := by cases t <;> rfl
theorem row_any {a : List Nd} {i : Nat} (hi : i < a.length) (ha : anyB (col a i) = true) {v1 : List Vl} (h1 : v1.length = i) (x : Vl) (v2 : List Vl) : meansL (rbehind a i anyNd) ((v1 ++ []) ++ v2) = meansL a (v1 ++ x :: v2) := by
  rw [meansL_rbehind hi h1 (by rw [parts_anyNd ha]; rfl), meansL_split hi h1, parts_anyNd ha, means_any ha]
  rfl
theorem typed_any {C : List Cn} {G : List Ty} {i : Nat} (hi : i < G.length) {x : Vl} (hx : Typed C (tcol G i) x) {v1 : List Vl} (h1 : v1.length = i) (v2 : List Vl) : TypedL C G (v1 ++ x :: v2) ↔ TypedL C (tbehind G i anyNd) ((v1 ++ []) ++ v2) := by
  unfold tbehind
  rw [kidsT_anyNd]
  conv => lhs; rw [split_at G i .any hi]
  rw [TypedL_app _ _ _ _ (by simp; omega), TypedL_app _ _ _ _ (by simp; omega), TypedL_app _ _ _ _ (by simp; omega)]
  show _ ∧ (Typed C (tcol G i) x ∧ _) ↔ _
  exact ⟨fun h => ⟨⟨h.1, trivial⟩, h.2.2⟩, fun h => ⟨h.1.1, hx, h.2⟩⟩
/-- THE STEP: what is useful is so behind some head. -/
theorem useful_step {C : List Cn} {G : List Ty} {r : List Nd} {ahead : List (List Nd)} {i : Nat} (S : Sound C) (M : Mx C G r ahead) (hi : i < r.length) :
    Useful C G r ahead ↔ ∃ h, h ∈ heads C r ahead i ∧ Useful C (tbehind G i h) (rbehind r i h) (lbehind ahead i h) := by
  have hG : i < G.length := by rw [← M.1.len]; exact hi
  have hrc := (ConfL.split M.1 hi).2.1
  have hac : ∀ a, a ∈ ahead → Conf C (tcol G i) (col a i) := fun a ha => (ConfL.split (M.2.1 a ha) (by rw [(M.2.1 a ha).len]; exact hG)).2.1
  have hgt : Good C (tcol G i) := M.2.2 _ (by unfold tcol; rw [List.getD_eq_getElem?_getD, List.getElem?_eq_getElem hG]; exact List.getElem_mem hG)
  unfold heads
  cases hany : anyB (col r i) with
  | false =>
    simp only [Bool.false_eq_true, if_false, List.mem_singleton, exists_eq_left]
    have hself : meets (col r i) (col r i) = true := by simp [meets]
    constructor
    · rintro ⟨vs, ht, hm, hn⟩
      obtain ⟨v1, x, v2, rfl, h1⟩ := vec_cut (i := i) (by rw [ht.len]; exact hG)
      have hx : means (col r i) x = true := by
        rw [meansL_split hi h1] at hm
        simp only [Bool.and_eq_true] at hm
        exact hm.2.1
      obtain ⟨ps, hv⟩ : ∃ ps, HV (col r i) x ps := by
        rcases Conf.cases hrc hany with ⟨e, k1', s0', l0'⟩ | ⟨of', ch', c', e, k5', n0', hc', hn', ho', hl', hk'⟩
        · cases x with
          | num m =>
            rw [means_num hany] at hx
            simp only [Bool.and_eq_true, beq_iff_eq] at hx
            exact ⟨[], .inr ⟨k1', l0', by rw [hx.2], rfl⟩⟩
          | con d ps => rw [means_con hany, k1'] at hx; simp at hx
        · cases x with
          | num m => rw [means_num hany, k5'] at hx; simp at hx
          | con d ps =>
            rw [means_con hany] at hx
            simp only [Bool.and_eq_true, beq_iff_eq] at hx
            exact ⟨ps, .inl ⟨k5', by rw [hx.1.2], meansL_len hx.2⟩⟩
      exact head_of_useful S M hi hrc hany hself h1 hv ht hm hn
    · exact useful_of_head S M hi hrc hany hself
  | true =>
    simp only [if_true]
    have H := headsOf_ok hac
    cases hw : whole C (headsOf ahead i) with
    | true =>
      simp only [if_true]
      have hmr : ∀ h, meets (col r i) h = true := fun h => by simp [meets, hany]
      constructor
      · rintro ⟨vs, ht, hm, hn⟩
        obtain ⟨v1, x, v2, rfl, h1⟩ := vec_cut (i := i) (by rw [ht.len]; exact hG)
        have hx : Typed C (tcol G i) x := by
          rw [split_at G i .any hG] at ht
          exact ((TypedL_app _ _ _ _ (by simp; omega)).1 ht).2.1
        cases hhs : headsOf ahead i with
        | nil => rw [hhs] at hw; cases hw
        | cons h0 hs =>
          rw [hhs] at hw
          simp only [whole, Bool.and_eq_true, beq_iff_eq] at hw
          obtain ⟨k5, hlen⟩ := hw
          have hcf : ∀ h, h ∈ headsOf ahead i → Conf C (tcol G i) h := fun h hh => by
            obtain ⟨_, a, ha, e⟩ := H.from_ h hh
            rw [e]; exact hac a ha
          have hh0 := H.from_ h0 (by rw [hhs]; exact List.mem_cons_self)
          rcases Conf.cases (hcf h0 (by rw [hhs]; exact List.mem_cons_self)) hh0.1 with ⟨_, k1, _⟩ | ⟨of, ch, c, et, _, n0, hcm, hnm, ho, hl, hk⟩
          · rw [k1] at k5; cases k5
          · rw [et] at hx
            obtain ⟨d, ps, hdC, hdo, rfl, hpl, _⟩ := hx
            have hcon : ∀ h, h ∈ headsOf ahead i → h.k = 5 ∧ h.n = 0 ∧ ∃ d, d ∈ C ∧ d.nm = h.s ∧ d.of = of ∧ h.kids.length = d.ar := fun h hh => by
              have hna := (H.from_ h hh).1
              have hcc := hcf h hh
              rw [et] at hcc
              rcases Conf.cases hcc hna with ⟨e2, _⟩ | ⟨of', ch', c', e2, k5', n0', hcm', hnm', ho', hl', _⟩
              · cases e2
              · cases e2
                exact ⟨k5', n0', c', hcm', hnm', ho', hl'⟩
            have hnod : ((headsOf ahead i).map Nd.s).Nodup := by
              have hp : ∀ (l : List Nd), (∀ h, h ∈ l → h.n = 0) → (l.map fun h => (h.s, h.n)).Nodup → (l.map Nd.s).Nodup := by
                intro l
                induction l with
                | nil => intro _ _; exact List.nodup_nil
                | cons x l ih =>
                  intro h0 hn
                  simp only [List.map_cons, List.nodup_cons] at hn ⊢
                  refine ⟨fun hm => hn.1 ?_, ih (fun h hh => h0 h (List.mem_cons_of_mem _ hh)) hn.2⟩
                  obtain ⟨y, hy, e⟩ := List.mem_map.1 hm
                  exact List.mem_map.2 ⟨y, hy, by rw [e, h0 x List.mem_cons_self, h0 y (List.mem_cons_of_mem _ hy)]⟩
              exact hp _ (fun h hh => (hcon h hh).2.1) H.apart
            have hsub : ∀ s ∈ (headsOf ahead i).map Nd.s, s ∈ (C.filter fun d => d.of == of).map Cn.nm := fun s hs => by
              obtain ⟨h, hh, rfl⟩ := List.mem_map.1 hs
              obtain ⟨_, _, d, hd, e1, e2, _⟩ := hcon h hh
              exact List.mem_map.2 ⟨d, List.mem_filter.2 ⟨hd, by simp [e2]⟩, e1⟩
            have hmd : manyOf C h0.s = ((C.filter fun d => d.of == of).map Cn.nm).length := by
              unfold manyOf
              rw [← hnm, S.conOf hcm]
              show c.many = _
              rw [S.many c hcm, ho, List.length_map]
            have hin := (nodup_sub _ _ hnod hsub).2 (by rw [← hmd, hlen, hhs]; simp) d.nm (List.mem_map.2 ⟨d, List.mem_filter.2 ⟨hdC, by simp [hdo]⟩, rfl⟩)
            obtain ⟨h, hh, es⟩ := List.mem_map.1 hin
            obtain ⟨hk5, _, d', hd', e1, e2, e3⟩ := hcon h hh
            have hdd : d' = d := S.eq hd' hdC (by rw [e1, es])
            refine ⟨h, by rw [← hhs]; exact hh, head_of_useful S M hi (hcf h hh) (H.from_ h hh).1 (hmr h) h1 (.inl ⟨hk5, by rw [es], by rw [hpl, e3, hdd]⟩) ht hm hn⟩
      · rintro ⟨h, hh, hu⟩
        obtain ⟨hna, a, ha, e⟩ := H.from_ h hh
        exact useful_of_head S M hi (by rw [e]; exact hac a ha) hna (hmr h) hu
    | false =>
      simp only [Bool.false_eq_true, if_false, List.mem_singleton, exists_eq_left]
      constructor
      · rintro ⟨vs, ht, hm, hn⟩
        obtain ⟨v1, x, v2, rfl, h1⟩ := vec_cut (i := i) (by rw [ht.len]; exact hG)
        have hx : Typed C (tcol G i) x := by
          rw [split_at G i .any hG] at ht
          exact ((TypedL_app _ _ _ _ (by simp; omega)).1 ht).2.1
        refine ⟨(v1 ++ []) ++ v2, (typed_any hG hx h1 v2).1 ht, by rw [row_any hi hany h1 x v2]; exact hm, fun b hb => ?_⟩
        obtain ⟨a, ha, hma, rfl⟩ := mem_lbehind.1 hb
        rw [meets_anyNd (hac a ha)] at hma
        rw [row_any (by rw [(M.2.1 a ha).len]; exact hG) hma h1 x v2]
        exact hn a ha
      · rintro ⟨vs, ht, hm, hn⟩
        obtain ⟨v1, ps, v2, rfl, h1, h2⟩ := typed_cut hG ht
        rw [kidsT_anyNd] at h2
        have := List.eq_nil_of_length_eq_zero h2
        subst this
        obtain ⟨x, hx, hfree⟩ := fresh_value S hgt hac hw
        refine ⟨v1 ++ x :: v2, (typed_any hG hx h1 v2).2 ht, by rw [← row_any hi hany h1 x v2]; exact hm, fun a ha => ?_⟩
        have hia : i < a.length := by rw [(M.2.1 a ha).len]; exact hG
        cases e : anyB (col a i) with
        | true => rw [← row_any hia e h1 x v2]; exact hn _ (mem_lbehind.2 ⟨a, ha, by rw [meets_anyNd (hac a ha), e], rfl⟩)
        | false => rw [meansL_split hia h1, hfree a ha e]; simp
end Go.Proofs.Ytommaomhiaaphaa.CB
