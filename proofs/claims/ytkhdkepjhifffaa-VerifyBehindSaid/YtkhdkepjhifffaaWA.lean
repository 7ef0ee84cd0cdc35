/- A code of the call's own, whose bodies lie in blocks of their own, each in another one. -/
import Derived.Test.YtkhdkepjhifffaaKH
import Derived.Test.YtkhdkepjhifffaaRB
import Derived.Test.YtkhdkepjhifffaaPE
namespace Go.Proofs.Ytkhdkepjhifffaa.WA
open Go.RowKit Go.Proofs.Ytkhdkepjhifffaa.RG Go.Proofs.Ytkhdkepjhifffaa.RB Go.Proofs.Ytkhdkepjhifffaa.KA Go.Proofs.Ytkhdkepjhifffaa.KB Go.Proofs.Ytkhdkepjhifffaa.KH
set_option linter.unusedVariables false
set_option maxRecDepth 100000
set_option maxRecDepth 100000

/-- A body, and the block in which its instructions lie. -/
abbrev Bg := Bd × Nat
def hasG (w : World) (S : Nat → Prop) (a : Bg) (qs : List Value) : Prop :=
  ∃ q, qs = [q] ∧ OwnF TN w 0 q a.1.code ∧ ∀ b, q.ownBlock = some b → b = a.2 ∧ S b
theorem hasG_bd {w : World} {S : Nat → Prop} {a : Bg} {qs : List Value} (h : hasG w S a qs) : hasBd w S a.1 qs := by
  obtain ⟨q, rfl, hown, hb⟩ := h
  obtain ⟨qs2, h1, h2⟩ := hown.rw
  obtain ⟨ao, cap, rfl, hc, hr⟩ := h1
  refine ⟨_, qs2, rfl, ⟨ao, cap, rfl, hc, ?_⟩, Hs.mv (Mv.weak w fun _ h _ => h.elim) _ _ h2⟩
  rcases hr with hr | ⟨b, off, rfl, ⟨_, hlt⟩, hcells⟩
  · exact .inl hr
  · exact .inr ⟨b, off, rfl, ⟨(hb b rfl).2, hlt⟩, hcells⟩
def TG : Ty Try.prog Bg :=
  { t := TF.t, e := TF.e, size := TF.size, bytes := TF.bytes, z := TF.z, enc := fun a qs => bcells a.1 qs, has := hasG, ht := TF.ht, info := TF.info, hzs := TF.hzs, hsz := TF.hsz, hby := TF.hby
    len := fun h => TF.len (hasG_bd h)
    one := fun h => TF.one (hasG_bd h)
    mv := fun {w w' S S' a qs} hm h => by
      obtain ⟨q, rfl, hown, hb⟩ := h
      have hlt := fun b hb => (hown.own (b := b) hb).2
      obtain ⟨qs2, ⟨h1, h2⟩, h3⟩ := hown
      refine ⟨q, rfl, ⟨qs2, ⟨h1, ?_⟩, Hs.mv ⟨hm.1, fun b hb' _ => hb'.1.elim⟩ _ _ h3⟩, fun b e => ⟨(hb b e).1, (hm.2 b (hb b e).2 (hlt b e)).1⟩⟩
      rcases h2 with h2 | ⟨g, cap, cur, hv, hg, hh, r⟩
      · exact .inl h2
      · have e : q.ownBlock = some g := by rw [hv]; rfl
        exact .inr ⟨g, cap, cur, hv, hg, by rw [(hm.2 g (hb g e).2 (hlt g e)).2]; exact hh, r⟩ }
theorem rowOf_fst : ∀ (L : List Bg) (qs : List (List Value)), rowOf TG L qs = rowOf TF (L.map Prod.fst) qs
  | [], _ => rfl
  | _ :: _, [] => rfl
  | a :: L, q :: qs => by
    show bcells a.1 q ++ rowOf TG L qs = bcells a.1 q ++ rowOf TF (L.map Prod.fst) qs
    rw [rowOf_fst L qs]
theorem Hs_fst {w : World} {S : Nat → Prop} : ∀ (L : List Bg) (qs : List (List Value)), Hs TG w S L qs → Hs TF w S (L.map Prod.fst) qs
  | [], [], _ => trivial
  | a :: L, q :: qs, h => ⟨hasG_bd h.1, Hs_fst L qs h.2⟩
  | [], _ :: _, h => h
  | _ :: _, [], h => h
theorem own_fst {w : World} {B : Nat} {T : Nat → Prop} {v : Value} {L : List Bg} (h : OwnR TG w B T v L) : OwnR TF w B T v (L.map Prod.fst) := by
  obtain ⟨qs, h1, h2⟩ := h
  refine ⟨qs, ?_, Hs_fst L qs h2⟩
  rw [← rowOf_fst, List.length_map]
  exact h1
/-- Each body lies elsewhere. -/
def Sep (L : List Bg) : Prop := ∀ (i j : Nat) (a b : Bg), L[i]? = some a → L[j]? = some b → i ≠ j → a.2 ≠ b.2
theorem Sep.snoc {L : List Bg} {a : Bg} (h : Sep L) (ha : ∀ x, x ∈ L → x.2 < a.2) : Sep (L ++ [a]) := by
  intro i j x y hi hj hne
  rw [List.getElem?_append] at hi hj
  split at hi
  · split at hj
    · exact h i j x y hi hj hne
    · have := ha x (List.mem_of_getElem? hi)
      have e : y = a := by
        rw [List.getElem?_singleton] at hj
        split at hj
        · exact (Option.some.inj hj).symm
        · cases hj
      rw [e]; omega
  · have e : x = a ∧ i = L.length := by
      rw [List.getElem?_singleton] at hi
      split at hi
      · exact ⟨(Option.some.inj hi).symm, by omega⟩
      · cases hi
    split at hj
    · have := ha y (List.mem_of_getElem? hj)
      rw [e.1]; omega
    · rw [List.getElem?_singleton] at hj
      split at hj
      · exact absurd (show i = j by omega) hne
      · cases hj
/-- A code of the call's own, its bodies apart. -/
structure HasG (w : World) (B : Nat) (c : Cd) (L : List Bg) (fv iv tv : Value) : Prop where
  funs : OwnR TG w B (fun b => B ≤ b) fv L
  ints : OwnF TI w B iv c.ints
  texts : OwnF TT w B tv c.texts
  fst : L.map Prod.fst = c.funs
  sep : Sep L
theorem HasG.o {w : World} {B : Nat} {c : Cd} {L : List Bg} {fv iv tv : Value} (h : HasG w B c L fv iv tv) : HasO w B c fv iv tv := ⟨by rw [← h.fst]; exact own_fst h.funs, h.ints, h.texts⟩
theorem HasG.keep {w w' : World} {B : Nat} {c : Cd} {L : List Bg} {fv iv tv : Value} (h : HasG w B c L fv iv tv) (hb : Below w.heap.size w w') : HasG w' B c L fv iv tv := ⟨h.funs.keep hb, h.ints.keep hb, h.texts.keep hb, h.fst, h.sep⟩
theorem HasG.other {w : World} {B x : Nat} {c : Cd} {L : List Bg} {fv iv tv : Value} (h : HasG w B c L fv iv tv) (hx : x < B) (i : Nat) (v : Value) : HasG (w.setCell ⟨x, i, none⟩ v) B c L fv iv tv :=
  ⟨h.funs.other (fun b hb => by have hb : B ≤ b := hb; omega) hx i v, h.ints.other (fun b hb => hb.elim) hx i v, h.texts.other (fun b hb => hb.elim) hx i v, h.fst, h.sep⟩
/-- In which block a row of the call's own lies. -/
theorem own_blk {α : Type} {R : Ty Try.prog α} {w : World} {B : Nat} {T : Nat → Prop} {v : Value} {L : List α} (h : OwnR R w B T v L) {b : Nat} (e : v.ownBlock = some b) : ∃ cur, Bk w b cur R.e ∧ L.length * R.size ≤ cur.size ∧ ∃ cap, v = .slice (some ⟨b, 0, none⟩) L.length cap := by
  obtain ⟨qs, ⟨h1, h2⟩, h3⟩ := h
  rcases h2 with ⟨hv, _⟩ | ⟨g, cap, cur, hv, hg, hh, hn, hcm, hcs, htk⟩
  · rw [hv] at e; cases e
  · rw [hv] at e
    obtain rfl : g = b := Option.some.inj e
    refine ⟨cur, hh, ?_, cap, hv⟩
    have := rowOf_len L qs h3
    have := congrArg List.length htk
    rw [List.length_take] at this
    simp at this
    omega
/-- Rows of different types lie in different blocks. -/
theorem own_ne {α β : Type} {R : Ty Try.prog α} {Q : Ty Try.prog β} {w : World} {B B' : Nat} {T T' : Nat → Prop} {v v' : Value} {L : List α} {L' : List β} (h : OwnR R w B T v L) (h' : OwnR Q w B' T' v' L') (hne : R.e ≠ Q.e) {b b' : Nat} (e : v.ownBlock = some b) (e' : v'.ownBlock = some b') : b ≠ b' := by
  rintro rfl
  obtain ⟨cur, k, _⟩ := own_blk h e
  obtain ⟨cur', k', _⟩ := own_blk h' e'
  unfold Bk at k k'
  rw [k] at k'
  injection k' with k'
  injection k' with _ k'
  exact hne k'
/-- A row of flat things is where it was, where another block is written. -/
theorem own_wr {α : Type} {R : Ty Try.prog α} {w : World} {B x : Nat} {v : Value} {L : List α} (h : OwnF R w B v L) (hx : ∀ b, v.ownBlock = some b → b ≠ x) (i : Nat) (u : Value) : OwnF R (w.setCell ⟨x, i, none⟩ u) B v L :=
  own_bo h (Bo.set w.heap.size x w i u) fun b e => ⟨(h.own e).2, hx b e⟩
end Go.Proofs.Ytkhdkepjhifffaa.WA
