/- Blocks but one are as they were; rows that are put into a block's cells. -/
import Derived.Test.YtkhdkepjhifffaaKC
namespace Go.Proofs.Ytkhdkepjhifffaa.KH
open Go.RowKit Go.Proofs.Ytkhdkepjhifffaa.RG Go.Proofs.Ytkhdkepjhifffaa.KA Go.Proofs.Ytkhdkepjhifffaa.KB
set_option linter.unusedVariables false
set_option maxRecDepth 100000
set_option maxRecDepth 100000

/-- From one world to another nothing below B has turned but one block. -/
structure Bo (B x : Nat) (w w' : World) : Prop where
  os : w'.os = w.os
  tape : w'.tape = w.tape
  output : w'.output = w.output
  size : w.heap.size ≤ w'.heap.size
  block : ∀ k, k < B → k ≠ x → w'.heap[k]? = w.heap[k]?
theorem Bo.refl (B x : Nat) (w : World) : Bo B x w w := ⟨rfl, rfl, rfl, Nat.le_refl _, fun _ _ _ => rfl⟩
theorem Bo.trans {B x : Nat} {a b c : World} (h : Bo B x a b) (k : Bo B x b c) : Bo B x a c :=
  ⟨k.os.trans h.os, k.tape.trans h.tape, k.output.trans h.output, Nat.le_trans h.size k.size, fun i hi hx => (k.block i hi hx).trans (h.block i hi hx)⟩
theorem Bo.of {B x : Nat} {w w' : World} (h : Below B w w') : Bo B x w w' := ⟨h.os, h.tape, h.output, h.size, fun k hk _ => h.block k hk⟩
theorem Bo.set (B x : Nat) (w : World) (i : Nat) (v : Value) : Bo B x w (w.setCell ⟨x, i, none⟩ v) := ⟨rfl, rfl, rfl, by simp, fun k hk hx => Below.heap_setCell _ _ _ _ hx⟩
theorem Bo.mono {B B' x : Nat} {w w' : World} (h : Bo B x w w') (hB : B' ≤ B) : Bo B' x w w' := ⟨h.os, h.tape, h.output, h.size, fun k hk hx => h.block k (Nat.lt_of_lt_of_le hk hB) hx⟩
theorem Bo.below {B x : Nat} {w w' : World} (h : Bo B x w w') (hB : B ≤ x) : Below B w w' := ⟨h.os, h.tape, h.output, h.size, fun k hk => h.block k hk (by omega)⟩
/-- A row that the call owns, of things that lie flat, is where it was. -/
theorem own_bo {α : Type} {R : Ty Try.prog α} {w w' : World} {B0 B x : Nat} {v : Value} {L : List α} (h : OwnR R w B0 (fun _ => False) v L) (hb : Bo B x w w') (hv : ∀ b, v.ownBlock = some b → b < B ∧ b ≠ x) : OwnR R w' B0 (fun _ => False) v L := by
  obtain ⟨qs, ⟨h1, h2⟩, h3⟩ := h
  refine ⟨qs, ⟨h1, ?_⟩, Hs.mv ⟨hb.size, fun b hb' _ => hb'.1.elim⟩ _ _ h3⟩
  rcases h2 with h2 | ⟨g, cap, cur, hv', hg, hh, r⟩
  · exact .inl h2
  · have := hv g (by rw [hv']; rfl)
    exact .inr ⟨g, cap, cur, hv', hg, by rw [hb.block g this.1 this.2]; exact hh, r⟩
abbrev OwnF {α : Type} (R : Ty Try.prog α) (w : World) (B : Nat) (v : Value) (L : List α) : Prop := OwnR R w B (fun _ => False) v L
theorem take_snoc {α : Type} {l : List α} {j : Nat} {p : α} (h : l[j]? = some p) : l.take (j + 1) = l.take j ++ [p] := by rw [List.take_add_one, h]; rfl
theorem ownR_low {α : Type} {R : Ty Try.prog α} {w : World} {B B' : Nat} {T T' : Nat → Prop} {v : Value} {L : List α} (h : OwnR R w B T v L) (hB : B' ≤ B) (hT : ∀ b, T b → T' b) : OwnR R w B' T' v L := by
  obtain ⟨qs, ⟨h1, h2⟩, h3⟩ := h
  refine ⟨qs, ⟨h1, ?_⟩, Hs.mv (Mv.weak _ fun b hb _ => ⟨hT b hb.1, hb.2⟩) _ _ h3⟩
  rcases h2 with h2 | ⟨g, cap, cur, hv, hg, r⟩
  · exact .inl h2
  · exact .inr ⟨g, cap, cur, hv, Nat.le_trans hB hg, r⟩
/-- A code of the call's own. -/
structure HasO (w : World) (B : Nat) (c : Cd) (fv iv tv : Value) : Prop where
  funs : OwnR TF w B (fun b => B ≤ b) fv c.funs
  ints : OwnF TI w B iv c.ints
  texts : OwnF TT w B tv c.texts
theorem HasO.keep {w w' : World} {B : Nat} {c : Cd} {fv iv tv : Value} (h : HasO w B c fv iv tv) (hb : Below w.heap.size w w') : HasO w' B c fv iv tv := ⟨h.funs.keep hb, h.ints.keep hb, h.texts.keep hb⟩
theorem HasO.other {w : World} {B x : Nat} {c : Cd} {fv iv tv : Value} (h : HasO w B c fv iv tv) (hx : x < B) (i : Nat) (v : Value) : HasO (w.setCell ⟨x, i, none⟩ v) B c fv iv tv :=
  ⟨h.funs.other (fun b hb => by have hb : B ≤ b := hb; omega) hx i v, h.ints.other (fun b hb => hb.elim) hx i v, h.texts.other (fun b hb => hb.elim) hx i v⟩
theorem HasO.has {w : World} {B : Nat} {c : Cd} {fv iv tv : Value} (h : HasO w B c fv iv tv) : HasC w (fun _ => True) c fv iv tv :=
  ⟨h.funs.row.weak fun _ _ _ => trivial, h.ints.row.weak fun _ _ _ => trivial, h.texts.row.weak fun _ _ _ => trivial⟩
end Go.Proofs.Ytkhdkepjhifffaa.KH
