/- Two heaps beside each other: what the one's making leaves of the other. -/
import Derived.Test.YtphebogjmbaboaaDoorHR
namespace Go.Proofs.YtphebogjmbaboaaDoor.HS
open Go.RowKit Go.Proofs.YtphebogjmbaboaaDoor.RG Go.Proofs.YtphebogjmbaboaaDoor.RB Go.Proofs.YtphebogjmbaboaaDoor.RM Go.Proofs.YtphebogjmbaboaaDoor.HA Go.Proofs.YtphebogjmbaboaaDoor.HB Go.Proofs.YtphebogjmbaboaaDoor.HE Go.Proofs.YtphebogjmbaboaaDoor.HG Go.Proofs.YtphebogjmbaboaaDoor.HK
set_option linter.unusedVariables false
set_option maxRecDepth 100000
set_option maxRecDepth 100000

theorem own_mv {P : Program} {α : Type} {R : Ty P α} {w w' : World} {B : Nat} {T : Nat → Prop} {v : Value} {L : List α} (h : OwnR R w B T v L) (hs : w.heap.size ≤ w'.heap.size) (hT : ∀ b, T b → B ≤ b) (hk : ∀ b, B ≤ b → b < w.heap.size → w'.heap[b]? = w.heap[b]?) : OwnR R w' B T v L := by
  obtain ⟨qs, h1, h2⟩ := h
  refine ⟨qs, ⟨h1.1, ?_⟩, Hs.mv ⟨hs, fun b hb hlt => ⟨hb, hk b (hT b hb.1) hlt⟩⟩ _ _ h2⟩
  rcases h1.2 with h3 | ⟨g, cap, cur, hv, hg, hh, r⟩
  · exact .inl h3
  · exact .inr ⟨g, cap, cur, hv, hg, by rw [hk g hg (Array.getElem?_eq_some_iff.1 hh).1]; exact hh, r⟩
theorem HDoc.on3 {w w' : World} {r B N p x m : Nat} {h : Hp} (H : HDoc w r B N h) (k : On3 p x m w w') (hp : p < r) (hx : x < r) (hm : m < r) : HDoc w' r B N h := by
  obtain ⟨v, h1, h2⟩ := H.blk
  have hlt := H.lt
  exact ⟨⟨v, (k.block r h1.lt (by omega) (by omega) (by omega)).trans h1, own_mv h2 k.size (fun b hb => hb) fun b hb hlt' => k.block b hlt' (by omega) (by omega) (by omega)⟩, H.wf, H.lt, Nat.le_trans H.ge k.size, H.fit, H.good, H.bd⟩
theorem HP.onD {w w' : World} {p x m o N r B : Nat} {h : Hp} (H : HP w p x m o N h) (k : OnD r B w w') (hp : p < r) (hx : x < r) (hm : m < r) (ho : o < r) (hr : r < B) : HP w' p x m o N h := by
  obtain ⟨L, h1, h2⟩ := H.ws
  obtain ⟨L', h3, h4⟩ := H.ot
  exact ⟨(k.block p (by omega) (by omega)).trans H.blk, ⟨L, (k.block x (by omega) (by omega)).trans h1, h2⟩, (k.block m (by omega) (by omega)).trans H.set, ⟨L', (k.block o (by omega) (by omega)).trans h3, h4⟩, H.ne, H.fit, H.good⟩
theorem OnD.below {r B C : Nat} {w w' : World} (h : OnD r B w w') (h1 : C ≤ r) (h2 : r < B) : Below C w w' :=
  ⟨h.os, h.tape, h.output, h.size, fun k hk => h.block k (by omega) (by omega)⟩
/-- Both heaps, alike: what lies before both is C. -/
structure Two (w : World) (C p x m o r B N : Nat) (h : Hp) : Prop where
  hp : HP w p x m o N h
  hd : HDoc w r B N h
  ge : C ≤ p ∧ C ≤ x ∧ C ≤ m ∧ C ≤ o ∧ p < r ∧ x < r ∧ m < r ∧ o < r
theorem Two.keep {w w' : World} {C p x m o r B N : Nat} {h : Hp} (H : Two w C p x m o r B N h) (hb : Below w.heap.size w w') : Two w' C p x m o r B N h := ⟨H.hp.keep hb, H.hd.keep hb, H.ge⟩
theorem Two.low {w : World} {C p x m o r B N : Nat} {h : Hp} (H : Two w C p x m o r B N h) : C ≤ w.heap.size := by
  have := H.hp.lt
  have := H.ge
  omega
end Go.Proofs.YtphebogjmbaboaaDoor.HS
