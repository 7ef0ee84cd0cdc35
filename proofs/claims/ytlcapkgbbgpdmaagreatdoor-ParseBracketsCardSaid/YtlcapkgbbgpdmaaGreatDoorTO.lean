/- Rows of tokens: four cells each. Nothing of the program is in sight. -/
import Derived.Test.YtlcapkgbbgpdmaaGreatDoorTK
import Derived.WalkKit
import Derived.Deep.AppendLies
namespace Go.Proofs.YtlcapkgbbgpdmaaGreatDoor.TO
open Go.RowKit Go.Proofs.YtlcapkgbbgpdmaaGreatDoor.P Go.Proofs.YtlcapkgbbgpdmaaGreatDoor.TK
set_option linter.unusedVariables false
set_option maxRecDepth 100000

def tcell (x : Tok) : List Value := [.int .i64 (x.k : Int), .string ⟨x.t.toArray⟩, .int .i64 (x.n : Int), .int .i64 (x.p : Int)]
def tvs (ts : List Tok) : List Value := ts.flatMap tcell
theorem tvs_len (ts : List Tok) : (tvs ts).length = ts.length * 4 := by
  induction ts with
  | nil => rfl
  | cons t ts ih => simp only [tvs, List.flatMap_cons, List.length_append, List.length_cons] at ih ⊢; simp only [tcell, List.length_cons, List.length_nil]; omega
theorem tvs_append (a b : List Tok) : tvs (a ++ b) = tvs a ++ tvs b := by simp [tvs]
theorem tvs_at : ∀ (ts : List Tok) (j : Nat) (h : j < ts.length) (i : Nat), i < 4 → (tvs ts)[4 * j + i]? = (tcell ts[j])[i]?
  | t :: ts, 0, h, i, hi => by
    have e : tvs (t :: ts) = tcell t ++ tvs ts := rfl
    rw [e, List.getElem?_append_left (by simp only [tcell, List.length_cons, List.length_nil]; omega)]
    simp
  | t :: ts, j + 1, h, i, hi => by
    have e : tvs (t :: ts) = tcell t ++ tvs ts := rfl
    have hl : (tcell t).length = 4 := rfl
    rw [e, List.getElem?_append_right (by rw [hl]; omega), hl, show 4 * (j + 1) + i - 4 = 4 * j + i from by omega]
    exact tvs_at ts j (by simpa using h) i hi
theorem tvs_one (ts : List Tok) : ∀ u ∈ tvs ts, u.oneCell' = true := by
  intro u hu
  obtain ⟨t, _, ht⟩ := List.mem_flatMap.1 hu
  simp only [tcell, List.mem_cons, List.not_mem_nil, or_false] at ht
  rcases ht with rfl | rfl | rfl | rfl <;> rfl

/-- Tokens that lie somewhere, whoever owns them. -/
def HasT (w : World) (v : Value) (ts : List Tok) : Prop :=
  ∃ ao cap, v = .slice ao ts.length cap ∧ (ts.length ≤ cap ∧ cap ≤ 9223372036854775807) ∧ (ts = [] ∨ ∃ b off, ao = some ⟨b, off, none⟩ ∧ b < w.heap.size ∧ ∀ j (h : j < ts.length) i, i < 4 → w.cell? ⟨b, off + (4 * j + i), none⟩ = (tcell ts[j])[i]?)
theorem HasT.below {w w' : World} {B : Nat} {v : Value} {ts : List Tok} (h : HasT w v ts) (hb : Below B w w') (hB : w.heap.size ≤ B) : HasT w' v ts := by
  obtain ⟨ao, cap, hv, hc, h⟩ := h
  refine ⟨ao, cap, hv, hc, ?_⟩
  rcases h with h | ⟨b, off, ha, hlt, hcell⟩
  · exact .inl h
  · exact .inr ⟨b, off, ha, Nat.lt_of_lt_of_le hlt hb.size, fun j hj i hi => (hb.cell (by show b < B; omega)).trans (hcell j hj i hi)⟩
theorem own_hasT {w : World} {base : Nat} {e : TypeId} {v : Value} {ts : List Tok} (h : w.ownsRow base e 4 v ts.length (tvs ts)) : HasT w v ts := by
  rcases h.2 with ⟨hv, hn⟩ | ⟨g, cap, cur, hv, hb, hg, hn, hcm, hcs, htake⟩
  · have : ts = [] := List.eq_nil_of_length_eq_zero hn
    subst this
    exact ⟨none, 0, hv, ⟨Nat.le_refl _, by decide⟩, .inl rfl⟩
  · refine ⟨_, cap, hv, ⟨hn, by unfold maxLen at hcm; omega⟩, .inr ⟨g, 0, rfl, (Array.getElem?_eq_some_iff.1 hg).1, fun j hj i hi => ?_⟩⟩
    rw [cell_of_row w g (0 + (4 * j + i)) cur e (0, 0) hg, ← tvs_at ts j hj i hi, ← htake, List.getElem?_take, if_pos (by omega)]
    simp
theorem own_snocT {w : World} {base g cap n : Nat} {e : TypeId} {a l c : List Tok} (h : w.ownsRow base e 4 (.slice (some ⟨g, 0, none⟩) (a.length + n) cap) (a.length + n) (tvs a ++ tvs l)) (hn : l.length = n) (hc : c = a ++ l) :
    (.slice (some ⟨g, 0, none⟩) (a.length + n) cap : Value) = .slice (some ⟨g, 0, none⟩) c.length cap ∧ w.ownsRow base e 4 (.slice (some ⟨g, 0, none⟩) c.length cap) c.length (tvs c) := by
  subst hc
  subst hn
  refine ⟨by rw [List.length_append], ?_⟩
  rw [List.length_append, tvs_append]
  exact h
end Go.Proofs.YtlcapkgbbgpdmaaGreatDoor.TO
