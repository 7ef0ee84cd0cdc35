/- Texts made and told again, plainly. -/
import Derived.Test.YtphebogjmbaboaaDoorIC
import Derived.Test.YtphebogjmbaboaaDoorZB
namespace Go.Proofs.YtphebogjmbaboaaDoor.ID
open Go.RowKit Go.Proofs.YtphebogjmbaboaaDoor.HA Go.Proofs.YtphebogjmbaboaaDoor.HN Go.Proofs.YtphebogjmbaboaaDoor.HO Go.Proofs.YtphebogjmbaboaaDoor.O
set_option linter.unusedVariables false
set_option maxRecDepth 100000
set_option maxRecDepth 100000

theorem packL_len (l : List UInt8) (hl : l.length ≤ 60) : (packL l).length ≤ 10 := by unfold packL; rw [pk_len]; omega
theorem textR_ok (N : Nat) (h : Hp) (l : List UInt8) (hl : l.length ≤ 60) (hn : used h + 12 ≤ N) : textR N h l = (h ++ [(201, packL l)], ptr h h.length, 0) := by
  have h1 := packL_len l hl
  unfold textR make
  rw [if_pos hl, if_pos ⟨rfl, by omega, .inl rfl⟩, if_pos (by omega)]
theorem textR_no (N : Nat) (h : Hp) (l : List UInt8) (hl : 60 < l.length) : textR N h l = (h, 0, 12) := by unfold textR; rw [if_neg (by omega)]
theorem strR_at (h : Hp) (k : Nat) (l : List UInt8) (hl : l.length ≤ 60) (hk : h[k]? = some (201, packL l)) : strR h (ptr h k) = (l, 0) := by
  have hb := blk_yes (List.getElem?_eq_some_iff.1 hk).1
  have e1 : tagOf h (ptr h k) = 201 := by unfold tagOf; rw [hb]; simp [hk]
  have e2 : fieldsOf h (ptr h k) = packL l := by unfold fieldsOf; rw [hb]; simp [hk]
  unfold strR
  rw [e1, e2, Go.Proofs.YtphebogjmbaboaaDoor.M2.pack_up hl]
  simp
theorem strR_no (h : Hp) : strR h 0 = ([], 4) := by
  have e1 : tagOf h 0 = -1 := by unfold tagOf; rw [Go.Proofs.YtphebogjmbaboaaDoor.HC.blk_bad (.inl (Int.le_refl 0))]
  unfold strR
  rw [e1]
  simp
theorem joinR_no (N : Nat) (h : Hp) (a b : Int) (h0 : a = 0 ∨ b = 0) : joinR N h a b = (h, 0, 4) := by
  unfold joinR
  rcases h0 with rfl | rfl
  · rw [strR_no]; simp
  · rw [strR_no]; simp
/-- The heap of two texts. -/
def two (S T : List UInt8) : Hp := [(201, packL S), (201, packL T)]
theorem two_a (S T : List UInt8) (hs : S.length ≤ 60) : ptr [] 0 = ptr (two S T) 0 ∧ strR (two S T) (ptr (two S T) 0) = (S, 0) := ⟨rfl, strR_at _ 0 S hs rfl⟩
theorem two_b (S T : List UInt8) (ht : T.length ≤ 60) : ptr [(201, packL S)] 1 = ptr (two S T) 1 ∧ strR (two S T) (ptr (two S T) 1) = (T, 0) := ⟨rfl, strR_at _ 1 T ht rfl⟩
theorem used_two (S T : List UInt8) (hs : S.length ≤ 60) (ht : T.length ≤ 60) : used (two S T) ≤ 22 := by
  have h1 := packL_len S hs
  have h2 := packL_len T ht
  simp only [two, used, size, List.map_cons, List.map_nil, List.sum_cons, List.sum_nil]
  omega
end Go.Proofs.YtphebogjmbaboaaDoor.ID
