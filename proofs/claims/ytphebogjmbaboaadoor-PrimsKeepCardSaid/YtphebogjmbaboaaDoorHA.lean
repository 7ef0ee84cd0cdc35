/- Heaps plainly: blocks in a row, their places, pointers; what is made; the words of a half. -/
import Derived.Lib.Hide
namespace Go.Proofs.YtphebogjmbaboaaDoor.HA
set_option linter.unusedVariables false
set_option maxRecDepth 100000

/-- A block: its tag, its fields as numbers. -/
abbrev Bl := Int × List Int
abbrev Hp := List Bl
def size (b : Bl) : Nat := 1 + b.2.length
def used (h : Hp) : Nat := (h.map size).sum
/-- Where a block lies. -/
def place (h : Hp) (k : Nat) : Nat := 1 + used (h.take k)
def ptr (h : Hp) (k : Nat) : Int := 2 * (place h k : Int)
theorem used_nil : used [] = 0 := rfl
theorem used_app (h g : Hp) : used (h ++ g) = used h + used g := by unfold used; rw [List.map_append, List.sum_append]
theorem used_one (b : Bl) : used [b] = size b := by simp [used]
theorem used_snoc (h : Hp) (b : Bl) : used (h ++ [b]) = used h + size b := by rw [used_app, used_one]
theorem used_take {h : Hp} {k : Nat} {b : Bl} (hb : h[k]? = some b) : used (h.take (k + 1)) = used (h.take k) + size b := by
  rw [List.take_add_one, hb]
  exact used_snoc _ _
theorem used_mono (h : Hp) {j k : Nat} (hj : j ≤ k) : used (h.take j) ≤ used (h.take k) := by
  have : h.take k = (h.take k).take j ++ (h.take k).drop j := (List.take_append_drop j _).symm
  rw [List.take_take, Nat.min_eq_left hj] at this
  rw [this, used_app]
  omega
theorem used_le (h : Hp) (k : Nat) : used (h.take k) ≤ used h := by
  have := used_app (h.take k) (h.drop k)
  rw [List.take_append_drop] at this
  omega
theorem place_zero (h : Hp) : place h 0 = 1 := rfl
theorem place_pos (h : Hp) (k : Nat) : 1 ≤ place h k := by unfold place; omega
theorem place_next {h : Hp} {k : Nat} {b : Bl} (hb : h[k]? = some b) : place h (k + 1) = place h k + size b := by
  unfold place
  rw [used_take hb]
  omega
theorem place_end (h : Hp) : place h h.length = used h + 1 := by unfold place; rw [List.take_length]; omega
theorem place_lt {h : Hp} {j k : Nat} (hj : j < k) (hk : k ≤ h.length) : place h j < place h k := by
  obtain ⟨b, hb⟩ : ∃ b, h[j]? = some b := ⟨h[j], List.getElem?_eq_getElem (by omega)⟩
  have h1 := place_next hb
  have h2 := used_mono h (show j + 1 ≤ k from hj)
  unfold place at h1 ⊢
  unfold size at h1
  omega
theorem place_inj {h : Hp} {j k : Nat} (hj : j ≤ h.length) (hk : k ≤ h.length) (e : place h j = place h k) : j = k := by
  rcases Nat.lt_trichotomy j k with hlt | rfl | hlt
  · have := place_lt hlt hk; omega
  · rfl
  · have := place_lt hlt hj; omega
theorem place_app (h g : Hp) {k : Nat} (hk : k ≤ h.length) : place (h ++ g) k = place h k := by
  unfold place
  rw [List.take_append_of_le_length hk]
theorem ptr_app (h g : Hp) {k : Nat} (hk : k ≤ h.length) : ptr (h ++ g) k = ptr h k := by unfold ptr; rw [place_app h g hk]
theorem ptr_inj {h : Hp} {j k : Nat} (hj : j ≤ h.length) (hk : k ≤ h.length) (e : ptr h j = ptr h k) : j = k := place_inj hj hk (by unfold ptr at e; omega)
/-- The number of the block that a word points to. -/
def find : Hp → Nat → Int → Option Nat
  | [], _, _ => none
  | b :: h, at_, w => if w = 2 * (at_ : Int) then some 0 else (find h (at_ + size b) w).map (· + 1)
def blk (h : Hp) (w : Int) : Option Nat := find h 1 w
theorem find_some : ∀ {h : Hp} {at_ : Nat} {w : Int} {k : Nat}, find h at_ w = some k → k < h.length ∧ w = 2 * ((at_ + used (h.take k) : Nat) : Int)
  | [], _, _, _, e => by cases e
  | b :: h, at_, w, k, e => by
    unfold find at e
    by_cases hw : w = 2 * (at_ : Int)
    · rw [if_pos hw] at e
      cases e
      exact ⟨by simp, by simpa [used] using hw⟩
    · rw [if_neg hw] at e
      obtain ⟨j, hj, rfl⟩ := Option.map_eq_some_iff.1 e
      obtain ⟨h1, h2⟩ := find_some hj
      refine ⟨by simp; omega, ?_⟩
      rw [h2, List.take_succ_cons]
      have : used (b :: h.take j) = size b + used (h.take j) := by simp [used]
      rw [this]
      push_cast
      omega
theorem find_yes : ∀ (h : Hp) (at_ k : Nat), k < h.length → find h at_ (2 * ((at_ + used (h.take k) : Nat) : Int)) = some k
  | [], _, _, hk => by simp at hk
  | b :: h, at_, 0, _ => by unfold find; simp [used]
  | b :: h, at_, k + 1, hk => by
    have hs : used ((b :: h).take (k + 1)) = size b + used (h.take k) := by simp [used]
    rw [hs]
    unfold find
    rw [if_neg (by unfold size; push_cast; omega)]
    have := find_yes h (at_ + size b) k (by simpa using hk)
    rw [show at_ + (size b + used (h.take k)) = at_ + size b + used (h.take k) by omega, this]
    rfl
theorem blk_some {h : Hp} {w : Int} {k : Nat} (e : blk h w = some k) : k < h.length ∧ w = ptr h k := find_some e
theorem blk_yes {h : Hp} {k : Nat} (hk : k < h.length) : blk h (ptr h k) = some k := find_yes h 1 k hk
theorem blk_none {h : Hp} {w : Int} (e : blk h w = none) {k : Nat} (hk : k < h.length) : w ≠ ptr h k := fun hw => by rw [hw, blk_yes hk] at e; cases e
theorem blk_app {h g : Hp} {w : Int} {k : Nat} (e : blk h w = some k) : blk (h ++ g) w = some k := by
  obtain ⟨h1, h2⟩ := blk_some e
  rw [h2, ← ptr_app h g (Nat.le_of_lt h1)]
  exact blk_yes (by simp; omega)
/-- May a word stand? -/
def mayW (h : Hp) (w : Int) : Bool := decide (w % 2 ≠ 0) || (blk h w).isSome
def isTag (t : Int) : Bool := decide (0 ≤ t) && decide (t ≤ 201)
/-- What Make answers: the new heap, the pointer, the error (1: no such block may be, 2 .. as the program says: no room). -/
def make (room : Int) (N : Nat) (h : Hp) (t : Int) (f : List Int) : Hp × Int × Int :=
  if isTag t = true ∧ f.length ≤ 60 ∧ (t = 201 ∨ f.all (mayW h) = true) then (if used h + 1 + f.length ≤ N then (h ++ [(t, f)], ptr h h.length, 0) else (h, 0, room)) else (h, 0, 1)
def tagOf (h : Hp) (w : Int) : Int := match blk h w with
  | some k => (h[k]?.map Prod.fst).getD 0
  | none => -1
def fieldsOf (h : Hp) (w : Int) : List Int := match blk h w with
  | some k => (h[k]?.map Prod.snd).getD []
  | none => []
/-- A block's words, with its head; those of a heap. -/
def words (b : Bl) : List Int := (b.1 * 61 + (b.2.length : Int)) :: b.2
def lay (h : Hp) : List Int := h.flatMap words
theorem lay_len (h : Hp) : (lay h).length = used h := by
  induction h with
  | nil => rfl
  | cons b h ih =>
    show (words b ++ lay h).length = _
    rw [List.length_append, ih]
    simp [used, size, words]
    omega
theorem lay_snoc (h : Hp) (b : Bl) : lay (h ++ [b]) = lay h ++ words b := by simp [lay]
theorem lay_at {h : Hp} {k : Nat} {b : Bl} (hb : h[k]? = some b) (j : Nat) (hj : j < size b) : (lay h)[used (h.take k) + j]? = (words b)[j]? := by
  have hk := (List.getElem?_eq_some_iff.1 hb).1
  have e : h = h.take k ++ b :: h.drop (k + 1) := by
    conv => lhs; rw [← List.take_append_drop k h]
    rw [List.drop_eq_getElem_cons hk, (List.getElem?_eq_some_iff.1 hb).2]
  have e2 : lay h = lay (h.take k) ++ (words b ++ lay (h.drop (k + 1))) := by
    conv => lhs; rw [e]
    simp [lay]
  rw [e2, List.getElem?_append_right (by rw [lay_len]; omega), lay_len, Nat.add_sub_cancel_left, List.getElem?_append_left (by unfold words; unfold size at hj; simp; omega)]
end Go.Proofs.YtphebogjmbaboaaDoor.HA
