/- What moving what is reached makes, plainly. -/
import Derived.Test.YtphebogjmbaboaaDoorHA
namespace Go.Proofs.YtphebogjmbaboaaDoor.IJ
open Go.Proofs.YtphebogjmbaboaaDoor.HA
set_option linter.unusedVariables false
set_option maxRecDepth 100000
set_option maxRecDepth 100000

/-- The k-th block. -/
def bl (h : Hp) (k : Nat) : Bl := h.getD k (0, [])
/-- The blocks that were met, in their order, behind a word more. -/
def visit (h : Hp) (src : List Nat) (w : Int) : List Nat := if w % 2 ≠ 0 then src else match blk h w with
  | some k => if k ∈ src then src else src ++ [k]
  | none => src
def cpy (h : Hp) (src : List Nat) : Hp := src.map (bl h)
/-- A word as it is there. -/
def fwd (h : Hp) (src : List Nat) (w : Int) : Int := if w % 2 ≠ 0 then w else match blk h w with
  | some k => ptr (cpy h src) (src.idxOf k)
  | none => w
structure Ok (h : Hp) (src : List Nat) : Prop where
  nd : src.Nodup
  lt : ∀ k, k ∈ src → k < h.length
theorem Ok.nil (h : Hp) : Ok h [] := ⟨List.nodup_nil, fun k hk => by cases hk⟩
theorem Ok.snoc {h : Hp} {src : List Nat} (H : Ok h src) {k : Nat} (hk : k < h.length) (hn : k ∉ src) : Ok h (src ++ [k]) :=
  ⟨List.nodup_append.2 ⟨H.nd, by simp, fun a ha b hb => by rw [List.mem_singleton.1 hb]; exact fun e => hn (e ▸ ha)⟩, fun j hj => by
    rcases List.mem_append.1 hj with hj | hj
    · exact H.lt j hj
    · rw [List.mem_singleton.1 hj]; exact hk⟩
theorem bl_at {h : Hp} {k : Nat} (hk : k < h.length) : h[k]? = some (bl h k) := by unfold bl; simp [hk]
theorem visit_ok {h : Hp} {src : List Nat} (H : Ok h src) (w : Int) : Ok h (visit h src w) := by
  unfold visit
  split
  · exact H
  · cases hb : blk h w with
    | none => exact H
    | some k =>
      simp only
      by_cases hm : k ∈ src
      · rw [if_pos hm]; exact H
      · rw [if_neg hm]; exact H.snoc (blk_some hb).1 hm
theorem visit_pre (h : Hp) (src : List Nat) (w : Int) : ∃ x, visit h src w = src ++ x := by
  unfold visit
  split
  · exact ⟨[], by simp⟩
  · split
    · split
      · exact ⟨[], by simp⟩
      · exact ⟨_, rfl⟩
    · exact ⟨[], by simp⟩
theorem visit_mem {h : Hp} {src : List Nat} {w : Int} {k : Nat} (h0 : w % 2 = 0) (hb : blk h w = some k) : k ∈ visit h src w := by
  unfold visit
  rw [if_neg (by omega), hb]
  simp only
  split
  · assumption
  · simp
theorem cpy_app (h : Hp) (a b : List Nat) : cpy h (a ++ b) = cpy h a ++ cpy h b := List.map_append
theorem cpy_len (h : Hp) (src : List Nat) : (cpy h src).length = src.length := List.length_map ..
theorem sum_le (f : Nat → Nat) : ∀ (a b : List Nat), a.Nodup → (∀ x, x ∈ a → x ∈ b) → (a.map f).sum ≤ (b.map f).sum
  | [], b, _, _ => Nat.zero_le _
  | x :: a, b, hn, hs => by
    have hx := hs x List.mem_cons_self
    have hp := List.perm_cons_erase hx
    have h1 := sum_le f a (b.erase x) (List.nodup_cons.1 hn).2 (fun y hy => by
      refine (List.mem_erase_of_ne ?_).2 (hs y (List.mem_cons_of_mem _ hy))
      exact fun e => (List.nodup_cons.1 hn).1 (e ▸ hy))
    have h2 : (b.map f).sum = ((x :: b.erase x).map f).sum := (hp.map f).sum_nat
    rw [h2, List.map_cons, List.map_cons, List.sum_cons, List.sum_cons]
    omega
theorem map_range (h : Hp) : ((List.range h.length).map fun k => size (bl h k)) = h.map size := by
  apply List.ext_getElem?
  intro i
  rw [List.getElem?_map, List.getElem?_map]
  by_cases hi : i < h.length
  · rw [List.getElem?_range hi, bl_at hi]; rfl
  · rw [List.getElem?_eq_none (by simpa using hi), List.getElem?_eq_none (by omega)]; rfl
theorem used_cpy {h : Hp} {src : List Nat} (H : Ok h src) : used (cpy h src) ≤ used h := by
  unfold used cpy
  rw [List.map_map]
  have := sum_le (fun k => size (bl h k)) src (List.range h.length) H.nd (fun x hx => List.mem_range.2 (H.lt x hx))
  rw [map_range] at this
  exact this
theorem fwd_app {h : Hp} {src : List Nat} (x : List Nat) {w : Int} (hc : w % 2 = 0 → ∃ k, blk h w = some k ∧ k ∈ src) : fwd h (src ++ x) w = fwd h src w := by
  unfold fwd
  split
  · rfl
  · obtain ⟨k, hk, hm⟩ := hc (by omega)
    rw [hk]
    simp only
    rw [cpy_app, List.idxOf_append, if_pos hm, ptr_app]
    rw [cpy_len]
    exact List.idxOf_le_length
/-- A block, the first n of whose fields are as they are there. -/
def fw (h : Hp) (src : List Nat) (n : Nat) (b : Bl) : Bl := if b.1 = 201 then b else (b.1, (b.2.take n).map (fwd h src) ++ b.2.drop n)
theorem fw_zero (h : Hp) (src : List Nat) (b : Bl) : fw h src 0 b = b := by
  unfold fw
  split
  · rfl
  · simp
theorem fw_tag (h : Hp) (src : List Nat) (n : Nat) (b : Bl) : (fw h src n b).1 = b.1 := by unfold fw; split <;> rfl
theorem fw_len (h : Hp) (src : List Nat) (n : Nat) (b : Bl) : (fw h src n b).2.length = b.2.length := by
  unfold fw
  split
  · rfl
  · simp only [List.length_append, List.length_map, List.length_take, List.length_drop]
    omega
theorem fw_size (h : Hp) (src : List Nat) (n : Nat) (b : Bl) : size (fw h src n b) = size b := by unfold size; rw [fw_len]
theorem fw_full (h : Hp) (src : List Nat) {n m : Nat} (b : Bl) (h1 : b.1 = 201 ∨ (b.2.length ≤ n ∧ b.2.length ≤ m)) : fw h src n b = fw h src m b := by
  unfold fw
  by_cases ht : b.1 = 201
  · rw [if_pos ht, if_pos ht]
  · obtain ⟨h2, h3⟩ := h1.resolve_left ht
    rw [if_neg ht, if_neg ht, List.take_of_length_le h2, List.take_of_length_le h3, List.drop_of_length_le h2, List.drop_of_length_le h3]
/-- The words of the first n fields are met. -/
def Met (h : Hp) (src : List Nat) (n : Nat) (b : Bl) : Prop := b.1 ≠ 201 → ∀ w, w ∈ b.2.take n → w % 2 = 0 → ∃ k, blk h w = some k ∧ k ∈ src
theorem fw_app {h : Hp} {src : List Nat} (x : List Nat) {n : Nat} {b : Bl} (hm : Met h src n b) : fw h (src ++ x) n b = fw h src n b := by
  unfold fw
  split
  · rfl
  · rename_i ht
    congr 2
    exact List.map_congr_left fun w hw => fwd_app x (hm ht w hw)
theorem Met.app {h : Hp} {src : List Nat} (x : List Nat) {n : Nat} {b : Bl} (hm : Met h src n b) : Met h (src ++ x) n b := fun ht w hw h0 => by
  obtain ⟨k, hk, hs⟩ := hm ht w hw h0
  exact ⟨k, hk, List.mem_append_left _ hs⟩
/-- How many fields of the j-th block are done, where the k-th is at its i-th. -/
def cnt (k i j : Nat) : Nat := if j < k then 60 else if j = k then i else 0
/-- The blocks there. -/
structure IsG (h : Hp) (src : List Nat) (k i : Nat) (g : Hp) : Prop where
  len : g.length = src.length
  at_ : ∀ j s, src[j]? = some s → g[j]? = some (fw h src (cnt k i j) (bl h s)) ∧ Met h src (cnt k i j) (bl h s)
theorem IsG.nil (h : Hp) (k i : Nat) : IsG h [] k i [] := ⟨rfl, fun j s hj => by simp at hj⟩
theorem IsG.sizes {h : Hp} {src : List Nat} {k i : Nat} {g : Hp} (H : IsG h src k i g) : g.map size = (cpy h src).map size := by
  apply List.ext_getElem?
  intro j
  rw [List.getElem?_map, List.getElem?_map]
  by_cases hj : j < src.length
  · have e : src[j]? = some src[j] := List.getElem?_eq_getElem hj
    rw [(H.at_ j _ e).1]
    unfold cpy
    rw [List.getElem?_map, e]
    simp [fw_size]
  · rw [List.getElem?_eq_none (by rw [H.len]; omega), List.getElem?_eq_none (by rw [cpy_len]; omega)]
theorem used_eq {g g' : Hp} (h : g.map size = g'.map size) : used g = used g' := by unfold used; rw [h]
theorem place_eq {g g' : Hp} (h : g.map size = g'.map size) (j : Nat) : place g j = place g' j := by
  unfold place used
  rw [List.map_take, List.map_take, h]
theorem IsG.used {h : Hp} {src : List Nat} {k i : Nat} {g : Hp} (H : IsG h src k i g) : used g = used (cpy h src) := used_eq H.sizes
theorem IsG.place {h : Hp} {src : List Nat} {k i : Nat} {g : Hp} (H : IsG h src k i g) (j : Nat) : place g j = place (cpy h src) j := place_eq H.sizes j
/-- One block more. -/
theorem IsG.snoc {h : Hp} {src : List Nat} {k i : Nat} {g : Hp} (H : IsG h src k i g) (hk : k < src.length ∨ i = 0) (hk2 : k ≤ src.length) (s : Nat) : IsG h (src ++ [s]) k i (g ++ [bl h s]) := by
  refine ⟨by simp [H.len], fun j q hj => ?_⟩
  by_cases hl : j < src.length
  · rw [List.getElem?_append_left hl] at hj
    obtain ⟨h1, h2⟩ := H.at_ j q hj
    rw [List.getElem?_append_left (by rw [H.len]; exact hl), fw_app _ h2]
    exact ⟨h1, h2.app _⟩
  · have hjl : j = src.length := by
      have := (List.getElem?_eq_some_iff.1 hj).1
      simp at this
      omega
    subst hjl
    have hc : cnt k i src.length = 0 := by
      unfold cnt
      rw [if_neg (by omega)]
      split
      · omega
      · rfl
    rw [List.getElem?_append_right (Nat.le_refl _), Nat.sub_self] at hj
    simp at hj
    subst hj
    rw [hc, fw_zero, ← H.len, List.getElem?_append_right (Nat.le_refl _), Nat.sub_self]
    exact ⟨rfl, fun _ w hw => by simp at hw⟩
/-- One field more. -/
theorem IsG.field {h : Hp} {src : List Nat} {k i s : Nat} {g : Hp} {z : Int} (H : IsG h src k i g) (hs : src[k]? = some s) (ht : (bl h s).1 ≠ 201) (hz : (bl h s).2[i]? = some z) (hm : z % 2 = 0 → ∃ q, blk h z = some q ∧ q ∈ src) :
    IsG h src k (i + 1) (g.set k ((bl h s).1, (fw h src i (bl h s)).2.set i (fwd h src z))) := by
  have hi := (List.getElem?_eq_some_iff.1 hz).1
  refine ⟨by simp [H.len], fun j q hj => ?_⟩
  by_cases e : j = k
  · subst e
    rw [hs] at hj
    cases hj
    obtain ⟨h1, h2⟩ := H.at_ j s hs
    have c1 : cnt j (i + 1) j = i + 1 := by unfold cnt; simp
    have c0 : cnt j i j = i := by unfold cnt; simp
    rw [c0] at h1 h2
    rw [c1]
    refine ⟨?_, fun ht' w hw h0 => ?_⟩
    · rw [List.getElem?_set_self (List.getElem?_eq_some_iff.1 h1).1]
      congr 1
      unfold fw
      rw [if_neg ht, if_neg ht]
      simp only
      congr 1
      rw [List.take_add_one, hz, List.map_append, List.set_append_right _ _ (by simp; omega)]
      simp only [List.length_map, List.length_take]
      rw [show i - min i (bl h s).2.length = 0 by omega, List.drop_eq_getElem_cons hi, List.set_cons_zero, List.append_assoc]
      rfl
    · rw [List.take_add_one, hz] at hw
      rcases List.mem_append.1 hw with hw | hw
      · exact h2 ht w hw h0
      · simp at hw
        subst hw
        exact hm h0
  · obtain ⟨h1, h2⟩ := H.at_ j q hj
    have c1 : cnt k (i + 1) j = cnt k i j := by unfold cnt; simp [e]
    rw [c1, List.getElem?_set_ne (by omega)]
    exact ⟨h1, h2⟩
/-- The next block. -/
theorem IsG.next {h : Hp} {src : List Nat} {k i s : Nat} {g : Hp} (H : IsG h src k i g) (hs : src[k]? = some s) (hi : (bl h s).1 = 201 ∨ (bl h s).2.length ≤ i) (hl : (bl h s).2.length ≤ 60) : IsG h src (k + 1) 0 g := by
  refine ⟨H.len, fun j q hj => ?_⟩
  obtain ⟨h1, h2⟩ := H.at_ j q hj
  by_cases e : j = k
  · subst e
    rw [hs] at hj
    cases hj
    have c1 : cnt (j + 1) 0 j = 60 := by unfold cnt; simp
    have c0 : cnt j i j = i := by unfold cnt; simp
    rw [c0] at h1 h2
    rw [c1, ← fw_full h src (bl h s) (n := i) (m := 60) (hi.imp id fun h => ⟨h, hl⟩)]
    refine ⟨h1, fun ht w hw h0 => h2 ht w ?_ h0⟩
    rw [List.take_of_length_le (hi.resolve_left ht)]
    exact List.mem_of_mem_take hw
  · have c1 : cnt (k + 1) 0 j = cnt k i j := by
      unfold cnt
      by_cases hj : j < k
      · rw [if_pos hj, if_pos (by omega)]
      · rw [if_neg hj, if_neg (by omega), if_neg e]
        split <;> rfl
    rw [c1]
    exact ⟨h1, h2⟩
/-- What is met behind a row of words. -/
def visits (h : Hp) (src : List Nat) (l : List Int) : List Nat := l.foldl (visit h) src
theorem visits_snoc (h : Hp) (src : List Nat) (l : List Int) (z : Int) : visits h src (l ++ [z]) = visit h (visits h src l) z := by unfold visits; rw [List.foldl_append]; rfl
/-- What is met behind the first k blocks. -/
def scan (h : Hp) (s0 : List Nat) : Nat → List Nat
  | 0 => s0
  | k + 1 => match (scan h s0 k)[k]? with
    | some s => if (bl h s).1 = 201 then scan h s0 k else visits h (scan h s0 k) (bl h s).2
    | none => scan h s0 k
end Go.Proofs.YtphebogjmbaboaaDoor.IJ
