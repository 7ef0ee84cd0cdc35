/- Rows that fill a block that is known whole; a cell of a row is written; rows that are made; rows that become shorter. -/
import Derived.Test.YtphebogjmbaboaaDoorRG
import Derived.Laws.MakeOwn
import Derived.Deep.RegionLawGrows
namespace Go.Proofs.YtphebogjmbaboaaDoor.RB
open Go.RowKit Go.Proofs.YtphebogjmbaboaaDoor.RG
set_option linter.unusedVariables false
set_option maxRecDepth 100000
set_option maxRecDepth 100000
variable {P : Program} {S : Nat → Prop} {α : Type} {R : Ty P α}

/-! ## A cell of a thing of a row is written -/
theorem rowOf_set : ∀ (l : List α) (qs : List (List Value)) (i j : Nat) (p t : α) (q q' : List Value) (v : Value), (∀ (k : Nat) t' u, l[k]? = some t' → qs[k]? = some u → (R.enc t' u).length = R.size) → l[i]? = some t → qs[i]? = some q → R.enc p q' = (R.enc t q).set j v → j < R.size →
    rowOf R (l.set i p) (qs.set i q') = (rowOf R l qs).set (i * R.size + j) v
  | [], _, i, j, p, t, q, q', v, _, ht, _, _, _ => by simp at ht
  | _ :: _, [], i, j, p, t, q, q', v, _, _, hq, _, _ => by simp at hq
  | a :: l, b :: qs, 0, j, p, t, q, q', v, hl, ht, hq, he, hj => by
    simp at ht hq
    subst ht hq
    have := hl 0 _ _ rfl rfl
    show R.enc p q' ++ rowOf R l qs = (R.enc a b ++ rowOf R l qs).set (0 * R.size + j) v
    rw [he, Nat.zero_mul, Nat.zero_add, List.set_append_left _ _ (by omega)]
  | a :: l, b :: qs, i + 1, j, p, t, q, q', v, hl, ht, hq, he, hj => by
    have h0 := hl 0 _ _ rfl rfl
    have ih := rowOf_set l qs i j p t q q' v (fun k t' u h1 h2 => hl (k + 1) t' u h1 h2) (by simpa using ht) (by simpa using hq) he hj
    show R.enc a b ++ rowOf R (l.set i p) (qs.set i q') = (R.enc a b ++ rowOf R l qs).set ((i + 1) * R.size + j) v
    rw [ih, Nat.succ_mul, List.set_append_right _ _ (by omega)]
    congr 2
    omega
theorem Hs_at {w : World} : ∀ (l : List α) (qs : List (List Value)), Hs R w S l qs → ∀ (i : Nat) t, l[i]? = some t → ∃ q, qs[i]? = some q ∧ R.has w S t q
  | [], _, _, i, t, h => by simp at h
  | a :: l, [], h, i, t, _ => h.elim
  | a :: l, b :: qs, h, 0, t, ht => by simp at ht; subst ht; exact ⟨b, rfl, h.1⟩
  | a :: l, b :: qs, h, i + 1, t, ht => by
    obtain ⟨q, h1, h2⟩ := Hs_at l qs h.2 i t (by simpa using ht)
    exact ⟨q, by simpa using h1, h2⟩
theorem Hs_len {w : World} {l : List α} {qs : List (List Value)} (h : Hs R w S l qs) : ∀ (k : Nat) t' u, l[k]? = some t' → qs[k]? = some u → (R.enc t' u).length = R.size := fun k t' u h1 h2 => by
  obtain ⟨q, h3, h4⟩ := Hs_at l qs h k t' h1
  rw [h3] at h2; cases h2
  exact R.len h4
theorem Hs_set {w : World} : ∀ {l : List α} {qs : List (List Value)}, Hs R w S l qs → ∀ (i : Nat) (p : α) (q : List Value), R.has w S p q → Hs R w S (l.set i p) (qs.set i q)
  | [], [], _, i, p, q, _ => trivial
  | [], _ :: _, h, _, _, _, _ => h.elim
  | _ :: _, [], h, _, _, _, _ => h.elim
  | a :: l, b :: qs, h, 0, p, q, hp => ⟨hp, h.2⟩
  | a :: l, b :: qs, h, i + 1, p, q, hp => ⟨h.1, Hs_set h.2 i p q hp⟩
/-- A thing becomes another one by one cell. -/
def Turn (R : Ty P α) (w w' : World) (S : Nat → Prop) (t p : α) (j : Nat) (v : Value) : Prop := ∀ q, R.has w S t q → ∃ q', R.enc p q' = (R.enc t q).set j v ∧ R.has w' S p q'

/-! ## A row in a block -/
/-- A row at the begin of a block that is known whole. -/
def RowB (R : Ty P α) (w : World) (S : Nat → Prop) (b : Nat) (l : List α) : Prop := ∃ qs cur, Bk w b cur R.e ∧ cur.toList.take (l.length * R.size) = rowOf R l qs ∧ Hs R w S l qs
theorem RowB.lt {w : World} {b : Nat} {l : List α} (h : RowB R w S b l) : b < w.heap.size := by
  obtain ⟨qs, cur, h1, _⟩ := h
  exact h1.lt
theorem RowB.mv {w w' : World} {S' : Nat → Prop} {b : Nat} {l : List α} (h : RowB R w S b l) (hb : Mv w w' S S') (hx : w'.heap[b]? = w.heap[b]?) : RowB R w' S' b l := by
  obtain ⟨qs, cur, h1, h2, h3⟩ := h
  exact ⟨qs, cur, hx.trans h1, h2, Hs.mv hb _ _ h3⟩
theorem RowB.keep {w w' : World} {b : Nat} {l : List α} (h : RowB R w S b l) (hb : Below w.heap.size w w') : RowB R w' S b l := h.mv (Mv.low hb) (hb.block b h.lt)
theorem RowB.row {w : World} {b : Nat} {l : List α} (h : RowB R w S b l) (cap : Nat) (hc : l.length ≤ cap) : RowR R w S (.slice (some ⟨b, 0, none⟩) l.length cap) l := by
  obtain ⟨qs, cur, h1, h2, h3⟩ := h
  refine ⟨qs, ⟨_, cap, rfl, hc, .inr ⟨b, 0, rfl, ⟨trivial, h1.lt⟩, fun j u hj => ?_⟩⟩, h3⟩
  rw [cell_of_row w b (0 + j) cur R.e (0, 0) h1]
  rw [← h2, List.getElem?_take] at hj
  split at hj
  · simpa using hj
  · simp at hj
theorem RowB.at {w : World} {b : Nat} {l : List α} (h : RowB R w S b l) {i : Nat} {p : α} (hp : l[i]? = some p) : ∃ q, LiesR R w b (i * R.size) p q ∧ R.has w S p q := by
  obtain ⟨qs, cur, h1, h2, h3⟩ := h
  obtain ⟨q, h4, h5⟩ := rowOf_at l qs h3 i p hp
  refine ⟨q, fun k u hu => ?_, h4⟩
  have hj := h5 k u hu
  rw [cell_of_row w b _ cur R.e (0, 0) h1]
  rw [← h2, List.getElem?_take] at hj
  split at hj
  · simpa using hj
  · simp at hj
theorem RowB.free {w : World} {b : Nat} {l : List α} (h : RowB R w S b l) (i : Nat) : w.frozen? ⟨b, i, none⟩ = false := by
  obtain ⟨qs, cur, h1, _⟩ := h
  exact h1.free i
theorem lt_mul {i j n s : Nat} (hi : i < n) (hj : j < s) : i * s + j < n * s := by
  have : (i + 1) * s ≤ n * s := Nat.mul_le_mul_right s hi
  rw [Nat.succ_mul] at this
  omega
theorem mv_set {w : World} {b : Nat} (hS : ∀ x, S x → x ≠ b) (i : Nat) (v : Value) : Mv w (w.setCell ⟨b, i, none⟩ v) S S :=
  ⟨by simp, fun x hx _ => ⟨hx, Below.heap_setCell _ _ _ _ (hS x hx)⟩⟩
theorem RowB.set {w : World} {b : Nat} {l : List α} (h : RowB R w S b l) {i j : Nat} {t p : α} {v : Value} (ht : l[i]? = some t) (hS : ∀ x, S x → x ≠ b) (hj : j < R.size) (hc : Turn R w (w.setCell ⟨b, i * R.size + j, none⟩ v) S t p j v) : RowB R (w.setCell ⟨b, i * R.size + j, none⟩ v) S b (l.set i p) := by
  obtain ⟨qs, cur, h1, h2, h3⟩ := h
  obtain ⟨q, hq, hhas⟩ := Hs_at l qs h3 i t ht
  obtain ⟨q', he, hp⟩ := hc q hhas
  have hl := (List.getElem?_eq_some_iff.1 ht).1
  refine ⟨qs.set i q', cur.set! (i * R.size + j) v, h1.set _ _, ?_, Hs_set (Hs.mv (mv_set hS _ _) _ _ h3) i p q' hp⟩
  rw [rowOf_set l qs i j p t q q' v (Hs_len h3) ht hq he hj, List.length_set, ← h2]
  simp [Array.set!, List.take_set]
theorem RowB.other {w : World} {b b' : Nat} {l : List α} (h : RowB R w S b l) (hS : ∀ x, S x → x ≠ b') (hb : b ≠ b') (i : Nat) (v : Value) : RowB R (w.setCell ⟨b', i, none⟩ v) S b l :=
  h.mv (mv_set hS i v) (Below.heap_setCell _ _ _ _ hb)

/-! ## Rows that are made -/
theorem made_row (z : α) (l : List Value) (hl : l.length = R.size) (hz : R.z.cells.toList = l) : ∀ n : Nat, (madeCells R.z.cells (n * R.size)).toList = (List.replicate n l).flatten
  | 0 => by simp [madeCells]
  | n + 1 => by
    have ih := made_row z l hl hz n
    apply List.ext_getElem?
    intro k
    have hsz : R.z.cells.size = R.size := R.hzs
    have hpos := R.hsz
    have key : ∀ m : Nat, ∀ k : Nat, (madeCells R.z.cells m).toList[k]? = if k < m then some (R.z.cells[k % R.size]!) else none := by
      intro m k
      unfold madeCells
      simp only [Array.toList_map, Array.toList_range, List.getElem?_map, hsz]
      split
      · next h => simp [h]
      · next h => simp [h]
    rw [key]
    have hlen : ((List.replicate n l).flatten).length = n * R.size := by simp [hl]
    rw [List.replicate_succ', List.flatten_append, List.flatten_singleton, List.getElem?_append, hlen]
    by_cases h1 : k < n * R.size
    · rw [if_pos h1, ← ih, key, if_pos h1, if_pos (by rw [Nat.succ_mul]; omega)]
    · rw [if_neg h1]
      by_cases h2 : k < (n + 1) * R.size
      · rw [if_pos h2]
        rw [Nat.succ_mul] at h2
        have hm : k % R.size = k - n * R.size := by
          have e : k = (k - n * R.size) + n * R.size := by omega
          conv => lhs; rw [e]
          rw [Nat.add_mul_mod_self_right, Nat.mod_eq_of_lt (by omega)]
        have hk : k - n * R.size < R.z.cells.size := by omega
        rw [hm, ← hz, Array.getElem?_toList, Array.getElem?_eq_getElem hk, getElem!_pos R.z.cells _ hk]
      · rw [if_neg h2, List.getElem?_eq_none]
        rw [Nat.succ_mul] at h2
        omega
theorem rowOf_rep (z : α) (q l : List Value) (he : R.enc z q = l) : ∀ n : Nat, rowOf R (List.replicate n z) (List.replicate n q) = (List.replicate n l).flatten
  | 0 => rfl
  | n + 1 => by
    show R.enc z q ++ rowOf R (List.replicate n z) (List.replicate n q) = l ++ (List.replicate n l).flatten
    rw [he, rowOf_rep z q l he n]
theorem Hs_rep {w : World} (z : α) (q : List Value) (h : R.has w S z q) : ∀ n : Nat, Hs R w S (List.replicate n z) (List.replicate n q)
  | 0 => trivial
  | n + 1 => ⟨h, Hs_rep z q h n⟩
/-- A row of zero things. -/
theorem rowB_made (w : World) (z : α) (q : List Value) (he : R.enc z q = R.z.cells.toList) (hh : ∀ w', R.has w' S z q) (n : Nat) : RowB R (w.alloc (.cells (madeCells R.z.cells (n * R.size)) R.e)) S w.heap.size (List.replicate n z) := by
  refine ⟨List.replicate n q, _, Bk.new w _ _, ?_, Hs_rep z q (hh _) n⟩
  have hl : (R.enc z q).length = R.size := R.len (hh w)
  rw [rowOf_rep z q _ he n, made_row z _ (by rw [← he]; exact hl) rfl n, List.length_replicate, List.take_of_length_le]
  have : (R.z.cells.toList).length = R.size := by rw [← he]; exact hl
  simp [this]
/-- 'make([]T, n)'. -/
theorem run_made (R : Ty P α) (kl kc : IntKind) (n : Nat) (hn : n ≤ 1000000000) (w : World) :
    (Instr.makeSlice R.t (.int kl (n : Int)) (.int kc (n : Int))).run P w = .ok (.slice (some ⟨w.heap.size, 0, none⟩) n n) (w.alloc (.cells (madeCells R.z.cells (n * R.size)) R.e)) := by
  obtain ⟨i, hi, hz, hs, hb⟩ := info_parts R.info
  have h1 : i.bytes * n ≤ 1000 * 1000000000 := Nat.mul_le_mul (by rw [hb]; exact R.hby) hn
  have hb' : (i.bytes : Int) * (n : Int) ≤ 281474976710656 := by
    have h : ((i.bytes * n : Nat) : Int) ≤ 281474976710656 := by omega
    rwa [Int.natCast_mul] at h
  have hr := run_make (P := P) w R.t R.e i R.z R.ht hi hz kl kc n n (by omega) (Int.le_refl _) hb' (by omega)
  simp only [Int.toNat_natCast, hs] at hr
  exact hr

/-! ## Rows of the call's own -/
theorem rowOf_take : ∀ (l : List α) (qs : List (List Value)) (n : Nat), (∀ (k : Nat) t' u, l[k]? = some t' → qs[k]? = some u → (R.enc t' u).length = R.size) → rowOf R (l.take n) (qs.take n) = (rowOf R l qs).take (n * R.size)
  | [], qs, n, _ => by simp [rowOf]
  | _ :: _, [], n, _ => by cases n <;> simp [rowOf]
  | a :: l, b :: qs, 0, _ => by simp [rowOf]
  | a :: l, b :: qs, n + 1, h => by
    have h0 := h 0 _ _ rfl rfl
    show R.enc a b ++ rowOf R (l.take n) (qs.take n) = (R.enc a b ++ rowOf R l qs).take ((n + 1) * R.size)
    rw [rowOf_take l qs n (fun k t' u h1 h2 => h (k + 1) t' u h1 h2), Nat.succ_mul, List.take_append, List.take_of_length_le (l := R.enc a b) (by omega), show n * R.size + R.size - (R.enc a b).length = n * R.size by omega]
theorem Hs_take {w : World} : ∀ {l : List α} {qs : List (List Value)} (n : Nat), Hs R w S l qs → Hs R w S (l.take n) (qs.take n)
  | [], [], n, _ => by simp [Hs]
  | [], _ :: _, _, h => h.elim
  | _ :: _, [], _, h => h.elim
  | a :: l, b :: qs, 0, h => trivial
  | a :: l, b :: qs, n + 1, h => ⟨h.1, Hs_take n h.2⟩
/-- A row that is cut shorter in its place. -/
theorem own_short {w : World} {B : Nat} {T : Nat → Prop} {ao : Option Addr} {n cap m : Nat} {L : List α} (h : OwnR R w B T (.slice ao n cap) L) (hm : m ≤ L.length) (h0 : 0 < L.length) : OwnR R w B T (.slice ao m cap) (L.take m) := by
  obtain ⟨qs, ⟨h1, h2⟩, h3⟩ := h
  rcases h2 with ⟨_, h2⟩ | ⟨g, cap', cur, hv, hg, hh, hn, hcm, hcs, ht⟩
  · omega
  · cases hv
    refine ⟨qs.take m, ⟨?_, .inr ⟨g, cap, cur, by rw [List.length_take, Nat.min_eq_left hm], hg, hh, by rw [List.length_take]; omega, hcm, hcs, ?_⟩⟩, Hs.mv (Mv.weak _ fun b hb _ => hb) _ _ (Hs_take m h3)⟩
    · rw [rowOf_take _ _ _ (Hs_len h3), List.length_take, h1, List.length_take, Nat.min_eq_left hm, Nat.min_eq_left (Nat.mul_le_mul_right _ hm)]
    · rw [rowOf_take _ _ _ (Hs_len h3), ← ht, List.take_take, List.length_take, Nat.min_eq_left hm, Nat.min_eq_left (Nat.mul_le_mul_right _ hm)]
/-- A cell of a thing of a row of the call's own is written. -/
theorem own_set {w : World} {B g n cap : Nat} {T : Nat → Prop} {l : List α} (h : OwnR R w B T (.slice (some ⟨g, 0, none⟩) n cap) l) {i j : Nat} {t p : α} {v : Value} (ht : l[i]? = some t) (hj : j < R.size) (hc : Turn R w (w.setCell ⟨g, i * R.size + j, none⟩ v) (fun b => T b ∧ (Value.slice (some ⟨g, 0, none⟩) n cap).ownBlock ≠ some b) t p j v) :
    OwnR R (w.setCell ⟨g, i * R.size + j, none⟩ v) B T (.slice (some ⟨g, 0, none⟩) n cap) (l.set i p) := by
  obtain ⟨qs, ⟨h1, h2⟩, h3⟩ := h
  obtain ⟨q, hq, hhas⟩ := Hs_at l qs h3 i t ht
  obtain ⟨q', he, hp⟩ := hc q hhas
  have hl := (List.getElem?_eq_some_iff.1 ht).1
  rcases h2 with ⟨h2, _⟩ | ⟨g', cap', cur, hv, hg, hh, hn, hcm, hcs, htk⟩
  · cases h2
  · have hS : ∀ x, (T x ∧ (Value.slice (some ⟨g, 0, none⟩) n cap).ownBlock ≠ some x) → x ≠ g := fun x hx e => hx.2 (by rw [e]; rfl)
    cases hv
    have hb : Bk w g cur R.e := hh
    refine ⟨qs.set i q', ⟨?_, .inr ⟨g, cap, cur.set! (i * R.size + j) v, by rw [List.length_set], hg, hb.set _ _, by rw [List.length_set]; exact hn, hcm, by simpa using hcs, ?_⟩⟩, Hs_set (Hs.mv (mv_set hS _ _) _ _ h3) i p q' hp⟩
    · rw [rowOf_set l qs i j p t q q' v (Hs_len h3) ht hq he hj, List.length_set, List.length_set]; exact h1
    · rw [rowOf_set l qs i j p t q q' v (Hs_len h3) ht hq he hj, List.length_set, ← htk]
      simp [Array.set!, List.take_set]
/-! ## Appends to a row that has no room -/
theorem full_facts {w : World} {ao : Option Addr} {n : Nat} {l : List α} (h : RowR R w S (.slice ao n n) l) : ∃ olds, n = l.length ∧ olds.length = n * R.size ∧ (∀ b, ao = some b → ∀ j u, olds[j]? = some u → w.cell? (b.add j) = some u) ∧ ∃ qs, olds = rowOf R l qs ∧ Hs R w S l qs := by
  obtain ⟨qs, ⟨ao', cap', hv, hc, hr⟩, hq⟩ := h
  cases hv
  refine ⟨rowOf R l qs, rfl, rowOf_len l qs hq, fun b hb j u hj => ?_, qs, rfl, hq⟩
  rcases hr with hr | ⟨b', off, hb', _, hcell⟩
  · have : l = [] := List.eq_nil_of_length_eq_zero hr
    subst this
    simp [rowOf] at hj
  · rw [hb] at hb'
    cases hb'
    rw [Addr.add_lit]
    exact hcell j u hj
theorem step_full (R : Ty P α) (hflat : ∀ w w' S S' a q, R.has w S a q → R.has w' S' a q) (w : World) {ops : Array Oper} {o : Oper} {a : Act} {K : Act → World → Prop} {Q : Exit → Act → World → Prop} {E' : Prop} (hg : o.guard = none) (s x : Operand)
    (hop : o.op = Op.call { callee := Callee.builtin Builtin.append, args := #[s, x], argTypes := #[R.t, R.t] })
    (ao : Option Addr) (n : Nat) (xv : Value) (L l2 : List α) {S2 : Nat → Prop} (hs : a.eval s = .slice ao n n) (hx : a.eval x = xv)
    (h : RowR R w S (.slice ao n n) L) (h2 : RowR R w S2 xv l2) (h0 : l2 ≠ []) (hn : L.length + l2.length ≤ 100000000000)
    (hK : ∀ ao' n' cap' w', OwnR R w' w.heap.size (fun _ => False) (.slice ao' n' cap') (L ++ l2) → n' = L.length + l2.length → w.grownBy w' none → K (a.put o.dst (.slice ao' n' cap')) w') :
    if Region.wanted o (yielded ops a.tmps) = true then Oper.wp P o a w K Q else E' := by
  obtain ⟨i, hi, hz, hsz, hby⟩ := info_parts R.info
  obtain ⟨olds, hnl, hlo, holds, qs, hol, hq⟩ := full_facts h
  obtain ⟨qs2, ⟨ao2, cap2, rfl, hc2, hr2⟩, hq2⟩ := h2
  have hpos : 0 < l2.length := List.length_pos_iff.2 h0
  obtain ⟨b2, off2, rfl, _, hcell2⟩ := hr2.resolve_left (by omega)
  refine step_append_grows (P := P) hg s x R.t hop R.e i R.z R.size R.bytes R.ht hi hz hsz hby R.hzs R.hsz ao n n olds hs (fun e => ?_) hlo holds ⟨b2, off2, none⟩ l2.length cap2 (rowOf R l2 qs2) hx (rowOf_len l2 qs2 hq2) (fun j u hj => by rw [Addr.add_lit]; exact hcell2 j u hj) (rowOf_one hq2) (by omega) (by unfold maxLen; omega) (Nat.le_trans (Nat.mul_le_mul (by omega : n + l2.length ≤ 100000000000) R.hby) (by decide)) (fun v' w' ho hgr => ?_)
  · obtain ⟨qs', ⟨ao', cap', hv, hc, hr⟩, hq'⟩ := h
    cases hv
    subst e
    rcases hr with hr | ⟨b, off, hb, _⟩
    · rw [hr]; exact ⟨rfl, rfl⟩
    · cases hb
  · have hOW : OwnR R w' w.heap.size (fun _ => False) v' (L ++ l2) := ?_
    · obtain ⟨ao', cap', hv, _⟩ := hOW.val
      subst hv
      exact hK _ _ _ w' hOW (by simp) hgr
    have fl : ∀ (L : List α) (qs : List (List Value)) (S : Nat → Prop), Hs R w S L qs → Hs R w' (fun b => False ∧ v'.ownBlock ≠ some b) L qs := by
      intro L
      induction L with
      | nil => intro qs S h; cases qs with
        | nil => trivial
        | cons a b => exact h.elim
      | cons p L ih => intro qs S h; cases qs with
        | nil => exact h.elim
        | cons q qs => exact ⟨hflat _ _ _ _ _ _ h.1, ih qs S h.2⟩
    refine ⟨qs ++ qs2, ?_, Hs.app (fl _ _ _ hq) (fl _ _ _ hq2)⟩
    rw [List.length_append, rowOf_app _ _ _ _ hq.len, ← hol, ← hnl]
    exact ho
end Go.Proofs.YtphebogjmbaboaaDoor.RB
