/- Nodes as they came in; patterns cut out of them, in new memory. -/
import Derived.Test.YtommaomhiaaphaaCW
import Derived.Deep.Slices
namespace Go.Proofs.Ytommaomhiaaphaa.DE
open Go.RowKit Go.Proofs.Ytommaomhiaaphaa.CA Go.Proofs.Ytommaomhiaaphaa.CB Go.Proofs.Ytommaomhiaaphaa.CC Go.Proofs.Ytommaomhiaaphaa.CD Go.Proofs.Ytommaomhiaaphaa.CE Go.Proofs.Ytommaomhiaaphaa.CF Go.Proofs.Ytommaomhiaaphaa.CG Go.Proofs.Ytommaomhiaaphaa.CH Go.Proofs.Ytommaomhiaaphaa.CK Go.Proofs.Ytommaomhiaaphaa.CI Go.Proofs.Ytommaomhiaaphaa.CO
set_option linter.unusedVariables false
set_option maxRecDepth 100000

/-! ## Blocks that are known whole -/
theorem lt_of_block {w : World} {b : Nat} {o : Obj} (h : w.heap[b]? = some o) : b < w.heap.size := (Array.getElem?_eq_some_iff.1 h).1
def Bk (w : World) (b : Nat) (c : Array Value) (t : TypeId) : Prop := w.heap[b]? = some (.cells c t (0, 0))
theorem Bk.lt {w : World} {b : Nat} {c : Array Value} {t : TypeId} (h : Bk w b c t) : b < w.heap.size := lt_of_block h
theorem Bk.new (w : World) (c : Array Value) (t : TypeId) : Bk (w.alloc (.cells c t)) w.heap.size c t := heap_alloc_new w _
theorem set_size (w : World) (a : Addr) (v : Value) : (w.setCell a v).heap.size = w.heap.size := by simp [World.setCell]
theorem Bk.grown {w w' : World} {b : Nat} {row : Option Nat} {c : Array Value} {t : TypeId} (h : Bk w b c t) (hg : w.grownBy w' row) (hn : row ≠ some b) : Bk w' b c t := (hg.block b h.lt (fun e => hn e.symm)).trans h
theorem Bk.alloc {w : World} {b : Nat} {c : Array Value} {t : TypeId} (h : Bk w b c t) (o : Obj) : Bk (w.alloc o) b c t := (Below.heap_alloc _ _ _ h.lt).trans h
theorem Bk.other {w : World} {b b' : Nat} {c : Array Value} {t : TypeId} (h : Bk w b c t) (hn : b ≠ b') (i : Nat) (v : Value) : Bk (w.setCell ⟨b', i, none⟩ v) b c t := (Below.heap_setCell _ _ _ _ hn).trans h
theorem Bk.set {w : World} {b : Nat} {c : Array Value} {t : TypeId} (h : Bk w b c t) (i : Nat) (v : Value) : Bk (w.setCell ⟨b, i, none⟩ v) b (c.set! i v) t := by
  have hlt := h.lt
  unfold Bk at h ⊢
  have h' : w.heap[b] = .cells c t (0, 0) := by simpa [Array.getElem?_eq_getElem hlt] using h
  show (w.heap.modify b _)[b]? = _
  rw [Array.getElem?_eq_getElem (by simpa using hlt), Array.getElem_modify_self, h']
  simp
theorem Bk.cell {w : World} {b : Nat} {c : Array Value} {t : TypeId} (h : Bk w b c t) (i : Nat) (v : Value) (hv : c[i]? = some v) : w.cell? ⟨b, i, none⟩ = some v := by
  unfold Bk at h; simp [World.cell?, h, hv]
theorem Bk.free {w : World} {b : Nat} {c : Array Value} {t : TypeId} (h : Bk w b c t) (i : Nat) : w.frozen? ⟨b, i, none⟩ = false := by
  unfold Bk at h; simp [World.frozen?, h]
theorem Bk.c4 {w : World} {b : Nat} {v0 v1 v2 v3 : Value} {t : TypeId} (h : Bk w b #[v0, v1, v2, v3] t) : w.cell? ⟨b, 0, none⟩ = some v0 ∧ w.cell? ⟨b, 1, none⟩ = some v1 ∧ w.cell? ⟨b, 2, none⟩ = some v2 ∧ w.cell? ⟨b, 3, none⟩ = some v3 :=
  ⟨h.cell 0 _ rfl, h.cell 1 _ rfl, h.cell 2 _ rfl, h.cell 3 _ rfl⟩
theorem Bk.c6 {w : World} {b : Nat} {v0 v1 v2 v3 v4 v5 : Value} {t : TypeId} (h : Bk w b #[v0, v1, v2, v3, v4, v5] t) : w.cell? ⟨b, 0, none⟩ = some v0 ∧ w.cell? ⟨b, 1, none⟩ = some v1 ∧ w.cell? ⟨b, 2, none⟩ = some v2 ∧ w.cell? ⟨b, 3, none⟩ = some v3 ∧ w.cell? ⟨b, 4, none⟩ = some v4 ∧ w.cell? ⟨b, 5, none⟩ = some v5 :=
  ⟨h.cell 0 _ rfl, h.cell 1 _ rfl, h.cell 2 _ rfl, h.cell 3 _ rfl, h.cell 4 _ rfl, h.cell 5 _ rfl⟩
theorem Bk.f4 {w : World} {b : Nat} {c : Array Value} {t : TypeId} (h : Bk w b c t) : w.frozen? ⟨b, 0, none⟩ = false ∧ w.frozen? ⟨b, 1, none⟩ = false ∧ w.frozen? ⟨b, 2, none⟩ = false ∧ w.frozen? ⟨b, 3, none⟩ = false :=
  ⟨h.free 0, h.free 1, h.free 2, h.free 3⟩
theorem Bk.f6 {w : World} {b : Nat} {c : Array Value} {t : TypeId} (h : Bk w b c t) : w.frozen? ⟨b, 0, none⟩ = false ∧ w.frozen? ⟨b, 1, none⟩ = false ∧ w.frozen? ⟨b, 2, none⟩ = false ∧ w.frozen? ⟨b, 3, none⟩ = false ∧ w.frozen? ⟨b, 4, none⟩ = false ∧ w.frozen? ⟨b, 5, none⟩ = false :=
  ⟨h.free 0, h.free 1, h.free 2, h.free 3, h.free 4, h.free 5⟩
theorem Bk.drew {w : World} {b : Nat} {c : Array Value} {t : TypeId} (h : Bk w b c t) : Bk w.drew b c t := h
theorem Bk.put6 {w : World} {b : Nat} {u0 u1 u2 u3 u4 u5 : Value} {t : TypeId} (h : Bk w b #[u0, u1, u2, u3, u4, u5] t) (v0 v1 v2 v3 v4 v5 : Value) :
    Bk ((((((w.setCell ⟨b, 0, none⟩ v0).setCell ⟨b, 1, none⟩ v1).setCell ⟨b, 2, none⟩ v2).setCell ⟨b, 3, none⟩ v3).setCell ⟨b, 4, none⟩ v4).setCell ⟨b, 5, none⟩ v5) b #[v0, v1, v2, v3, v4, v5] t := ((((((h.set 0 v0).set 1 v1).set 2 v2).set 3 v3).set 4 v4).set 5 v5)
theorem Bk.put6o {w : World} {b b' : Nat} {c : Array Value} {t : TypeId} (h : Bk w b c t) (hn : b ≠ b') (v0 v1 v2 v3 v4 v5 : Value) :
    Bk ((((((w.setCell ⟨b', 0, none⟩ v0).setCell ⟨b', 1, none⟩ v1).setCell ⟨b', 2, none⟩ v2).setCell ⟨b', 3, none⟩ v3).setCell ⟨b', 4, none⟩ v4).setCell ⟨b', 5, none⟩ v5) b c t := ((((((h.other hn 0 v0).other hn 1 v1).other hn 2 v2).other hn 3 v3).other hn 4 v4).other hn 5 v5)
theorem Bk.keep {w w' : World} {b : Nat} {c : Array Value} {t : TypeId} (h : Bk w b c t) (hb : Below w.heap.size w w') : Bk w' b c t := (hb.block b h.lt).trans h

/-! ## Nodes that the call owns, in the making -/
def OwnK (w : World) (B : Nat) (T : Nat → Prop) (v : Value) (L : List Nd) : Prop :=
  ∃ qs, w.ownsRow B 38 6 v L.length (nrow L qs) ∧ HasNs w (fun b => T b ∧ v.ownBlock ≠ some b) L qs
theorem OwnK.nil (w : World) (B : Nat) (T : Nat → Prop) : OwnK w B T (.slice none 0 0) [] := ⟨[], World.ownsRow_nil _ _ _ _, trivial⟩
theorem OwnK.keep {w w' : World} {B : Nat} {T : Nat → Prop} {v : Value} {L : List Nd} (h : OwnK w B T v L) (hb : Below w.heap.size w w') : OwnK w' B T v L := by
  obtain ⟨qs, h1, h2⟩ := h
  exact ⟨qs, own_below h1 hb (Nat.le_refl _), HasNs.keep hb _ _ h2⟩
theorem OwnK.row {w : World} {B : Nat} {T : Nat → Prop} {v : Value} {L : List Nd} (h : OwnK w B T v L) : RowN w (fun b => T b ∨ B ≤ b) v L := by
  obtain ⟨qs, h1, h2⟩ := h
  exact ⟨qs, (rw_own h1).mv (Mv.weak w fun b h _ => .inr h), HasNs.mv (Mv.weak w fun b h _ => .inl h.1) _ _ h2⟩
theorem OwnK.val {w : World} {B : Nat} {T : Nat → Prop} {v : Value} {L : List Nd} (h : OwnK w B T v L) : ∃ ao cap, v = .slice ao L.length cap := by
  obtain ⟨qs, h1, h2⟩ := h
  obtain ⟨ao, cap, e, _⟩ := rw_own h1
  exact ⟨ao, cap, e⟩
theorem OwnK.own {w : World} {B : Nat} {T : Nat → Prop} {v : Value} {L : List Nd} (h : OwnK w B T v L) {b : Nat} (hb : v.ownBlock = some b) : B ≤ b ∧ b < w.heap.size := by
  obtain ⟨qs, h1, h2⟩ := h
  exact h1.lt b hb
/-- A world that is another but for one block that is not in it. -/
theorem OwnK.other {w : World} {B b' : Nat} {T : Nat → Prop} {v : Value} {L : List Nd} (h : OwnK w B T v L) (hT : ∀ b, T b → b ≠ b') (hB : b' < B) (i : Nat) (x : Value) : OwnK (w.setCell ⟨b', i, none⟩ x) B T v L := by
  have hs : (w.setCell ⟨b', i, none⟩ x).heap.size = w.heap.size := by simp
  obtain ⟨qs, h1, h2⟩ := h
  refine ⟨qs, ?_, HasNs.mv ⟨by omega, fun b hb hlt => ⟨hb, Below.heap_setCell _ _ _ _ (hT b hb.1)⟩⟩ _ _ h2⟩
  refine ⟨h1.1, ?_⟩
  rcases h1.2 with h3 | ⟨g, cap, cur, hv, hg, hh, r⟩
  · exact .inl h3
  · exact .inr ⟨g, cap, cur, hv, hg, by rw [Below.heap_setCell _ _ _ _ (show g ≠ b' by omega)]; exact hh, r⟩
theorem OwnK.snoc {w w1 : World} {B g H cap : Nat} {T : Nat → Prop} {v : Value} {L : List Nd} {p : Nd} {q : Value} {qs : List Value} (h2 : HasNs w (fun b => T b ∧ v.ownBlock ≠ some b) L qs) (hn : HasN w (fun b => T b ∧ v.ownBlock ≠ some b) p q)
    (hown : w1.ownsRow B 38 6 (.slice (some ⟨g, 0, none⟩) (L.length + 1) cap) (L.length + 1) (nrow L qs ++ ncells p q)) (hg : w.grownBy w1 v.ownBlock) (hat : v.ownBlock = some g ∨ g = H) (hH : w.heap.size ≤ H) :
    OwnK w1 B T (.slice (some ⟨g, 0, none⟩) (L.length + 1) cap) (L ++ [p]) := by
  have hk : Mv w w1 (fun b => T b ∧ v.ownBlock ≠ some b) (fun b => T b ∧ (Value.slice (some ⟨g, 0, none⟩) (L.length + 1) cap).ownBlock ≠ some b) := ⟨hg.size, fun b hb hlt => ⟨⟨hb.1, fun e => by
    have e : g = b := Option.some.inj e
    rcases hat with hat | hat
    · exact hb.2 (by rw [hat, e])
    · omega⟩, hg.block b hlt (fun e => hb.2 e.symm)⟩⟩
  have e : nrow (L ++ [p]) (qs ++ [q]) = nrow L qs ++ ncells p q := by rw [nrow_app _ _ _ _ h2.len]; simp [nrow]
  refine ⟨qs ++ [q], by rw [List.length_append, e]; exact hown, HasNs.app (HasNs.mv hk _ _ h2) ⟨HasN.mv hk _ _ hn, trivial⟩⟩
theorem ncells_one {w : World} {S : Nat → Prop} {p : Nd} {q : Value} (h : HasN w S p q) : ∀ u ∈ ncells p q, u.oneCell' = true := by
  intro u hu
  simp only [ncells, List.mem_cons, List.not_mem_nil, or_false] at hu
  rcases hu with rfl | rfl | rfl | rfl | rfl | rfl
  · rfl
  · rfl
  · rfl
  · rfl
  · rfl
  · exact hasN_one h
/-- One node more, at the operation: in a plain region, and in one that draws. -/
theorem wpList_nodeK (w : World) {ops : Array Oper} {rest : List Oper} {o : Oper} {a : Act} {Q : Exit → Act → World → Prop} (hg : o.guard = none) (s x : Operand)
    (hop : o.op = Op.call { callee := Callee.builtin Builtin.append, args := #[s, x], argTypes := #[22, 22] })
    (B : Nat) (T : Nat → Prop) (v : Value) (L : List Nd) (p : Nd) (q : Value) (nb : Nat) (hs : a.eval s = v) (hx : a.eval x = .slice (some ⟨nb, 0, none⟩) 1 1)
    (hO : OwnK w B T v L) (hcell : ∀ (j : Nat) u, (ncells p q)[j]? = some u → w.cell? ⟨nb, 0 + j, none⟩ = some u) (hn : HasN w (fun b => T b ∧ v.ownBlock ≠ some b) p q) (hlen : L.length ≤ 10000) (hB : B ≤ w.heap.size)
    (hK : ∀ g cap w', OwnK w' B T (.slice (some ⟨g, 0, none⟩) (L.length + 1) cap) (L ++ [p]) → w.grownBy w' v.ownBlock → wpList Try.prog ops Q rest (a.put o.dst (.slice (some ⟨g, 0, none⟩) (L.length + 1) cap)) w') :
    wpList Try.prog ops Q (o :: rest) a w := by
  obtain ⟨i, hi, hz, hsz, hby⟩ := info_parts infoN
  obtain ⟨qs, hown, hrs⟩ := hO
  refine wpList_append_lies w hg s x 22 hop B 38 i _ 6 88 Try.underlying22 hi hz hsz hby rfl (by decide) v L.length (nrow L qs) hs hown ⟨nb, 0, none⟩ 1 1 (ncells p q) hx rfl (fun j u hj => by rw [Addr.add_lit]; exact hcell j u hj) (ncells_one hn) (by decide) (by unfold maxLen; omega) (by omega) hB _ rfl ?_
  intro g cap w' h1 h2 h3 h4
  exact hK g cap w' (OwnK.snoc hrs hn h1 h2 h3 (Nat.le_refl _)) h2
theorem step_nodeK (w : World) {ops : Array Oper} {o : Oper} {a : Act} {K : Act → World → Prop} {Q : Exit → Act → World → Prop} {E' : Prop} (hg : o.guard = none) (s x : Operand)
    (hop : o.op = Op.call { callee := Callee.builtin Builtin.append, args := #[s, x], argTypes := #[22, 22] })
    (B : Nat) (T : Nat → Prop) (v : Value) (L : List Nd) (p : Nd) (q : Value) (nb : Nat) (hs : a.eval s = v) (hx : a.eval x = .slice (some ⟨nb, 0, none⟩) 1 1)
    (hO : OwnK w B T v L) (hcell : ∀ (j : Nat) u, (ncells p q)[j]? = some u → w.cell? ⟨nb, 0 + j, none⟩ = some u) (hn : HasN w (fun b => T b ∧ v.ownBlock ≠ some b) p q) (hlen : L.length ≤ 10000) (hB : B ≤ w.heap.size)
    (hK : ∀ g cap w', OwnK w' B T (.slice (some ⟨g, 0, none⟩) (L.length + 1) cap) (L ++ [p]) → w.grownBy w' v.ownBlock → K (a.put o.dst (.slice (some ⟨g, 0, none⟩) (L.length + 1) cap)) w') :
    if Region.wanted o (yielded ops a.tmps) = true then Oper.wp Try.prog o a w K Q else E' := by
  obtain ⟨i, hi, hz, hsz, hby⟩ := info_parts infoN
  obtain ⟨qs, hown, hrs⟩ := hO
  refine step_append_lies w hg s x 22 hop B 38 i _ 6 88 Try.underlying22 hi hz hsz hby rfl (by decide) v L.length (nrow L qs) hs hown ⟨nb, 0, none⟩ 1 1 (ncells p q) hx rfl (fun j u hj => by rw [Addr.add_lit]; exact hcell j u hj) (ncells_one hn) (by decide) (by unfold maxLen; omega) (by omega) hB _ rfl ?_
  intro g cap w' h1 h2 h3 h4
  exact hK g cap w' (OwnK.snoc hrs hn h1 h2 h3 (Nat.le_refl _)) h2

/-! ## What came in -/
/-- A row of nodes that can be read so deep. -/
def ArgS (w : World) : Nat → Value → Prop
  | 0, _ => False
  | f + 1, v => ∃ ao len cap, v = .slice ao len cap ∧ len ≤ cap ∧ cap ≤ maxLen ∧ (len = 0 ∨ ∃ b off, ao = some ⟨b, off, none⟩ ∧ b < w.heap.size ∧ ∀ i, i < len → ∃ k a n m nv q, w.cell? ⟨b, off + i * 6, none⟩ = some (.int .i64 k) ∧ w.cell? ⟨b, off + i * 6 + 1, none⟩ = some (.string a) ∧ w.cell? ⟨b, off + i * 6 + 2, none⟩ = some (.int .i64 n) ∧
      w.cell? ⟨b, off + i * 6 + 3, none⟩ = some (.int .i64 m) ∧ w.cell? ⟨b, off + i * 6 + 4, none⟩ = some nv ∧ w.cell? ⟨b, off + i * 6 + 5, none⟩ = some q ∧ a.size ≤ maxLen ∧ (∃ x y z, nv = .slice x y z) ∧ ArgS w f q)
theorem ArgS.keep {w w' : World} (hb : Below w.heap.size w w') : ∀ (f : Nat) (v : Value), ArgS w f v → ArgS w' f v
  | 0, _, h => h
  | f + 1, v, h => by
    obtain ⟨ao, len, cap, hv, h1, h2, h3⟩ := h
    refine ⟨ao, len, cap, hv, h1, h2, ?_⟩
    rcases h3 with h3 | ⟨b, off, ha, hlt, h3⟩
    · exact .inl h3
    · refine .inr ⟨b, off, ha, Nat.lt_of_lt_of_le hlt hb.size, fun i hi => ?_⟩
      obtain ⟨k, a, n, m, nv, q, c0, c1, c2, c3, c4, c5, ha, hn, hq⟩ := h3 i hi
      exact ⟨k, a, n, m, nv, q, (hb.cell (p := ⟨b, off + i * 6, none⟩) hlt).trans c0, (hb.cell (p := ⟨b, off + i * 6 + 1, none⟩) hlt).trans c1, (hb.cell (p := ⟨b, off + i * 6 + 2, none⟩) hlt).trans c2, (hb.cell (p := ⟨b, off + i * 6 + 3, none⟩) hlt).trans c3, (hb.cell (p := ⟨b, off + i * 6 + 4, none⟩) hlt).trans c4, (hb.cell (p := ⟨b, off + i * 6 + 5, none⟩) hlt).trans c5, ha, hn, ArgS.keep hb f q hq⟩
end Go.Proofs.Ytommaomhiaaphaa.DE
