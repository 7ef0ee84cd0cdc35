/- Nodes and rows of nodes in memory; the small functions. -/
import Derived.Test.YtommaomhiaaphaaChecked
import Derived.Test.YtommaomhiaaphaaCC
import Derived.WalkKit
import Derived.WalkSpells
import Derived.WalkSmall
import Derived.Deep.AppendLies
import Derived.Deep.LoopGhost
import Derived.Deep.QuietTactic
import Derived.BigQuiet
import Derived.Deep.RegionHeld3
import Derived.Deep.RegionLaw
import Derived.Deep.Cut
namespace Go.Proofs.Ytommaomhiaaphaa.CD
open Go.RowKit Go.Proofs.Ytommaomhiaaphaa.CA Go.Proofs.Ytommaomhiaaphaa.CB Go.Proofs.Ytommaomhiaaphaa.CC
set_option linter.unusedVariables false
set_option maxRecDepth 100000
variable {S : Nat → Prop}

def ncells (p : Nd) (q : Value) : List Value := [.int .i64 p.k, .string ⟨p.s.toArray⟩, .int .i64 p.n, .int .i64 0, .slice none 0 0, q]
def nrow : List Nd → List Value → List Value
  | p :: ps, q :: qs => ncells p q ++ nrow ps qs
  | _, _ => []
/-- A row of n things that lies somewhere. -/
def Rw (w : World) (S : Nat → Prop) (v : Value) (n : Nat) (xs : List Value) : Prop :=
  ∃ ao cap, v = .slice ao n cap ∧ n ≤ cap ∧ (n = 0 ∨ ∃ b off, ao = some ⟨b, off, none⟩ ∧ (S b ∧ b < w.heap.size) ∧ ∀ (j : Nat) u, xs[j]? = some u → w.cell? ⟨b, off + j, none⟩ = some u)
mutual
def HasN (w : World) (S : Nat → Prop) : Nd → Value → Prop
  | .mk _ _ _ l, v => ∃ qs, Rw w S v l.length (nrow l qs) ∧ HasNs w S l qs
def HasNs (w : World) (S : Nat → Prop) : List Nd → List Value → Prop
  | [], [] => True
  | t :: ts, q :: qs => HasN w S t q ∧ HasNs w S ts qs
  | _, _ => False
end
/-- A row of nodes. -/
def RowN (w : World) (S : Nat → Prop) (v : Value) (l : List Nd) : Prop := ∃ qs, Rw w S v l.length (nrow l qs) ∧ HasNs w S l qs
theorem hasN_row {w : World} {p : Nd} {v : Value} : HasN w S p v ↔ RowN w S v p.kids := by obtain ⟨k, n, s, l⟩ := p; rfl
/-- Rows of rows. -/
def HasRs (w : World) (S : Nat → Prop) : List (List Nd) → List Value → Prop
  | [], [] => True
  | t :: ts, q :: qs => RowN w S q t ∧ HasRs w S ts qs
  | _, _ => False
def RowsN (w : World) (S : Nat → Prop) (v : Value) (l : List (List Nd)) : Prop := ∃ qs, Rw w S v l.length qs ∧ HasRs w S l qs

/-- From one world to another, from one set of blocks to another. -/
def Mv (w w' : World) (S S' : Nat → Prop) : Prop := w.heap.size ≤ w'.heap.size ∧ ∀ b, S b → b < w.heap.size → S' b ∧ w'.heap[b]? = w.heap[b]?
theorem Mv.low {w w' : World} (hb : Below w.heap.size w w') : Mv w w' S S := ⟨hb.size, fun b hS hlt => ⟨hS, hb.block b hlt⟩⟩
theorem Mv.weak (w : World) {S' : Nat → Prop} (h : ∀ b, S b → b < w.heap.size → S' b) : Mv w w S S' := ⟨Nat.le_refl _, fun b hS hlt => ⟨h b hS hlt, rfl⟩⟩
theorem Mv.trans {a b c : World} {S S' S'' : Nat → Prop} (h : Mv a b S S') (k : Mv b c S' S'') : Mv a c S S'' := ⟨Nat.le_trans h.1 k.1, fun x hx hlt => by
  have h1 := h.2 x hx hlt
  have h2 := k.2 x h1.1 (Nat.lt_of_lt_of_le hlt h.1)
  exact ⟨h2.1, h2.2.trans h1.2⟩⟩
theorem Rw.mv {w w' : World} {S' : Nat → Prop} {v : Value} {n : Nat} {xs : List Value} (hb : Mv w w' S S') (h : Rw w S v n xs) : Rw w' S' v n xs := by
  obtain ⟨ao, cap, hv, hc, h⟩ := h
  refine ⟨ao, cap, hv, hc, ?_⟩
  rcases h with h | ⟨b, off, ha, ⟨hS, hlt⟩, hcell⟩
  · exact .inl h
  · have := hb.2 b hS hlt
    exact .inr ⟨b, off, ha, ⟨this.1, Nat.lt_of_lt_of_le hlt hb.1⟩, fun j u hj => (World.cell?_of_block (w := w) (a := ⟨b, off + j, none⟩) this.2).trans (hcell j u hj)⟩
theorem Rw.keep {w w' : World} {v : Value} {n : Nat} {xs : List Value} (hb : Below w.heap.size w w') (h : Rw w S v n xs) : Rw w' S v n xs := h.mv (Mv.low hb)
mutual
theorem HasN.mv {w w' : World} {S' : Nat → Prop} (hb : Mv w w' S S') : ∀ (t : Nd) (q : Value), HasN w S t q → HasN w' S' t q
  | .mk _ _ _ l, q, h => by
    obtain ⟨qs, h2, h3⟩ := h
    exact ⟨qs, h2.mv hb, HasNs.mv hb l qs h3⟩
theorem HasNs.mv {w w' : World} {S' : Nat → Prop} (hb : Mv w w' S S') : ∀ (ts : List Nd) (qs : List Value), HasNs w S ts qs → HasNs w' S' ts qs
  | [], [], _ => trivial
  | t :: ts, q :: qs, h => ⟨HasN.mv hb t q h.1, HasNs.mv hb ts qs h.2⟩
  | [], _ :: _, h => h
  | _ :: _, [], h => h
end
theorem RowN.mv {w w' : World} {S' : Nat → Prop} {v : Value} {l : List Nd} (h : RowN w S v l) (hb : Mv w w' S S') : RowN w' S' v l := by
  obtain ⟨qs, h2, h3⟩ := h
  exact ⟨qs, h2.mv hb, HasNs.mv hb l qs h3⟩
theorem HasRs.mv {w w' : World} {S' : Nat → Prop} (hb : Mv w w' S S') : ∀ (ts : List (List Nd)) (qs : List Value), HasRs w S ts qs → HasRs w' S' ts qs
  | [], [], _ => trivial
  | t :: ts, q :: qs, h => ⟨RowN.mv h.1 hb, HasRs.mv hb ts qs h.2⟩
  | [], _ :: _, h => h
  | _ :: _, [], h => h
theorem RowsN.mv {w w' : World} {S' : Nat → Prop} {v : Value} {l : List (List Nd)} (h : RowsN w S v l) (hb : Mv w w' S S') : RowsN w' S' v l := by
  obtain ⟨qs, h2, h3⟩ := h
  exact ⟨qs, h2.mv hb, HasRs.mv hb l qs h3⟩
theorem HasN.keep {w w' : World} (hb : Below w.heap.size w w') (t : Nd) (q : Value) (h : HasN w S t q) : HasN w' S t q := HasN.mv (Mv.low hb) t q h
theorem HasNs.keep {w w' : World} (hb : Below w.heap.size w w') (ts : List Nd) (qs : List Value) (h : HasNs w S ts qs) : HasNs w' S ts qs := HasNs.mv (Mv.low hb) ts qs h
theorem RowN.keep {w w' : World} {v : Value} {l : List Nd} (h : RowN w S v l) (hb : Below w.heap.size w w') : RowN w' S v l := h.mv (Mv.low hb)
theorem HasRs.keep {w w' : World} (hb : Below w.heap.size w w') (ts : List (List Nd)) (qs : List Value) (h : HasRs w S ts qs) : HasRs w' S ts qs := HasRs.mv (Mv.low hb) ts qs h
theorem RowsN.keep {w w' : World} {v : Value} {l : List (List Nd)} (h : RowsN w S v l) (hb : Below w.heap.size w w') : RowsN w' S v l := h.mv (Mv.low hb)
/-- The old blocks, and new ones. -/
def Nw (w : World) (S : Nat → Prop) : Nat → Prop := fun b => S b ∨ w.heap.size ≤ b
theorem HasNs.len {w : World} : ∀ {ts : List Nd} {qs : List Value}, HasNs w S ts qs → qs.length = ts.length
  | [], [], _ => rfl
  | t :: ts, q :: qs, h => by simp [HasNs.len h.2]
  | [], _ :: _, h => h.elim
  | _ :: _, [], h => h.elim
theorem HasRs.len {w : World} : ∀ {ts : List (List Nd)} {qs : List Value}, HasRs w S ts qs → qs.length = ts.length
  | [], [], _ => rfl
  | t :: ts, q :: qs, h => by simp [HasRs.len h.2]
  | [], _ :: _, h => h.elim
  | _ :: _, [], h => h.elim
theorem nrow_len : ∀ (ts : List Nd) (qs : List Value), qs.length = ts.length → (nrow ts qs).length = ts.length * 6
  | [], [], _ => rfl
  | t :: ts, q :: qs, h => by
    show (ncells t q ++ nrow ts qs).length = _
    rw [List.length_append, nrow_len ts qs (by simpa using h)]
    simp [ncells]; omega
  | [], _ :: _, h => by simp at h
  | _ :: _, [], h => by simp at h
theorem nrow_app : ∀ (ts us : List Nd) (qs rs : List Value), qs.length = ts.length → nrow (ts ++ us) (qs ++ rs) = nrow ts qs ++ nrow us rs
  | [], us, [], rs, _ => rfl
  | t :: ts, us, q :: qs, rs, h => by
    show ncells t q ++ nrow (ts ++ us) (qs ++ rs) = (ncells t q ++ nrow ts qs) ++ nrow us rs
    rw [nrow_app ts us qs rs (by simpa using h), List.append_assoc]
  | [], _, _ :: _, _, h => by simp at h
  | _ :: _, _, [], _, h => by simp at h
theorem HasNs.app {w : World} : ∀ {ts us : List Nd} {qs rs : List Value}, HasNs w S ts qs → HasNs w S us rs → HasNs w S (ts ++ us) (qs ++ rs)
  | [], us, [], rs, _, h => h
  | t :: ts, us, q :: qs, rs, h1, h2 => ⟨h1.1, HasNs.app h1.2 h2⟩
  | [], _, _ :: _, _, h, _ => h.elim
  | _ :: _, _, [], _, h, _ => h.elim
theorem HasRs.app {w : World} : ∀ {ts us : List (List Nd)} {qs rs : List Value}, HasRs w S ts qs → HasRs w S us rs → HasRs w S (ts ++ us) (qs ++ rs)
  | [], us, [], rs, _, h => h
  | t :: ts, us, q :: qs, rs, h1, h2 => ⟨h1.1, HasRs.app h1.2 h2⟩
  | [], _, _ :: _, _, h, _ => h.elim
  | _ :: _, _, [], _, h, _ => h.elim
/-- A node of a row: its six cells, and what lies below it. -/
theorem nrow_at : ∀ (ts : List Nd) (qs : List Value), qs.length = ts.length → ∀ (i : Nat) p, ts[i]? = some p → ∃ q, qs[i]? = some q ∧ ∀ (k : Nat) u, (ncells p q)[k]? = some u → (nrow ts qs)[i * 6 + k]? = some u
  | t :: ts, q :: qs, h, 0, p, hp => by
    simp at hp; subst hp
    refine ⟨q, rfl, fun k u hu => ?_⟩
    show (ncells t q ++ nrow ts qs)[0 * 6 + k]? = some u
    rw [Nat.zero_mul, Nat.zero_add, List.getElem?_append_left (List.getElem?_eq_some_iff.1 hu).1]
    exact hu
  | t :: ts, q :: qs, h, i + 1, p, hp => by
    obtain ⟨q', h1, h2⟩ := nrow_at ts qs (by simpa using h) i p (by simpa using hp)
    refine ⟨q', by simpa using h1, fun k u hu => ?_⟩
    show (ncells t q ++ nrow ts qs)[(i + 1) * 6 + k]? = some u
    rw [List.getElem?_append_right (by simp [ncells]; omega), show (i + 1) * 6 + k - (ncells t q).length = i * 6 + k from by simp [ncells]; omega]
    exact h2 k u hu
  | [], _, _, _, _, hp => by simp at hp
  | _ :: _, [], h, _, _, _ => by simp at h
theorem HasNs.at_ {w : World} : ∀ {ts : List Nd} {qs : List Value}, HasNs w S ts qs → ∀ (i : Nat) p q, ts[i]? = some p → qs[i]? = some q → HasN w S p q
  | t :: ts, q :: qs, h, 0, p, q', h1, h2 => by simp at h1 h2; subst h1; subst h2; exact h.1
  | t :: ts, q :: qs, h, i + 1, p, q', h1, h2 => HasNs.at_ h.2 i p q' (by simpa using h1) (by simpa using h2)
  | [], [], _, _, _, _, h1, _ => by simp at h1
  | [], _ :: _, h, _, _, _, _, _ => h.elim
  | _ :: _, [], h, _, _, _, _, _ => h.elim
theorem HasRs.at_ {w : World} : ∀ {ts : List (List Nd)} {qs : List Value}, HasRs w S ts qs → ∀ (i : Nat) p, ts[i]? = some p → ∃ q, qs[i]? = some q ∧ RowN w S q p
  | t :: ts, q :: qs, h, 0, p, h1 => by simp at h1; subst h1; exact ⟨q, rfl, h.1⟩
  | t :: ts, q :: qs, h, i + 1, p, h1 => by
    obtain ⟨q', h2, h3⟩ := HasRs.at_ h.2 i p (by simpa using h1)
    exact ⟨q', by simpa using h2, h3⟩
  | [], [], _, _, _, h1 => by simp at h1
  | [], _ :: _, h, _, _, _ => h.elim
  | _ :: _, [], h, _, _, _ => h.elim
/-- The cells of a row's node. -/
def Lies (w : World) (b o : Nat) (p : Nd) (q : Value) : Prop :=
  w.cell? ⟨b, o, none⟩ = some (.int .i64 p.k) ∧ w.cell? ⟨b, o + 1, none⟩ = some (.string ⟨p.s.toArray⟩) ∧ w.cell? ⟨b, o + 2, none⟩ = some (.int .i64 p.n) ∧ w.cell? ⟨b, o + 3, none⟩ = some (.int .i64 0) ∧ w.cell? ⟨b, o + 4, none⟩ = some (.slice none 0 0) ∧ w.cell? ⟨b, o + 5, none⟩ = some q
theorem lies_at {w : World} {b off : Nat} {ts : List Nd} {qs : List Value} (hc : ∀ (j : Nat) u, (nrow ts qs)[j]? = some u → w.cell? ⟨b, off + j, none⟩ = some u) (hq : HasNs w S ts qs) (i : Nat) (p : Nd) (hp : ts[i]? = some p) : ∃ q, Lies w b (off + i * 6) p q ∧ HasN w S p q := by
  obtain ⟨q, h1, h2⟩ := nrow_at ts qs hq.len i p hp
  have hk : ∀ (k : Nat) u, (ncells p q)[k]? = some u → w.cell? ⟨b, off + i * 6 + k, none⟩ = some u := fun k u hu => by
    have := hc _ _ (h2 k u hu)
    rw [Nat.add_assoc]; exact this
  exact ⟨q, ⟨hk 0 _ rfl, hk 1 _ rfl, hk 2 _ rfl, hk 3 _ rfl, hk 4 _ rfl, hk 5 _ rfl⟩, hq.at_ i p q hp h1⟩
/-- A row that has something: where it lies, and each of its nodes. -/
theorem RowN.open_ {w : World} {v : Value} {l : List Nd} (h : RowN w S v l) (h0 : l ≠ []) : ∃ b off cap, v = .slice (some ⟨b, off, none⟩) l.length cap ∧ l.length ≤ cap ∧ b < w.heap.size ∧ ∀ (i : Nat) p, l[i]? = some p → ∃ q, Lies w b (off + i * 6) p q ∧ HasN w S p q := by
  obtain ⟨qs, ⟨ao, cap, rfl, hc, hr⟩, hq⟩ := h
  rcases hr with hr | ⟨b, off, rfl, ⟨hS, hlt⟩, hcell⟩
  · exact absurd (List.eq_nil_of_length_eq_zero hr) h0
  · exact ⟨b, off, cap, rfl, hc, hlt, lies_at hcell hq⟩
theorem RowN.val {w : World} {v : Value} {l : List Nd} (h : RowN w S v l) : ∃ ao cap, v = .slice ao l.length cap ∧ l.length ≤ cap := by
  obtain ⟨qs, ⟨ao, cap, rfl, hc, hr⟩, hq⟩ := h
  exact ⟨ao, cap, rfl, hc⟩
theorem RowsN.open_ {w : World} {v : Value} {l : List (List Nd)} (h : RowsN w S v l) (h0 : l ≠ []) : ∃ b off cap, v = .slice (some ⟨b, off, none⟩) l.length cap ∧ l.length ≤ cap ∧ b < w.heap.size ∧ ∀ (i : Nat) p, l[i]? = some p → ∃ q, w.cell? ⟨b, off + i, none⟩ = some q ∧ RowN w S q p := by
  obtain ⟨qs, ⟨ao, cap, rfl, hc, hr⟩, hq⟩ := h
  rcases hr with hr | ⟨b, off, rfl, ⟨hS, hlt⟩, hcell⟩
  · exact absurd (List.eq_nil_of_length_eq_zero hr) h0
  · refine ⟨b, off, cap, rfl, hc, hlt, fun i p hp => ?_⟩
    obtain ⟨q, h1, h2⟩ := hq.at_ i p hp
    exact ⟨q, hcell i q h1, h2⟩
theorem RowsN.val {w : World} {v : Value} {l : List (List Nd)} (h : RowsN w S v l) : ∃ ao cap, v = .slice ao l.length cap ∧ l.length ≤ cap := by
  obtain ⟨qs, ⟨ao, cap, rfl, hc, hr⟩, hq⟩ := h
  exact ⟨ao, cap, rfl, hc⟩
theorem Lies.keep {w w' : World} {b o B : Nat} {p : Nd} {q : Value} (h : Lies w b o p q) (hb : Below B w w') (hB : b < B) : Lies w' b o p q := by
  obtain ⟨h0, h1, h2, h3, h4, h5⟩ := h
  exact ⟨(hb.cell (p := ⟨b, o, none⟩) hB).trans h0, (hb.cell (p := ⟨b, o + 1, none⟩) hB).trans h1, (hb.cell (p := ⟨b, o + 2, none⟩) hB).trans h2, (hb.cell (p := ⟨b, o + 3, none⟩) hB).trans h3, (hb.cell (p := ⟨b, o + 4, none⟩) hB).trans h4, (hb.cell (p := ⟨b, o + 5, none⟩) hB).trans h5⟩
theorem bnext {w a b : World} (h : Below w.heap.size w a) (k : Below a.heap.size a b) : Below w.heap.size w b := h.trans (k.mono h.size)
theorem bcell {W w1 : World} (hb : Below W.heap.size W w1) : (∀ b o, b < W.heap.size → w1.cell? ⟨b, o, none⟩ = W.cell? ⟨b, o, none⟩) ∧ (∀ b o, b < W.heap.size → w1.frozen? ⟨b, o, none⟩ = W.frozen? ⟨b, o, none⟩) :=
  ⟨fun b o h => hb.cell (p := ⟨b, o, none⟩) h, fun b o h => hb.frozen (p := ⟨b, o, none⟩) h⟩
theorem b1 {w w1 : World} {a : Obj} (h : Below (w.alloc a).heap.size (w.alloc a) w1) : Below w.heap.size w w1 := ((Below.refl _ _).alloc (Nat.le_refl _) _).trans (h.mono (by simp))
theorem b2 {w w1 : World} {a b : Obj} (h : Below ((w.alloc a).alloc b).heap.size ((w.alloc a).alloc b) w1) : Below w.heap.size w w1 := b1 (b1 h)
theorem bdrew {w w1 : World} (h : Below w.drew.heap.size w.drew w1) : Below w.heap.size w w1 := (show Below w.heap.size w w.drew from ⟨rfl, rfl, rfl, Nat.le_refl _, fun _ _ => rfl⟩).trans h
theorem own6 (w : World) (c0 c1 c2 c3 c4 c5 : Value) (t : TypeId) : (w.alloc (.cells #[c0, c1, c2, c3, c4, c5] t)).cell? ⟨w.heap.size, 0, none⟩ = some c0 ∧ (w.alloc (.cells #[c0, c1, c2, c3, c4, c5] t)).cell? ⟨w.heap.size, 1, none⟩ = some c1 ∧ (w.alloc (.cells #[c0, c1, c2, c3, c4, c5] t)).cell? ⟨w.heap.size, 2, none⟩ = some c2 ∧ (w.alloc (.cells #[c0, c1, c2, c3, c4, c5] t)).cell? ⟨w.heap.size, 3, none⟩ = some c3 ∧ (w.alloc (.cells #[c0, c1, c2, c3, c4, c5] t)).cell? ⟨w.heap.size, 4, none⟩ = some c4 ∧ (w.alloc (.cells #[c0, c1, c2, c3, c4, c5] t)).cell? ⟨w.heap.size, 5, none⟩ = some c5 := by
  have h := heap_alloc_new w (.cells #[c0, c1, c2, c3, c4, c5] t)
  refine ⟨?_, ?_, ?_, ?_, ?_, ?_⟩ <;> (rw [cell_of_row _ _ _ _ _ (0, 0) h]; rfl)
theorem balloc (w : World) (o : Obj) : Below w.heap.size w (w.alloc o) := (Below.refl _ _).alloc (Nat.le_refl _) _
theorem ret_bool {a b : Bool} (h : a = b) : Ending.returned (.bool a) = .returned (.bool b) := by rw [h]

/-! ## The small functions -/
theorem isAny_c (k n : Int) (s : By) (l : List Nd) (q : Value) (w : World) :
    Calls Try.prog 67 #[.agg #[.int .i64 k, .string ⟨s.toArray⟩, .int .i64 n, .int .i64 0, .slice none 0 0, q]] w fun e w' => e = .returned (.bool (anyB (.mk k n s l))) ∧ Below w.heap.size w w' := by
  obtain ⟨R, HR⟩ : ∃ R, Hid ((k == 24 || k == 4) = R) := ⟨_, Lib.hid rfl⟩
  rw [show anyB (.mk k n s l) = R from HR.out]
  cases h1 : (k == 24) <;> cases h2 : (k == 4) <;> rw [h1, h2] at HR
  all_goals
    go_enter Try.func67, Try.ntmps67
    go_wp2
    go_ret
    exact ⟨ret_bool (by rw [← HR.out]; rfl), (Below.refl _ _).alloc (Nat.le_refl _) _⟩
theorem anything_c (w : World) : Calls Try.prog 24 #[] w fun e w' => e = .returned (.agg #[.int .i64 24, .string ⟨#[]⟩, .int .i64 0, .int .i64 0, .slice none 0 0, .slice none 0 0]) ∧ Below w.heap.size w w' := by
  go_enter Try.func24, Try.ntmps24
  go_wp2
  exact bodyPost_ret (v := .agg #[.int .i64 24, .string ⟨#[]⟩, .int .i64 0, .int .i64 0, .slice none 0 0, .slice none 0 0]) (by simp [results, Try.results24, go_sem]) rfl ⟨rfl, (Below.refl _ _).alloc (Nat.le_refl _) _⟩
theorem str_eq (s t : By) : ((ByteArray.mk s.toArray) == (ByteArray.mk t.toArray)) = (s == t) := by
  rw [Bool.eq_iff_iff, MapKept.bytes_beq, beq_iff_eq]
  constructor
  · intro h; have := congrArg (fun b => b.data.toList) h; simpa using this
  · intro h; rw [h]
theorem meets_c (k n : Int) (s : By) (l : List Nd) (q : Value) (k' n' : Int) (s' : By) (l' : List Nd) (q' : Value) (w : World) :
    Calls Try.prog 71 #[.agg #[.int .i64 k, .string ⟨s.toArray⟩, .int .i64 n, .int .i64 0, .slice none 0 0, q], .agg #[.int .i64 k', .string ⟨s'.toArray⟩, .int .i64 n', .int .i64 0, .slice none 0 0, q']] w fun e w' => e = .returned (.bool (meets (.mk k n s l) (.mk k' n' s' l'))) ∧ Below w.heap.size w w' := by
  obtain ⟨R, HR⟩ : ∃ R, Hid ((anyB (.mk k n s l) || (k == k' && s == s' && n == n')) = R) := ⟨_, Lib.hid rfl⟩
  rw [show meets (.mk k n s l) (.mk k' n' s' l') = R from HR.out]
  have C0 := fun w => isAny_c k n s l q w
  generalize anyB (.mk k n s l) = X at HR C0
  have es := str_eq s s'
  have hcase : (X = true) ∨ (X = false ∧ (k == k') = false) ∨ (X = false ∧ (k == k') = true ∧ (s == s') = false) ∨ (X = false ∧ (k == k') = true ∧ (s == s') = true ∧ (n == n') = false) ∨ (X = false ∧ (k == k') = true ∧ (s == s') = true ∧ (n == n') = true) := by
    cases X <;> cases (k == k') <;> cases (s == s') <;> cases (n == n') <;> decide
  rcases hcase with rfl | ⟨rfl, h1⟩ | ⟨rfl, h1, h2⟩ | ⟨rfl, h1, h2, h3⟩ | ⟨rfl, h1, h2, h3⟩
  all_goals
    first | rw [h1, h2, h3] at HR | rw [h1, h2] at HR | rw [h1] at HR | skip
    first | rw [h2] at es | skip
    go_enter Try.func71, Try.ntmps71
    go_wp2_with (go_at_call 67; refine (C0 _).mono ?_; rintro e w1 ⟨rfl, hb⟩; obtain ⟨hc, hf⟩ := bcell hb)
    go_ret
    exact ⟨ret_bool (by rw [← HR.out]; rfl), b2 hb⟩
theorem lam_c (k n : Int) (s : By) (l : List Nd) (q : Value) (w : World) :
    Calls Try.prog 70 #[.agg #[.int .i64 k, .string ⟨s.toArray⟩, .int .i64 n, .int .i64 0, .slice none 0 0, q]] w fun e w' => e = .returned (.bool (!anyB (.mk k n s l))) ∧ Below w.heap.size w w' := by
  have C0 := fun w => isAny_c k n s l q w
  generalize anyB (.mk k n s l) = X at C0
  go_enter Try.func70, Try.ntmps70
  go_wp2_with (go_at_call 67; refine (C0 _).mono ?_; rintro e w1 ⟨rfl, hb⟩; obtain ⟨hc, hf⟩ := bcell hb)
  go_ret
  exact ⟨rfl, b1 hb⟩

/-! ## Which is the first -/
def fix {α : Type} (f : α → Bool) : List α → Nat
  | [] => 0
  | x :: xs => if f x then 0 else fix f xs + 1
theorem fix_le {α : Type} (f : α → Bool) : ∀ l : List α, fix f l ≤ l.length
  | [] => Nat.le_refl _
  | x :: xs => by have := fix_le f xs; simp only [fix]; split <;> simp <;> omega
theorem fix_any {α : Type} (f : α → Bool) : ∀ l : List α, l.any f = decide (fix f l < l.length)
  | [] => rfl
  | x :: xs => by
    rw [List.any_cons, fix_any f xs]
    by_cases h : f x = true <;> simp [fix, h]
theorem fix_yes {α : Type} (f : α → Bool) : ∀ (l : List α) (k : Nat) x, l[k]? = some x → k ≤ fix f l → f x = true → fix f l = k
  | y :: l, 0, x, h, hk, hf => by simp at h; subst h; simp [fix, hf]
  | y :: l, k + 1, x, h, hk, hf => by
    simp only [fix] at hk ⊢
    split at hk
    · omega
    · rename_i hn
      rw [if_neg hn, fix_yes f l k x (by simpa using h) (by omega) hf]
  | [], k, x, h, _, _ => by simp at h
theorem fix_no {α : Type} (f : α → Bool) : ∀ (l : List α) (k : Nat) x, l[k]? = some x → k ≤ fix f l → f x = false → k + 1 ≤ fix f l
  | y :: l, 0, x, h, hk, hf => by simp at h; subst h; simp [fix, hf]
  | y :: l, k + 1, x, h, hk, hf => by
    simp only [fix] at hk ⊢
    split at hk
    · omega
    · rename_i hn
      rw [if_neg hn]
      have := fix_no f l k x (by simpa using h) (by omega) hf
      omega
  | [], k, x, h, _, _ => by simp at h
def fidx {α : Type} (f : α → Bool) (l : List α) : Int := if fix f l < l.length then (fix f l : Int) else -1
theorem fidx_at {α : Type} {f : α → Bool} {l : List α} {k : Nat} (h : fix f l = k) (hk : k < l.length) : fidx f l = (k : Int) := by unfold fidx; rw [if_pos (by omega), h]
theorem fidx_end {α : Type} {f : α → Bool} {l : List α} {k : Nat} (h : k ≤ fix f l) (hk : ¬ k < l.length) : fidx f l = -1 := by unfold fidx; rw [if_neg (by have := fix_le f l; omega)]
theorem fidx_any {α : Type} (f : α → Bool) (l : List α) : decide (fidx f l ≥ 0) = l.any f := by
  rw [fix_any]
  unfold fidx
  by_cases h : fix f l < l.length
  · rw [if_pos h]; simp [h]
  · rw [if_neg h]; simp [h]
theorem ret_int {a b : Int} (h : a = b) : Ending.returned (.int .i64 a) = .returned (.int .i64 b) := by rw [h]
theorem getElem?_of_lt {α : Type} {l : List α} {k : Nat} (h : k < l.length) : ∃ x, l[k]? = some x := ⟨l[k], List.getElem?_eq_getElem h⟩
end Go.Proofs.Ytommaomhiaaphaa.CD
