/- Rows of things in memory, whatever the things are: their cells, and what lies below them; appends to rows that the call owns. -/
import Derived.Lib.Hide
import Derived.WalkKit
import Derived.WalkSpells
import Derived.Below
import Derived.OwnWalk
import Derived.Deep.AppendLies
import Derived.Deep.Upon
import Derived.Deep.LoopGhost
import Derived.Deep.QuietTactic
import Derived.BigQuiet
import Derived.Deep.RegionHeld3
import Derived.Deep.RegionLaw
import Derived.Deep.Cut
namespace Go.Proofs.YtphebogjmbaboaaDoor.RG
open Go.RowKit
set_option linter.unusedVariables false
set_option maxRecDepth 100000
set_option maxRecDepth 100000
variable {P : Program} {S : Nat → Prop} {α : Type}

def Any : Nat → Prop := fun _ => True
/-! ## Worlds -/
/-- A row of n things that lies somewhere. -/
def Rw (w : World) (S : Nat → Prop) (v : Value) (n : Nat) (xs : List Value) : Prop :=
  ∃ ao cap, v = .slice ao n cap ∧ n ≤ cap ∧ (n = 0 ∨ ∃ b off, ao = some ⟨b, off, none⟩ ∧ (S b ∧ b < w.heap.size) ∧ ∀ (j : Nat) u, xs[j]? = some u → w.cell? ⟨b, off + j, none⟩ = some u)
/-- From one world to another, from one set of blocks to another. -/
def Mv (w w' : World) (S S' : Nat → Prop) : Prop := w.heap.size ≤ w'.heap.size ∧ ∀ b, S b → b < w.heap.size → S' b ∧ w'.heap[b]? = w.heap[b]?
theorem Mv.low {w w' : World} (hb : Below w.heap.size w w') : Mv w w' S S := ⟨hb.size, fun b hS hlt => ⟨hS, hb.block b hlt⟩⟩
theorem Mv.weak (w : World) {S' : Nat → Prop} (h : ∀ b, S b → b < w.heap.size → S' b) : Mv w w S S' := ⟨Nat.le_refl _, fun b hS hlt => ⟨h b hS hlt, rfl⟩⟩
theorem Mv.trans {a b c : World} {S S' S'' : Nat → Prop} (h : Mv a b S S') (k : Mv b c S' S'') : Mv a c S S'' := ⟨Nat.le_trans h.1 k.1, fun x hx hlt => by
  have h1 := h.2 x hx hlt
  have h2 := k.2 x h1.1 (Nat.lt_of_lt_of_le hlt h.1)
  exact ⟨h2.1, h2.2.trans h1.2⟩⟩
theorem Rw.mv {w w' : World} {S' : Nat → Prop} {v : Value} {n : Nat} {xs : List Value} (hb : Mv w w' S S') (h : Rw w S v n xs) : Rw w' S' v n xs := by
  obtain ⟨ao, cap, hv, hc, h⟩ := h
  refine ⟨ao, cap, hv, hc, ?_⟩
  rcases h with h | ⟨b, off, ha, ⟨hS, hlt⟩, hcell⟩
  · exact .inl h
  · have := hb.2 b hS hlt
    exact .inr ⟨b, off, ha, ⟨this.1, Nat.lt_of_lt_of_le hlt hb.1⟩, fun j u hj => (World.cell?_of_block (w := w) (a := ⟨b, off + j, none⟩) this.2).trans (hcell j u hj)⟩
theorem Rw.keep {w w' : World} {v : Value} {n : Nat} {xs : List Value} (hb : Below w.heap.size w w') (h : Rw w S v n xs) : Rw w' S v n xs := h.mv (Mv.low hb)
theorem Rw.one {w : World} {v : Value} {n : Nat} {xs : List Value} (h : Rw w S v n xs) : v.oneCell' = true := by
  obtain ⟨ao, cap, rfl, _⟩ := h
  rfl
theorem rw_nil {w : World} (ao : Option Addr) (cap : Nat) : Rw w S (.slice ao 0 cap) 0 [] := ⟨ao, cap, rfl, Nat.zero_le _, .inl rfl⟩
theorem bnext {w a b : World} (h : Below w.heap.size w a) (k : Below a.heap.size a b) : Below w.heap.size w b := h.trans (k.mono h.size)
theorem balloc (w : World) (o : Obj) : Below w.heap.size w (w.alloc o) := (Below.refl _ _).alloc (Nat.le_refl _) _
theorem bdr (w : World) : Below w.heap.size w w.drew := ⟨rfl, rfl, rfl, Nat.le_refl _, fun _ _ => rfl⟩
theorem bdrew {w w1 : World} (h : Below w.drew.heap.size w.drew w1) : Below w.heap.size w w1 := (bdr w).trans h
theorem below_dN {B : Nat} {w w' : World} (h : Below B w w') (n : Nat) : Below B w (w'.drewN n) := h.trans ⟨rfl, rfl, rfl, Nat.le_refl _, fun _ _ => rfl⟩
theorem bgrown {B : Nat} {w w' : World} {v : Option Nat} (hg : w.grownBy w' v) (hv : ∀ b, v = some b → B ≤ b) (hB : B ≤ w.heap.size) : Below B w w' :=
  ⟨hg.os, hg.tape, hg.output, hg.size, fun k hk => hg.block k (by omega) fun e => by have := hv k e.symm; omega⟩
theorem rw_own {w : World} {base : Nat} {e : TypeId} {size : Nat} {v : Value} {n : Nat} {xs : List Value} (h : w.ownsRow base e size v n xs) : Rw w (fun b => base ≤ b) v n xs := by
  rcases h.2 with ⟨hv, hn⟩ | ⟨g, cap, cur, hv, hb, hg, hn, hcm, hcs, htake⟩
  · subst hn
    exact ⟨none, 0, hv, Nat.le_refl _, .inl rfl⟩
  · refine ⟨_, cap, hv, hn, .inr ⟨g, 0, rfl, ⟨hb, (Array.getElem?_eq_some_iff.1 hg).1⟩, fun j u hj => ?_⟩⟩
    rw [cell_of_row w g (0 + j) cur e (0, 0) hg]
    rw [← htake, List.getElem?_take] at hj
    split at hj
    · simpa using hj
    · simp at hj
theorem own_below {w w' : World} {B base : Nat} {e : TypeId} {size : Nat} {v : Value} {n : Nat} {xs : List Value} (h : w.ownsRow base e size v n xs) (hb : Below B w w') (hB : w.heap.size ≤ B) : w'.ownsRow base e size v n xs := by
  refine ⟨h.1, ?_⟩
  rcases h.2 with h2 | ⟨g, cap, cur, hv, hg, hh, r⟩
  · exact .inl h2
  · exact .inr ⟨g, cap, cur, hv, hg, by rw [hb.block g (by have := (Array.getElem?_eq_some_iff.1 hh).1; omega)]; exact hh, r⟩

/-! ## Blocks that are known whole -/
def Bk (w : World) (b : Nat) (c : Array Value) (t : TypeId) : Prop := w.heap[b]? = some (.cells c t (0, 0))
theorem Bk.lt {w : World} {b : Nat} {c : Array Value} {t : TypeId} (h : Bk w b c t) : b < w.heap.size := (Array.getElem?_eq_some_iff.1 h).1
theorem Bk.new (w : World) (c : Array Value) (t : TypeId) : Bk (w.alloc (.cells c t)) w.heap.size c t := heap_alloc_new w _
theorem Bk.grown {w w' : World} {b : Nat} {row : Option Nat} {c : Array Value} {t : TypeId} (h : Bk w b c t) (hg : w.grownBy w' row) (hn : row ≠ some b) : Bk w' b c t := (hg.block b h.lt (fun e => hn e.symm)).trans h
theorem Bk.keep {w w' : World} {b : Nat} {c : Array Value} {t : TypeId} (h : Bk w b c t) (hb : Below w.heap.size w w') : Bk w' b c t := (hb.block b h.lt).trans h
theorem Bk.alloc {w : World} {b : Nat} {c : Array Value} {t : TypeId} (h : Bk w b c t) (o : Obj) : Bk (w.alloc o) b c t := h.keep (balloc _ _)
theorem Bk.drew {w : World} {b : Nat} {c : Array Value} {t : TypeId} (h : Bk w b c t) : Bk w.drew b c t := h
theorem Bk.dN {w : World} {b : Nat} {c : Array Value} {t : TypeId} (h : Bk w b c t) (n : Nat) : Bk (w.drewN n) b c t := h
theorem Bk.other {w : World} {b b' : Nat} {c : Array Value} {t : TypeId} (h : Bk w b c t) (hn : b ≠ b') (i : Nat) (v : Value) : Bk (w.setCell ⟨b', i, none⟩ v) b c t := (Below.heap_setCell _ _ _ _ hn).trans h
theorem Bk.set {w : World} {b : Nat} {c : Array Value} {t : TypeId} (h : Bk w b c t) (i : Nat) (v : Value) : Bk (w.setCell ⟨b, i, none⟩ v) b (c.set! i v) t := by
  have hlt := h.lt
  unfold Bk at h ⊢
  have h' : w.heap[b] = .cells c t (0, 0) := by simpa [Array.getElem?_eq_getElem hlt] using h
  show (w.heap.modify b _)[b]? = _
  rw [Array.getElem?_eq_getElem (by simpa using hlt), Array.getElem_modify_self, h']
  simp
theorem Bk.cell {w : World} {b : Nat} {c : Array Value} {t : TypeId} (h : Bk w b c t) (i : Nat) (v : Value) (hv : c[i]? = some v) : w.cell? ⟨b, i, none⟩ = some v := by
  unfold Bk at h; simp [World.cell?, h, hv]
theorem Bk.free {w : World} {b : Nat} {c : Array Value} {t : TypeId} (h : Bk w b c t) (i : Nat) : w.frozen? ⟨b, i, none⟩ = false := by
  unfold Bk at h; simp [World.frozen?, h]

/-! ## What is in a row -/
/-- A type of things: its cells, of a thing and of the values that hang on it; what lies below these. -/
structure Ty (P : Program) (α : Type) where
  t : TypeId
  e : TypeId
  size : Nat
  bytes : Nat
  z : Value
  enc : α → List Value → List Value
  has : World → (Nat → Prop) → α → List Value → Prop
  ht : P.underlying t = some (.slice e)
  info : (P.info? e).map (fun i => (i.zero, i.size, i.bytes)) = some (some z, size, bytes)
  hzs : z.cells.size = size
  hsz : 0 < size
  hby : bytes ≤ 1000
  len : ∀ {w S a qs}, has w S a qs → (enc a qs).length = size
  one : ∀ {w S a qs}, has w S a qs → ∀ u ∈ enc a qs, u.oneCell' = true
  mv : ∀ {w w' S S' a qs}, Mv w w' S S' → has w S a qs → has w' S' a qs
/-- Things that lie flat. -/
def Ty.flat (t e : TypeId) (size bytes : Nat) (z : Value) (enc : α → List Value) (ht : P.underlying t = some (.slice e)) (info : (P.info? e).map (fun i => (i.zero, i.size, i.bytes)) = some (some z, size, bytes)) (hzs : z.cells.size = size) (hsz : 0 < size) (hby : bytes ≤ 1000)
    (len : ∀ a, (enc a).length = size) (one : ∀ a, ∀ u ∈ enc a, u.oneCell' = true) : Ty P α :=
  { t := t, e := e, size := size, bytes := bytes, z := z, enc := fun a _ => enc a, has := fun _ _ _ qs => qs = [], ht := ht, info := info, hzs := hzs, hsz := hsz, hby := hby, len := fun _ => len _, one := fun _ => one _, mv := fun _ h => h }
variable (R : Ty P α)
def rowOf : List α → List (List Value) → List Value
  | p :: ps, q :: qs => R.enc p q ++ rowOf ps qs
  | _, _ => []
def Hs (w : World) (S : Nat → Prop) : List α → List (List Value) → Prop
  | [], [] => True
  | t :: ts, q :: qs => R.has w S t q ∧ Hs w S ts qs
  | _, _ => False
/-- A row of things: the row lies anywhere, what lies below its things in S. -/
def RowR (w : World) (S : Nat → Prop) (v : Value) (l : List α) : Prop := ∃ qs, Rw w Any v l.length (rowOf R l qs) ∧ Hs R w S l qs
variable {R}
theorem Hs.mv {w w' : World} {S' : Nat → Prop} (hb : Mv w w' S S') : ∀ (ts : List α) (qs : List (List Value)), Hs R w S ts qs → Hs R w' S' ts qs
  | [], [], _ => trivial
  | t :: ts, q :: qs, h => ⟨R.mv hb h.1, Hs.mv hb ts qs h.2⟩
  | [], _ :: _, h => h
  | _ :: _, [], h => h
theorem RowR.mv {w w' : World} {S' : Nat → Prop} {v : Value} {l : List α} (h : RowR R w S v l) (hb : Mv w w' S S') (hx : ∀ b, b < w.heap.size → w'.heap[b]? = w.heap[b]?) : RowR R w' S' v l := by
  obtain ⟨qs, h2, h3⟩ := h
  exact ⟨qs, h2.mv ⟨hb.1, fun b _ hlt => ⟨trivial, hx b hlt⟩⟩, Hs.mv hb l qs h3⟩
theorem RowR.keep {w w' : World} {v : Value} {l : List α} (h : RowR R w S v l) (hb : Below w.heap.size w w') : RowR R w' S v l := h.mv (Mv.low hb) fun b h => hb.block b h
theorem RowR.weak {w : World} {S' : Nat → Prop} {v : Value} {l : List α} (h : RowR R w S v l) (hs : ∀ b, S b → b < w.heap.size → S' b) : RowR R w S' v l := h.mv (Mv.weak w hs) fun _ _ => rfl
theorem Hs.len {w : World} : ∀ {ts : List α} {qs : List (List Value)}, Hs R w S ts qs → qs.length = ts.length
  | [], [], _ => rfl
  | t :: ts, q :: qs, h => by simp [Hs.len h.2]
  | [], _ :: _, h => h.elim
  | _ :: _, [], h => h.elim
theorem rowOf_len {w : World} : ∀ (ts : List α) (qs : List (List Value)), Hs R w S ts qs → (rowOf R ts qs).length = ts.length * R.size
  | [], [], _ => by simp [rowOf]
  | t :: ts, q :: qs, h => by
    show (R.enc t q ++ rowOf R ts qs).length = _
    rw [List.length_append, rowOf_len ts qs h.2, R.len h.1, List.length_cons, Nat.succ_mul, Nat.add_comm]
  | [], _ :: _, h => h.elim
  | _ :: _, [], h => h.elim
theorem rowOf_app : ∀ (ts us : List α) (qs rs : List (List Value)), qs.length = ts.length → rowOf R (ts ++ us) (qs ++ rs) = rowOf R ts qs ++ rowOf R us rs
  | [], us, [], rs, _ => rfl
  | t :: ts, us, q :: qs, rs, h => by
    show R.enc t q ++ rowOf R (ts ++ us) (qs ++ rs) = (R.enc t q ++ rowOf R ts qs) ++ rowOf R us rs
    rw [rowOf_app ts us qs rs (by simpa using h), List.append_assoc]
  | [], _, _ :: _, _, h => by simp at h
  | _ :: _, _, [], _, h => by simp at h
theorem Hs.app {w : World} : ∀ {ts us : List α} {qs rs : List (List Value)}, Hs R w S ts qs → Hs R w S us rs → Hs R w S (ts ++ us) (qs ++ rs)
  | [], us, [], rs, _, h => h
  | t :: ts, us, q :: qs, rs, h1, h2 => ⟨h1.1, Hs.app h1.2 h2⟩
  | [], _, _ :: _, _, h, _ => h.elim
  | _ :: _, _, [], _, h, _ => h.elim
theorem rowOf_at {w : World} : ∀ (ts : List α) (qs : List (List Value)), Hs R w S ts qs → ∀ (i : Nat) p, ts[i]? = some p → ∃ q, R.has w S p q ∧ ∀ (k : Nat) u, (R.enc p q)[k]? = some u → (rowOf R ts qs)[i * R.size + k]? = some u
  | t :: ts, q :: qs, h, 0, p, hp => by
    simp at hp; subst hp
    refine ⟨q, h.1, fun k u hu => ?_⟩
    show (R.enc t q ++ rowOf R ts qs)[0 * R.size + k]? = some u
    rw [Nat.zero_mul, Nat.zero_add, List.getElem?_append_left (List.getElem?_eq_some_iff.1 hu).1]
    exact hu
  | t :: ts, q :: qs, h, i + 1, p, hp => by
    obtain ⟨q', h1, h2⟩ := rowOf_at ts qs h.2 i p (by simpa using hp)
    refine ⟨q', h1, fun k u hu => ?_⟩
    show (R.enc t q ++ rowOf R ts qs)[(i + 1) * R.size + k]? = some u
    have hl := R.len h.1
    rw [Nat.succ_mul, List.getElem?_append_right (by omega), show i * R.size + R.size + k - (R.enc t q).length = i * R.size + k from by omega]
    exact h2 k u hu
  | [], _, _, _, _, hp => by simp at hp
  | _ :: _, [], h, _, _, _ => h.elim
/-- The cells of a thing of a row. -/
def LiesR (R : Ty P α) (w : World) (b o : Nat) (p : α) (q : List Value) : Prop := ∀ (k : Nat) u, (R.enc p q)[k]? = some u → w.cell? ⟨b, o + k, none⟩ = some u
theorem LiesR.keep {w w' : World} {b o B : Nat} {p : α} {q : List Value} (h : LiesR R w b o p q) (hb : Below B w w') (hB : b < B) : LiesR R w' b o p q :=
  fun k u hu => (hb.cell (p := ⟨b, o + k, none⟩) hB).trans (h k u hu)
theorem RowR.open_ {w : World} {v : Value} {l : List α} (h : RowR R w S v l) (h0 : l ≠ []) : ∃ b off cap, v = .slice (some ⟨b, off, none⟩) l.length cap ∧ l.length ≤ cap ∧ b < w.heap.size ∧ ∀ (i : Nat) p, l[i]? = some p → ∃ q, LiesR R w b (off + i * R.size) p q ∧ R.has w S p q := by
  obtain ⟨qs, ⟨ao, cap, rfl, hc, hr⟩, hq⟩ := h
  rcases hr with hr | ⟨b, off, rfl, ⟨hS, hlt⟩, hcell⟩
  · exact absurd (List.eq_nil_of_length_eq_zero hr) h0
  · refine ⟨b, off, cap, rfl, hc, hlt, fun i p hp => ?_⟩
    obtain ⟨q, h1, h2⟩ := rowOf_at l qs hq i p hp
    refine ⟨q, fun k u hu => ?_, h1⟩
    have := hcell _ _ (h2 k u hu)
    rw [Nat.add_assoc]; exact this
theorem RowR.val {w : World} {v : Value} {l : List α} (h : RowR R w S v l) : ∃ ao cap, v = .slice ao l.length cap ∧ l.length ≤ cap := by
  obtain ⟨qs, ⟨ao, cap, rfl, hc, hr⟩, hq⟩ := h
  exact ⟨ao, cap, rfl, hc⟩
theorem RowR.one {w : World} {v : Value} {l : List α} (h : RowR R w S v l) : v.oneCell' = true := by
  obtain ⟨ao, cap, rfl, _⟩ := h.val
  rfl
theorem rowOf_one : ∀ {w : World} {ts : List α} {qs : List (List Value)}, Hs R w S ts qs → ∀ u ∈ rowOf R ts qs, u.oneCell' = true
  | w, [], [], _, u, hu => by cases hu
  | w, t :: ts, q :: qs, h, u, hu => by
    rcases List.mem_append.1 (show u ∈ R.enc t q ++ rowOf R ts qs from hu) with hu | hu
    · exact R.one h.1 u hu
    · exact rowOf_one h.2 u hu
  | w, [], _ :: _, h, _, _ => h.elim
  | w, _ :: _, [], h, _, _ => h.elim
theorem rowR_nil {w : World} (ao : Option Addr) (cap : Nat) : RowR R w S (.slice ao 0 cap) [] := ⟨[], ⟨ao, cap, rfl, Nat.zero_le _, .inl rfl⟩, trivial⟩
/-- A block of one thing. -/
theorem rowR_block {w : World} {p : α} {q : List Value} {b : Nat} {t : TypeId} {c : Array Value} (hk : Bk w b c t) (hc : R.enc p q = c.toList) (h : R.has w S p q) : RowR R w S (.slice (some ⟨b, 0, none⟩) 1 1) [p] := by
  refine ⟨[q], ⟨_, 1, rfl, Nat.le_refl _, .inr ⟨_, 0, rfl, ⟨trivial, hk.lt⟩, fun j u hj => ?_⟩⟩, h, trivial⟩
  rw [Nat.zero_add, cell_of_row _ _ _ _ _ (0, 0) hk]
  have e : rowOf R [p] [q] = c.toList := by show R.enc p q ++ [] = _; rw [List.append_nil, hc]
  rw [e] at hj
  simpa using hj
theorem rowR_new {w : World} {p : α} {q : List Value} (c : Array Value) (t : TypeId) (hc : R.enc p q = c.toList) (h : R.has w S p q) : RowR R (w.alloc (.cells c t)) S (.slice (some ⟨w.heap.size, 0, none⟩) 1 1) [p] :=
  rowR_block (Bk.new w c t) hc (R.mv (Mv.low (balloc w _)) h)

/-! ## Rows that the call owns -/
def OwnR (R : Ty P α) (w : World) (B : Nat) (T : Nat → Prop) (v : Value) (L : List α) : Prop :=
  ∃ qs, w.ownsRow B R.e R.size v L.length (rowOf R L qs) ∧ Hs R w (fun b => T b ∧ v.ownBlock ≠ some b) L qs
theorem OwnR.nil (w : World) (B : Nat) (T : Nat → Prop) : OwnR R w B T (.slice none 0 0) [] := ⟨[], World.ownsRow_nil _ _ _ _, trivial⟩
theorem OwnR.keep {w w' : World} {B : Nat} {T : Nat → Prop} {v : Value} {L : List α} (h : OwnR R w B T v L) (hb : Below w.heap.size w w') : OwnR R w' B T v L := by
  obtain ⟨qs, h1, h2⟩ := h
  exact ⟨qs, own_below h1 hb (Nat.le_refl _), Hs.mv (Mv.low hb) _ _ h2⟩
theorem OwnR.row {w : World} {B : Nat} {T : Nat → Prop} {v : Value} {L : List α} (h : OwnR R w B T v L) : RowR R w T v L := by
  obtain ⟨qs, h1, h2⟩ := h
  exact ⟨qs, (rw_own h1).mv (Mv.weak w fun _ _ _ => trivial), Hs.mv (Mv.weak w fun _ h _ => h.1) _ _ h2⟩
theorem OwnR.rw {w : World} {B : Nat} {T : Nat → Prop} {v : Value} {L : List α} (h : OwnR R w B T v L) : ∃ qs, Rw w (fun b => B ≤ b) v L.length (rowOf R L qs) ∧ Hs R w T L qs := by
  obtain ⟨qs, h1, h2⟩ := h
  exact ⟨qs, rw_own h1, Hs.mv (Mv.weak w fun _ h _ => h.1) _ _ h2⟩
theorem OwnR.val {w : World} {B : Nat} {T : Nat → Prop} {v : Value} {L : List α} (h : OwnR R w B T v L) : ∃ ao cap, v = .slice ao L.length cap ∧ L.length ≤ cap := by
  obtain ⟨qs, h1, h2⟩ := h
  obtain ⟨ao, cap, e, h, _⟩ := rw_own h1
  exact ⟨ao, cap, e, h⟩
theorem OwnR.own {w : World} {B : Nat} {T : Nat → Prop} {v : Value} {L : List α} (h : OwnR R w B T v L) {b : Nat} (hb : v.ownBlock = some b) : B ≤ b ∧ b < w.heap.size := by
  obtain ⟨qs, h1, h2⟩ := h
  exact h1.lt b hb
theorem OwnR.other {w : World} {B b' : Nat} {T : Nat → Prop} {v : Value} {L : List α} (h : OwnR R w B T v L) (hT : ∀ b, T b → b ≠ b') (hB : b' < B) (i : Nat) (x : Value) : OwnR R (w.setCell ⟨b', i, none⟩ x) B T v L := by
  have hs : (w.setCell ⟨b', i, none⟩ x).heap.size = w.heap.size := by simp
  obtain ⟨qs, h1, h2⟩ := h
  refine ⟨qs, ?_, Hs.mv ⟨by omega, fun b hb hlt => ⟨hb, Below.heap_setCell _ _ _ _ (hT b hb.1)⟩⟩ _ _ h2⟩
  refine ⟨h1.1, ?_⟩
  rcases h1.2 with h3 | ⟨g, cap, cur, hv, hg, hh, r⟩
  · exact .inl h3
  · exact .inr ⟨g, cap, cur, hv, hg, by rw [Below.heap_setCell _ _ _ _ (show g ≠ b' by omega)]; exact hh, r⟩
theorem app_run {w : World} {B : Nat} {T : Nat → Prop} {v x : Value} {L l2 : List α} (h : OwnR R w B T v L) (h2 : RowR R w (fun b => T b ∧ v.ownBlock ≠ some b) x l2) (hn : L.length + l2.length ≤ 100000000000) (hB : B ≤ w.heap.size) (ty : TypeId) :
    ∃ v' w', (Builtin.append_ #[R.t, R.t] ty #[v, x]).run P w = .ok v' w' ∧ OwnR R w' B T v' (L ++ l2) ∧ w.grownBy w' v.ownBlock ∧ (v'.ownBlock = v.ownBlock ∨ v'.ownBlock = some w.heap.size) := by
  obtain ⟨i, hi, hz, hs, hby⟩ := info_parts R.info
  obtain ⟨qs, hown, hq⟩ := h
  obtain ⟨qs2, ⟨ao2, cap2, rfl, hc2, hr2⟩, hq2⟩ := h2
  by_cases h0 : l2 = []
  · subst h0
    have hsrc : Src P i.size R.t (.slice ao2 0 cap2) 0 [] w := by
      cases ao2 with
      | none => exact Src.ofNil w R.ht cap2
      | some a => exact Src.ofSlice w R.ht a 0 cap2 [] (by simp) (fun j u h => by simp at h) (fun u h => by cases h)
    obtain ⟨ao, cap, rfl, hle, _⟩ := rw_own hown
    refine ⟨_, w, run_append_nothing (P := P) w R.t R.t ty R.e i R.ht hi ao L.length cap hle _ hsrc, ⟨qs, by simpa using hown, by simpa using hq⟩, ⟨rfl, rfl, rfl, Nat.le_refl _, fun k hk _ => rfl⟩, .inl rfl⟩
  · have hpos : 0 < l2.length := List.length_pos_iff.2 h0
    obtain ⟨b2, off2, rfl, ⟨hS2, hlt2⟩, hcell2⟩ := hr2.resolve_left (by omega)
    have hnews : ∀ j u, (rowOf R l2 qs2)[j]? = some u → w.cell? ((⟨b2, off2, none⟩ : Addr).add j) = some u := fun j u hj => by
      rw [Addr.add_lit]
      exact hcell2 j u hj
    have hb1 : (L.length + l2.length) * R.bytes ≤ 140737488355328 := Nat.le_trans (Nat.mul_le_mul hn R.hby) (by decide)
    obtain ⟨g, cap, w', hrun, r1, r2, r3, r4⟩ := run_append_lies (P := P) w R.t ty B R.e i _ R.size R.bytes R.ht hi hz hs hby R.hzs R.hsz v L.length (rowOf R L qs) hown ⟨b2, off2, none⟩ l2.length cap2 _ (rowOf_len l2 qs2 hq2) hnews (rowOf_one hq2) hpos (by unfold maxLen; omega) hb1 hB _ rfl
    have hk : Mv w w' (fun b => T b ∧ v.ownBlock ≠ some b) (fun b => T b ∧ (Value.slice (some ⟨g, 0, none⟩) (L.length + l2.length) cap).ownBlock ≠ some b) := ⟨r2.size, fun b hb hlt => ⟨⟨hb.1, fun e => by
      have e : g = b := Option.some.inj e
      rcases r3 with hat | hat
      · exact hb.2 (by rw [hat, e])
      · omega⟩, r2.block b hlt (fun e => hb.2 e.symm)⟩⟩
    refine ⟨_, w', hrun, ⟨qs ++ qs2, ?_, Hs.app (Hs.mv hk _ _ hq) (Hs.mv hk _ _ hq2)⟩, r2, ?_⟩
    · rw [List.length_append, rowOf_app _ _ _ _ hq.len]; exact r1
    · rcases r3 with hat | hat
      · left; rw [hat]; rfl
      · right; rw [hat]; rfl
/-- Things more, at the operation: in a plain region, and in one that draws. -/
theorem wpList_row (R : Ty P α) (w : World) {ops : Array Oper} {rest : List Oper} {o : Oper} {a : Act} {Q : Exit → Act → World → Prop} (hg : o.guard = none) (s x : Operand)
    (hop : o.op = Op.call { callee := Callee.builtin Builtin.append, args := #[s, x], argTypes := #[R.t, R.t] })
    (B : Nat) (T : Nat → Prop) (v xv : Value) (L l2 : List α) (hs : a.eval s = v) (hx : a.eval x = xv)
    (h : OwnR R w B T v L) (h2 : RowR R w (fun b => T b ∧ v.ownBlock ≠ some b) xv l2) (hn : L.length + l2.length ≤ 100000000000) (hB : B ≤ w.heap.size)
    (hK : ∀ ao n cap w', OwnR R w' B T (.slice ao n cap) (L ++ l2) → n = L.length + l2.length → w.grownBy w' v.ownBlock → ((Value.slice ao n cap).ownBlock = v.ownBlock ∨ (Value.slice ao n cap).ownBlock = some w.heap.size) → wpList P ops Q rest (a.put o.dst (.slice ao n cap)) w') :
    wpList P ops Q (o :: rest) a w := by
  refine wpList_plain hg fun K hKK => ?_
  obtain ⟨v', w', hrun, r1, r2, r3⟩ := app_run h h2 hn hB o.type
  obtain ⟨ao, cap, rfl, _⟩ := r1.val
  unfold Oper.wp execOp
  simp only [hop, resolve, invoke, builtin, Sem.run_bind, Sem.run_pure, Result.andThen_ok, List.map_toArray, List.map_cons, List.map_nil, hs, hx, hrun]
  exact hKK _ _ (hK _ _ _ w' r1 (by simp) r2 r3)
theorem step_row (R : Ty P α) (w : World) {ops : Array Oper} {o : Oper} {a : Act} {K : Act → World → Prop} {Q : Exit → Act → World → Prop} {E' : Prop} (hg : o.guard = none) (s x : Operand)
    (hop : o.op = Op.call { callee := Callee.builtin Builtin.append, args := #[s, x], argTypes := #[R.t, R.t] })
    (B : Nat) (T : Nat → Prop) (v xv : Value) (L l2 : List α) (hs : a.eval s = v) (hx : a.eval x = xv)
    (h : OwnR R w B T v L) (h2 : RowR R w (fun b => T b ∧ v.ownBlock ≠ some b) xv l2) (hn : L.length + l2.length ≤ 100000000000) (hB : B ≤ w.heap.size)
    (hK : ∀ ao n cap w', OwnR R w' B T (.slice ao n cap) (L ++ l2) → n = L.length + l2.length → w.grownBy w' v.ownBlock → ((Value.slice ao n cap).ownBlock = v.ownBlock ∨ (Value.slice ao n cap).ownBlock = some w.heap.size) → K (a.put o.dst (.slice ao n cap)) w') :
    if Region.wanted o (yielded ops a.tmps) = true then Oper.wp P o a w K Q else E' := by
  have hw : Region.wanted o (yielded ops a.tmps) = true := by simp [Region.wanted, hg]
  rw [if_pos hw]
  obtain ⟨v', w', hrun, r1, r2, r3⟩ := app_run h h2 hn hB o.type
  obtain ⟨ao, cap, rfl, _⟩ := r1.val
  unfold Oper.wp execOp
  simp only [hop, resolve, invoke, builtin, Sem.run_bind, Sem.run_pure, Result.andThen_ok, List.map_toArray, List.map_cons, List.map_nil, hs, hx, hrun]
  exact hK _ _ _ w' r1 (by simp) r2 r3
end Go.Proofs.YtphebogjmbaboaaDoor.RG
