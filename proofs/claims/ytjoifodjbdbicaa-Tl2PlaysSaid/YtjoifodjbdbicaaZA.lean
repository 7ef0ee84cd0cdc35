/- ZA: several texts in one (RG RB RM RI). -/
import Derived.Lib.Hide
import Derived.WalkKit
import Derived.WalkSpells
import Derived.Below
import Derived.OwnWalk
import Derived.Deep.AppendLies
import Derived.Deep.Upon
import Derived.Deep.LoopGhost
import Derived.Deep.QuietTactic
import Derived.BigQuiet
import Derived.Deep.RegionHeld3
import Derived.Deep.RegionLaw
import Derived.Deep.Cut
import Derived.Laws.MakeOwn
import Derived.Deep.RegionLawGrows
import Derived.MapKept
import Derived.Test.YtjoifodjbdbicaaChecked
import Derived.StillTailTactics
import Derived.BigRegion

/- Rows of things in memory, whatever the things are: their cells, and what lies below them; appends to rows that the call owns. -/
namespace Go.Proofs.Ytjoifodjbdbicaa.RG
open Go.RowKit
set_option linter.unusedVariables false
set_option maxRecDepth 100000
set_option maxRecDepth 100000
variable {P : Program} {S : Nat → Prop} {α : Type}

def Any : Nat → Prop := fun _ => True
/-! ## Worlds -/
/-- A row of n things that lies somewhere. -/
def Rw (w : World) (S : Nat → Prop) (v : Value) (n : Nat) (xs : List Value) : Prop :=
  ∃ ao cap, v = .slice ao n cap ∧ n ≤ cap ∧ (n = 0 ∨ ∃ b off, ao = some ⟨b, off, none⟩ ∧ (S b ∧ b < w.heap.size) ∧ ∀ (j : Nat) u, xs[j]? = some u → w.cell? ⟨b, off + j, none⟩ = some u)
/-- From one world to another, from one set of blocks to another. -/
def Mv (w w' : World) (S S' : Nat → Prop) : Prop := w.heap.size ≤ w'.heap.size ∧ ∀ b, S b → b < w.heap.size → S' b ∧ w'.heap[b]? = w.heap[b]?
theorem Mv.low {w w' : World} (hb : Below w.heap.size w w') : Mv w w' S S := ⟨hb.size, fun b hS hlt => ⟨hS, hb.block b hlt⟩⟩
theorem Mv.weak (w : World) {S' : Nat → Prop} (h : ∀ b, S b → b < w.heap.size → S' b) : Mv w w S S' := ⟨Nat.le_refl _, fun b hS hlt => ⟨h b hS hlt, rfl⟩⟩
theorem Mv.trans {a b c : World} {S S' S'' : Nat → Prop} (h : Mv a b S S') (k : Mv b c S' S'') : Mv a c S S'' := ⟨Nat.le_trans h.1 k.1, fun x hx hlt => by
  have h1 := h.2 x hx hlt
  have h2 := k.2 x h1.1 (Nat.lt_of_lt_of_le hlt h.1)
  exact ⟨h2.1, h2.2.trans h1.2⟩⟩
theorem Rw.mv {w w' : World} {S' : Nat → Prop} {v : Value} {n : Nat} {xs : List Value} (hb : Mv w w' S S') (h : Rw w S v n xs) : Rw w' S' v n xs := by
  obtain ⟨ao, cap, hv, hc, h⟩ := h
  refine ⟨ao, cap, hv, hc, ?_⟩
  rcases h with h | ⟨b, off, ha, ⟨hS, hlt⟩, hcell⟩
  · exact .inl h
  · have := hb.2 b hS hlt
    exact .inr ⟨b, off, ha, ⟨this.1, Nat.lt_of_lt_of_le hlt hb.1⟩, fun j u hj => (World.cell?_of_block (w := w) (a := ⟨b, off + j, none⟩) this.2).trans (hcell j u hj)⟩
theorem Rw.keep {w w' : World} {v : Value} {n : Nat} {xs : List Value} (hb : Below w.heap.size w w') (h : Rw w S v n xs) : Rw w' S v n xs := h.mv (Mv.low hb)
theorem Rw.one {w : World} {v : Value} {n : Nat} {xs : List Value} (h : Rw w S v n xs) : v.oneCell' = true := by
  obtain ⟨ao, cap, rfl, _⟩ := h
  rfl
theorem rw_nil {w : World} (ao : Option Addr) (cap : Nat) : Rw w S (.slice ao 0 cap) 0 [] := ⟨ao, cap, rfl, Nat.zero_le _, .inl rfl⟩
theorem bnext {w a b : World} (h : Below w.heap.size w a) (k : Below a.heap.size a b) : Below w.heap.size w b := h.trans (k.mono h.size)
theorem balloc (w : World) (o : Obj) : Below w.heap.size w (w.alloc o) := (Below.refl _ _).alloc (Nat.le_refl _) _
theorem bdr (w : World) : Below w.heap.size w w.drew := ⟨rfl, rfl, rfl, Nat.le_refl _, fun _ _ => rfl⟩
theorem bdrew {w w1 : World} (h : Below w.drew.heap.size w.drew w1) : Below w.heap.size w w1 := (bdr w).trans h
theorem below_dN {B : Nat} {w w' : World} (h : Below B w w') (n : Nat) : Below B w (w'.drewN n) := h.trans ⟨rfl, rfl, rfl, Nat.le_refl _, fun _ _ => rfl⟩
theorem bgrown {B : Nat} {w w' : World} {v : Option Nat} (hg : w.grownBy w' v) (hv : ∀ b, v = some b → B ≤ b) (hB : B ≤ w.heap.size) : Below B w w' :=
  ⟨hg.os, hg.tape, hg.output, hg.size, fun k hk => hg.block k (by omega) fun e => by have := hv k e.symm; omega⟩
theorem rw_own {w : World} {base : Nat} {e : TypeId} {size : Nat} {v : Value} {n : Nat} {xs : List Value} (h : w.ownsRow base e size v n xs) : Rw w (fun b => base ≤ b) v n xs := by
  rcases h.2 with ⟨hv, hn⟩ | ⟨g, cap, cur, hv, hb, hg, hn, hcm, hcs, htake⟩
  · subst hn
    exact ⟨none, 0, hv, Nat.le_refl _, .inl rfl⟩
  · refine ⟨_, cap, hv, hn, .inr ⟨g, 0, rfl, ⟨hb, (Array.getElem?_eq_some_iff.1 hg).1⟩, fun j u hj => ?_⟩⟩
    rw [cell_of_row w g (0 + j) cur e (0, 0) hg]
    rw [← htake, List.getElem?_take] at hj
    split at hj
    · simpa using hj
    · simp at hj
theorem own_below {w w' : World} {B base : Nat} {e : TypeId} {size : Nat} {v : Value} {n : Nat} {xs : List Value} (h : w.ownsRow base e size v n xs) (hb : Below B w w') (hB : w.heap.size ≤ B) : w'.ownsRow base e size v n xs := by
  refine ⟨h.1, ?_⟩
  rcases h.2 with h2 | ⟨g, cap, cur, hv, hg, hh, r⟩
  · exact .inl h2
  · exact .inr ⟨g, cap, cur, hv, hg, by rw [hb.block g (by have := (Array.getElem?_eq_some_iff.1 hh).1; omega)]; exact hh, r⟩

/-! ## Blocks that are known whole -/
def Bk (w : World) (b : Nat) (c : Array Value) (t : TypeId) : Prop := w.heap[b]? = some (.cells c t (0, 0))
theorem Bk.lt {w : World} {b : Nat} {c : Array Value} {t : TypeId} (h : Bk w b c t) : b < w.heap.size := (Array.getElem?_eq_some_iff.1 h).1
theorem Bk.new (w : World) (c : Array Value) (t : TypeId) : Bk (w.alloc (.cells c t)) w.heap.size c t := heap_alloc_new w _
theorem Bk.grown {w w' : World} {b : Nat} {row : Option Nat} {c : Array Value} {t : TypeId} (h : Bk w b c t) (hg : w.grownBy w' row) (hn : row ≠ some b) : Bk w' b c t := (hg.block b h.lt (fun e => hn e.symm)).trans h
theorem Bk.keep {w w' : World} {b : Nat} {c : Array Value} {t : TypeId} (h : Bk w b c t) (hb : Below w.heap.size w w') : Bk w' b c t := (hb.block b h.lt).trans h
theorem Bk.alloc {w : World} {b : Nat} {c : Array Value} {t : TypeId} (h : Bk w b c t) (o : Obj) : Bk (w.alloc o) b c t := h.keep (balloc _ _)
theorem Bk.drew {w : World} {b : Nat} {c : Array Value} {t : TypeId} (h : Bk w b c t) : Bk w.drew b c t := h
theorem Bk.dN {w : World} {b : Nat} {c : Array Value} {t : TypeId} (h : Bk w b c t) (n : Nat) : Bk (w.drewN n) b c t := h
theorem Bk.other {w : World} {b b' : Nat} {c : Array Value} {t : TypeId} (h : Bk w b c t) (hn : b ≠ b') (i : Nat) (v : Value) : Bk (w.setCell ⟨b', i, none⟩ v) b c t := (Below.heap_setCell _ _ _ _ hn).trans h
theorem Bk.set {w : World} {b : Nat} {c : Array Value} {t : TypeId} (h : Bk w b c t) (i : Nat) (v : Value) : Bk (w.setCell ⟨b, i, none⟩ v) b (c.set! i v) t := by
  have hlt := h.lt
  unfold Bk at h ⊢
  have h' : w.heap[b] = .cells c t (0, 0) := by simpa [Array.getElem?_eq_getElem hlt] using h
  show (w.heap.modify b _)[b]? = _
  rw [Array.getElem?_eq_getElem (by simpa using hlt), Array.getElem_modify_self, h']
  simp
theorem Bk.cell {w : World} {b : Nat} {c : Array Value} {t : TypeId} (h : Bk w b c t) (i : Nat) (v : Value) (hv : c[i]? = some v) : w.cell? ⟨b, i, none⟩ = some v := by
  unfold Bk at h; simp [World.cell?, h, hv]
theorem Bk.free {w : World} {b : Nat} {c : Array Value} {t : TypeId} (h : Bk w b c t) (i : Nat) : w.frozen? ⟨b, i, none⟩ = false := by
  unfold Bk at h; simp [World.frozen?, h]

/-! ## What is in a row -/
/-- A type of things: its cells, of a thing and of the values that hang on it; what lies below these. -/
structure Ty (P : Program) (α : Type) where
  t : TypeId
  e : TypeId
  size : Nat
  bytes : Nat
  z : Value
  enc : α → List Value → List Value
  has : World → (Nat → Prop) → α → List Value → Prop
  ht : P.underlying t = some (.slice e)
  info : (P.info? e).map (fun i => (i.zero, i.size, i.bytes)) = some (some z, size, bytes)
  hzs : z.cells.size = size
  hsz : 0 < size
  hby : bytes ≤ 1000
  len : ∀ {w S a qs}, has w S a qs → (enc a qs).length = size
  one : ∀ {w S a qs}, has w S a qs → ∀ u ∈ enc a qs, u.oneCell' = true
  mv : ∀ {w w' S S' a qs}, Mv w w' S S' → has w S a qs → has w' S' a qs
/-- Things that lie flat. -/
def Ty.flat (t e : TypeId) (size bytes : Nat) (z : Value) (enc : α → List Value) (ht : P.underlying t = some (.slice e)) (info : (P.info? e).map (fun i => (i.zero, i.size, i.bytes)) = some (some z, size, bytes)) (hzs : z.cells.size = size) (hsz : 0 < size) (hby : bytes ≤ 1000)
    (len : ∀ a, (enc a).length = size) (one : ∀ a, ∀ u ∈ enc a, u.oneCell' = true) : Ty P α :=
  { t := t, e := e, size := size, bytes := bytes, z := z, enc := fun a _ => enc a, has := fun _ _ _ qs => qs = [], ht := ht, info := info, hzs := hzs, hsz := hsz, hby := hby, len := fun _ => len _, one := fun _ => one _, mv := fun _ h => h }
variable (R : Ty P α)
def rowOf : List α → List (List Value) → List Value
  | p :: ps, q :: qs => R.enc p q ++ rowOf ps qs
  | _, _ => []
def Hs (w : World) (S : Nat → Prop) : List α → List (List Value) → Prop
  | [], [] => True
  | t :: ts, q :: qs => R.has w S t q ∧ Hs w S ts qs
  | _, _ => False
/-- A row of things: the row lies anywhere, what lies below its things in S. -/
def RowR (w : World) (S : Nat → Prop) (v : Value) (l : List α) : Prop := ∃ qs, Rw w Any v l.length (rowOf R l qs) ∧ Hs R w S l qs
variable {R}
theorem Hs.mv {w w' : World} {S' : Nat → Prop} (hb : Mv w w' S S') : ∀ (ts : List α) (qs : List (List Value)), Hs R w S ts qs → Hs R w' S' ts qs
  | [], [], _ => trivial
  | t :: ts, q :: qs, h => ⟨R.mv hb h.1, Hs.mv hb ts qs h.2⟩
  | [], _ :: _, h => h
  | _ :: _, [], h => h
theorem RowR.mv {w w' : World} {S' : Nat → Prop} {v : Value} {l : List α} (h : RowR R w S v l) (hb : Mv w w' S S') (hx : ∀ b, b < w.heap.size → w'.heap[b]? = w.heap[b]?) : RowR R w' S' v l := by
  obtain ⟨qs, h2, h3⟩ := h
  exact ⟨qs, h2.mv ⟨hb.1, fun b _ hlt => ⟨trivial, hx b hlt⟩⟩, Hs.mv hb l qs h3⟩
theorem RowR.keep {w w' : World} {v : Value} {l : List α} (h : RowR R w S v l) (hb : Below w.heap.size w w') : RowR R w' S v l := h.mv (Mv.low hb) fun b h => hb.block b h
theorem RowR.weak {w : World} {S' : Nat → Prop} {v : Value} {l : List α} (h : RowR R w S v l) (hs : ∀ b, S b → b < w.heap.size → S' b) : RowR R w S' v l := h.mv (Mv.weak w hs) fun _ _ => rfl
theorem Hs.len {w : World} : ∀ {ts : List α} {qs : List (List Value)}, Hs R w S ts qs → qs.length = ts.length
  | [], [], _ => rfl
  | t :: ts, q :: qs, h => by simp [Hs.len h.2]
  | [], _ :: _, h => h.elim
  | _ :: _, [], h => h.elim
theorem rowOf_len {w : World} : ∀ (ts : List α) (qs : List (List Value)), Hs R w S ts qs → (rowOf R ts qs).length = ts.length * R.size
  | [], [], _ => by simp [rowOf]
  | t :: ts, q :: qs, h => by
    show (R.enc t q ++ rowOf R ts qs).length = _
    rw [List.length_append, rowOf_len ts qs h.2, R.len h.1, List.length_cons, Nat.succ_mul, Nat.add_comm]
  | [], _ :: _, h => h.elim
  | _ :: _, [], h => h.elim
theorem rowOf_app : ∀ (ts us : List α) (qs rs : List (List Value)), qs.length = ts.length → rowOf R (ts ++ us) (qs ++ rs) = rowOf R ts qs ++ rowOf R us rs
  | [], us, [], rs, _ => rfl
  | t :: ts, us, q :: qs, rs, h => by
    show R.enc t q ++ rowOf R (ts ++ us) (qs ++ rs) = (R.enc t q ++ rowOf R ts qs) ++ rowOf R us rs
    rw [rowOf_app ts us qs rs (by simpa using h), List.append_assoc]
  | [], _, _ :: _, _, h => by simp at h
  | _ :: _, _, [], _, h => by simp at h
theorem Hs.app {w : World} : ∀ {ts us : List α} {qs rs : List (List Value)}, Hs R w S ts qs → Hs R w S us rs → Hs R w S (ts ++ us) (qs ++ rs)
  | [], us, [], rs, _, h => h
  | t :: ts, us, q :: qs, rs, h1, h2 => ⟨h1.1, Hs.app h1.2 h2⟩
  | [], _, _ :: _, _, h, _ => h.elim
  | _ :: _, _, [], _, h, _ => h.elim
theorem rowOf_at {w : World} : ∀ (ts : List α) (qs : List (List Value)), Hs R w S ts qs → ∀ (i : Nat) p, ts[i]? = some p → ∃ q, R.has w S p q ∧ ∀ (k : Nat) u, (R.enc p q)[k]? = some u → (rowOf R ts qs)[i * R.size + k]? = some u
  | t :: ts, q :: qs, h, 0, p, hp => by
    simp at hp; subst hp
    refine ⟨q, h.1, fun k u hu => ?_⟩
    show (R.enc t q ++ rowOf R ts qs)[0 * R.size + k]? = some u
    rw [Nat.zero_mul, Nat.zero_add, List.getElem?_append_left (List.getElem?_eq_some_iff.1 hu).1]
    exact hu
  | t :: ts, q :: qs, h, i + 1, p, hp => by
    obtain ⟨q', h1, h2⟩ := rowOf_at ts qs h.2 i p (by simpa using hp)
    refine ⟨q', h1, fun k u hu => ?_⟩
    show (R.enc t q ++ rowOf R ts qs)[(i + 1) * R.size + k]? = some u
    have hl := R.len h.1
    rw [Nat.succ_mul, List.getElem?_append_right (by omega), show i * R.size + R.size + k - (R.enc t q).length = i * R.size + k from by omega]
    exact h2 k u hu
  | [], _, _, _, _, hp => by simp at hp
  | _ :: _, [], h, _, _, _ => h.elim
/-- The cells of a thing of a row. -/
def LiesR (R : Ty P α) (w : World) (b o : Nat) (p : α) (q : List Value) : Prop := ∀ (k : Nat) u, (R.enc p q)[k]? = some u → w.cell? ⟨b, o + k, none⟩ = some u
theorem LiesR.keep {w w' : World} {b o B : Nat} {p : α} {q : List Value} (h : LiesR R w b o p q) (hb : Below B w w') (hB : b < B) : LiesR R w' b o p q :=
  fun k u hu => (hb.cell (p := ⟨b, o + k, none⟩) hB).trans (h k u hu)
theorem RowR.open_ {w : World} {v : Value} {l : List α} (h : RowR R w S v l) (h0 : l ≠ []) : ∃ b off cap, v = .slice (some ⟨b, off, none⟩) l.length cap ∧ l.length ≤ cap ∧ b < w.heap.size ∧ ∀ (i : Nat) p, l[i]? = some p → ∃ q, LiesR R w b (off + i * R.size) p q ∧ R.has w S p q := by
  obtain ⟨qs, ⟨ao, cap, rfl, hc, hr⟩, hq⟩ := h
  rcases hr with hr | ⟨b, off, rfl, ⟨hS, hlt⟩, hcell⟩
  · exact absurd (List.eq_nil_of_length_eq_zero hr) h0
  · refine ⟨b, off, cap, rfl, hc, hlt, fun i p hp => ?_⟩
    obtain ⟨q, h1, h2⟩ := rowOf_at l qs hq i p hp
    refine ⟨q, fun k u hu => ?_, h1⟩
    have := hcell _ _ (h2 k u hu)
    rw [Nat.add_assoc]; exact this
theorem RowR.val {w : World} {v : Value} {l : List α} (h : RowR R w S v l) : ∃ ao cap, v = .slice ao l.length cap ∧ l.length ≤ cap := by
  obtain ⟨qs, ⟨ao, cap, rfl, hc, hr⟩, hq⟩ := h
  exact ⟨ao, cap, rfl, hc⟩
theorem RowR.one {w : World} {v : Value} {l : List α} (h : RowR R w S v l) : v.oneCell' = true := by
  obtain ⟨ao, cap, rfl, _⟩ := h.val
  rfl
theorem rowOf_one : ∀ {w : World} {ts : List α} {qs : List (List Value)}, Hs R w S ts qs → ∀ u ∈ rowOf R ts qs, u.oneCell' = true
  | w, [], [], _, u, hu => by cases hu
  | w, t :: ts, q :: qs, h, u, hu => by
    rcases List.mem_append.1 (show u ∈ R.enc t q ++ rowOf R ts qs from hu) with hu | hu
    · exact R.one h.1 u hu
    · exact rowOf_one h.2 u hu
  | w, [], _ :: _, h, _, _ => h.elim
  | w, _ :: _, [], h, _, _ => h.elim
theorem rowR_nil {w : World} (ao : Option Addr) (cap : Nat) : RowR R w S (.slice ao 0 cap) [] := ⟨[], ⟨ao, cap, rfl, Nat.zero_le _, .inl rfl⟩, trivial⟩
/-- A block of one thing. -/
theorem rowR_block {w : World} {p : α} {q : List Value} {b : Nat} {t : TypeId} {c : Array Value} (hk : Bk w b c t) (hc : R.enc p q = c.toList) (h : R.has w S p q) : RowR R w S (.slice (some ⟨b, 0, none⟩) 1 1) [p] := by
  refine ⟨[q], ⟨_, 1, rfl, Nat.le_refl _, .inr ⟨_, 0, rfl, ⟨trivial, hk.lt⟩, fun j u hj => ?_⟩⟩, h, trivial⟩
  rw [Nat.zero_add, cell_of_row _ _ _ _ _ (0, 0) hk]
  have e : rowOf R [p] [q] = c.toList := by show R.enc p q ++ [] = _; rw [List.append_nil, hc]
  rw [e] at hj
  simpa using hj
theorem rowR_new {w : World} {p : α} {q : List Value} (c : Array Value) (t : TypeId) (hc : R.enc p q = c.toList) (h : R.has w S p q) : RowR R (w.alloc (.cells c t)) S (.slice (some ⟨w.heap.size, 0, none⟩) 1 1) [p] :=
  rowR_block (Bk.new w c t) hc (R.mv (Mv.low (balloc w _)) h)

/-! ## Rows that the call owns -/
def OwnR (R : Ty P α) (w : World) (B : Nat) (T : Nat → Prop) (v : Value) (L : List α) : Prop :=
  ∃ qs, w.ownsRow B R.e R.size v L.length (rowOf R L qs) ∧ Hs R w (fun b => T b ∧ v.ownBlock ≠ some b) L qs
theorem OwnR.nil (w : World) (B : Nat) (T : Nat → Prop) : OwnR R w B T (.slice none 0 0) [] := ⟨[], World.ownsRow_nil _ _ _ _, trivial⟩
theorem OwnR.keep {w w' : World} {B : Nat} {T : Nat → Prop} {v : Value} {L : List α} (h : OwnR R w B T v L) (hb : Below w.heap.size w w') : OwnR R w' B T v L := by
  obtain ⟨qs, h1, h2⟩ := h
  exact ⟨qs, own_below h1 hb (Nat.le_refl _), Hs.mv (Mv.low hb) _ _ h2⟩
theorem OwnR.row {w : World} {B : Nat} {T : Nat → Prop} {v : Value} {L : List α} (h : OwnR R w B T v L) : RowR R w T v L := by
  obtain ⟨qs, h1, h2⟩ := h
  exact ⟨qs, (rw_own h1).mv (Mv.weak w fun _ _ _ => trivial), Hs.mv (Mv.weak w fun _ h _ => h.1) _ _ h2⟩
theorem OwnR.rw {w : World} {B : Nat} {T : Nat → Prop} {v : Value} {L : List α} (h : OwnR R w B T v L) : ∃ qs, Rw w (fun b => B ≤ b) v L.length (rowOf R L qs) ∧ Hs R w T L qs := by
  obtain ⟨qs, h1, h2⟩ := h
  exact ⟨qs, rw_own h1, Hs.mv (Mv.weak w fun _ h _ => h.1) _ _ h2⟩
theorem OwnR.val {w : World} {B : Nat} {T : Nat → Prop} {v : Value} {L : List α} (h : OwnR R w B T v L) : ∃ ao cap, v = .slice ao L.length cap ∧ L.length ≤ cap := by
  obtain ⟨qs, h1, h2⟩ := h
  obtain ⟨ao, cap, e, h, _⟩ := rw_own h1
  exact ⟨ao, cap, e, h⟩
theorem OwnR.own {w : World} {B : Nat} {T : Nat → Prop} {v : Value} {L : List α} (h : OwnR R w B T v L) {b : Nat} (hb : v.ownBlock = some b) : B ≤ b ∧ b < w.heap.size := by
  obtain ⟨qs, h1, h2⟩ := h
  exact h1.lt b hb
theorem OwnR.other {w : World} {B b' : Nat} {T : Nat → Prop} {v : Value} {L : List α} (h : OwnR R w B T v L) (hT : ∀ b, T b → b ≠ b') (hB : b' < B) (i : Nat) (x : Value) : OwnR R (w.setCell ⟨b', i, none⟩ x) B T v L := by
  have hs : (w.setCell ⟨b', i, none⟩ x).heap.size = w.heap.size := by simp
  obtain ⟨qs, h1, h2⟩ := h
  refine ⟨qs, ?_, Hs.mv ⟨by omega, fun b hb hlt => ⟨hb, Below.heap_setCell _ _ _ _ (hT b hb.1)⟩⟩ _ _ h2⟩
  refine ⟨h1.1, ?_⟩
  rcases h1.2 with h3 | ⟨g, cap, cur, hv, hg, hh, r⟩
  · exact .inl h3
  · exact .inr ⟨g, cap, cur, hv, hg, by rw [Below.heap_setCell _ _ _ _ (show g ≠ b' by omega)]; exact hh, r⟩
theorem app_run {w : World} {B : Nat} {T : Nat → Prop} {v x : Value} {L l2 : List α} (h : OwnR R w B T v L) (h2 : RowR R w (fun b => T b ∧ v.ownBlock ≠ some b) x l2) (hn : L.length + l2.length ≤ 100000000000) (hB : B ≤ w.heap.size) (ty : TypeId) :
    ∃ v' w', (Builtin.append_ #[R.t, R.t] ty #[v, x]).run P w = .ok v' w' ∧ OwnR R w' B T v' (L ++ l2) ∧ w.grownBy w' v.ownBlock ∧ (v'.ownBlock = v.ownBlock ∨ v'.ownBlock = some w.heap.size) := by
  obtain ⟨i, hi, hz, hs, hby⟩ := info_parts R.info
  obtain ⟨qs, hown, hq⟩ := h
  obtain ⟨qs2, ⟨ao2, cap2, rfl, hc2, hr2⟩, hq2⟩ := h2
  by_cases h0 : l2 = []
  · subst h0
    have hsrc : Src P i.size R.t (.slice ao2 0 cap2) 0 [] w := by
      cases ao2 with
      | none => exact Src.ofNil w R.ht cap2
      | some a => exact Src.ofSlice w R.ht a 0 cap2 [] (by simp) (fun j u h => by simp at h) (fun u h => by cases h)
    obtain ⟨ao, cap, rfl, hle, _⟩ := rw_own hown
    refine ⟨_, w, run_append_nothing (P := P) w R.t R.t ty R.e i R.ht hi ao L.length cap hle _ hsrc, ⟨qs, by simpa using hown, by simpa using hq⟩, ⟨rfl, rfl, rfl, Nat.le_refl _, fun k hk _ => rfl⟩, .inl rfl⟩
  · have hpos : 0 < l2.length := List.length_pos_iff.2 h0
    obtain ⟨b2, off2, rfl, ⟨hS2, hlt2⟩, hcell2⟩ := hr2.resolve_left (by omega)
    have hnews : ∀ j u, (rowOf R l2 qs2)[j]? = some u → w.cell? ((⟨b2, off2, none⟩ : Addr).add j) = some u := fun j u hj => by
      rw [Addr.add_lit]
      exact hcell2 j u hj
    have hb1 : (L.length + l2.length) * R.bytes ≤ 140737488355328 := Nat.le_trans (Nat.mul_le_mul hn R.hby) (by decide)
    obtain ⟨g, cap, w', hrun, r1, r2, r3, r4⟩ := run_append_lies (P := P) w R.t ty B R.e i _ R.size R.bytes R.ht hi hz hs hby R.hzs R.hsz v L.length (rowOf R L qs) hown ⟨b2, off2, none⟩ l2.length cap2 _ (rowOf_len l2 qs2 hq2) hnews (rowOf_one hq2) hpos (by unfold maxLen; omega) hb1 hB _ rfl
    have hk : Mv w w' (fun b => T b ∧ v.ownBlock ≠ some b) (fun b => T b ∧ (Value.slice (some ⟨g, 0, none⟩) (L.length + l2.length) cap).ownBlock ≠ some b) := ⟨r2.size, fun b hb hlt => ⟨⟨hb.1, fun e => by
      have e : g = b := Option.some.inj e
      rcases r3 with hat | hat
      · exact hb.2 (by rw [hat, e])
      · omega⟩, r2.block b hlt (fun e => hb.2 e.symm)⟩⟩
    refine ⟨_, w', hrun, ⟨qs ++ qs2, ?_, Hs.app (Hs.mv hk _ _ hq) (Hs.mv hk _ _ hq2)⟩, r2, ?_⟩
    · rw [List.length_append, rowOf_app _ _ _ _ hq.len]; exact r1
    · rcases r3 with hat | hat
      · left; rw [hat]; rfl
      · right; rw [hat]; rfl
/-- Things more, at the operation: in a plain region, and in one that draws. -/
theorem wpList_row (R : Ty P α) (w : World) {ops : Array Oper} {rest : List Oper} {o : Oper} {a : Act} {Q : Exit → Act → World → Prop} (hg : o.guard = none) (s x : Operand)
    (hop : o.op = Op.call { callee := Callee.builtin Builtin.append, args := #[s, x], argTypes := #[R.t, R.t] })
    (B : Nat) (T : Nat → Prop) (v xv : Value) (L l2 : List α) (hs : a.eval s = v) (hx : a.eval x = xv)
    (h : OwnR R w B T v L) (h2 : RowR R w (fun b => T b ∧ v.ownBlock ≠ some b) xv l2) (hn : L.length + l2.length ≤ 100000000000) (hB : B ≤ w.heap.size)
    (hK : ∀ ao n cap w', OwnR R w' B T (.slice ao n cap) (L ++ l2) → n = L.length + l2.length → w.grownBy w' v.ownBlock → ((Value.slice ao n cap).ownBlock = v.ownBlock ∨ (Value.slice ao n cap).ownBlock = some w.heap.size) → wpList P ops Q rest (a.put o.dst (.slice ao n cap)) w') :
    wpList P ops Q (o :: rest) a w := by
  refine wpList_plain hg fun K hKK => ?_
  obtain ⟨v', w', hrun, r1, r2, r3⟩ := app_run h h2 hn hB o.type
  obtain ⟨ao, cap, rfl, _⟩ := r1.val
  unfold Oper.wp execOp
  simp only [hop, resolve, invoke, builtin, Sem.run_bind, Sem.run_pure, Result.andThen_ok, List.map_toArray, List.map_cons, List.map_nil, hs, hx, hrun]
  exact hKK _ _ (hK _ _ _ w' r1 (by simp) r2 r3)
theorem step_row (R : Ty P α) (w : World) {ops : Array Oper} {o : Oper} {a : Act} {K : Act → World → Prop} {Q : Exit → Act → World → Prop} {E' : Prop} (hg : o.guard = none) (s x : Operand)
    (hop : o.op = Op.call { callee := Callee.builtin Builtin.append, args := #[s, x], argTypes := #[R.t, R.t] })
    (B : Nat) (T : Nat → Prop) (v xv : Value) (L l2 : List α) (hs : a.eval s = v) (hx : a.eval x = xv)
    (h : OwnR R w B T v L) (h2 : RowR R w (fun b => T b ∧ v.ownBlock ≠ some b) xv l2) (hn : L.length + l2.length ≤ 100000000000) (hB : B ≤ w.heap.size)
    (hK : ∀ ao n cap w', OwnR R w' B T (.slice ao n cap) (L ++ l2) → n = L.length + l2.length → w.grownBy w' v.ownBlock → ((Value.slice ao n cap).ownBlock = v.ownBlock ∨ (Value.slice ao n cap).ownBlock = some w.heap.size) → K (a.put o.dst (.slice ao n cap)) w') :
    if Region.wanted o (yielded ops a.tmps) = true then Oper.wp P o a w K Q else E' := by
  have hw : Region.wanted o (yielded ops a.tmps) = true := by simp [Region.wanted, hg]
  rw [if_pos hw]
  obtain ⟨v', w', hrun, r1, r2, r3⟩ := app_run h h2 hn hB o.type
  obtain ⟨ao, cap, rfl, _⟩ := r1.val
  unfold Oper.wp execOp
  simp only [hop, resolve, invoke, builtin, Sem.run_bind, Sem.run_pure, Result.andThen_ok, List.map_toArray, List.map_cons, List.map_nil, hs, hx, hrun]
  exact hK _ _ _ w' r1 (by simp) r2 r3
end Go.Proofs.Ytjoifodjbdbicaa.RG

/- Rows that fill a block that is known whole; a cell of a row is written; rows that are made; rows that become shorter. -/
namespace Go.Proofs.Ytjoifodjbdbicaa.RB
open Go.RowKit Go.Proofs.Ytjoifodjbdbicaa.RG
set_option linter.unusedVariables false
set_option maxRecDepth 100000
set_option maxRecDepth 100000
variable {P : Program} {S : Nat → Prop} {α : Type} {R : Ty P α}

/-! ## A cell of a thing of a row is written -/
theorem rowOf_set : ∀ (l : List α) (qs : List (List Value)) (i j : Nat) (p t : α) (q q' : List Value) (v : Value), (∀ (k : Nat) t' u, l[k]? = some t' → qs[k]? = some u → (R.enc t' u).length = R.size) → l[i]? = some t → qs[i]? = some q → R.enc p q' = (R.enc t q).set j v → j < R.size →
    rowOf R (l.set i p) (qs.set i q') = (rowOf R l qs).set (i * R.size + j) v
  | [], _, i, j, p, t, q, q', v, _, ht, _, _, _ => by simp at ht
  | _ :: _, [], i, j, p, t, q, q', v, _, _, hq, _, _ => by simp at hq
  | a :: l, b :: qs, 0, j, p, t, q, q', v, hl, ht, hq, he, hj => by
    simp at ht hq
    subst ht hq
    have := hl 0 _ _ rfl rfl
    show R.enc p q' ++ rowOf R l qs = (R.enc a b ++ rowOf R l qs).set (0 * R.size + j) v
    rw [he, Nat.zero_mul, Nat.zero_add, List.set_append_left _ _ (by omega)]
  | a :: l, b :: qs, i + 1, j, p, t, q, q', v, hl, ht, hq, he, hj => by
    have h0 := hl 0 _ _ rfl rfl
    have ih := rowOf_set l qs i j p t q q' v (fun k t' u h1 h2 => hl (k + 1) t' u h1 h2) (by simpa using ht) (by simpa using hq) he hj
    show R.enc a b ++ rowOf R (l.set i p) (qs.set i q') = (R.enc a b ++ rowOf R l qs).set ((i + 1) * R.size + j) v
    rw [ih, Nat.succ_mul, List.set_append_right _ _ (by omega)]
    congr 2
    omega
theorem Hs_at {w : World} : ∀ (l : List α) (qs : List (List Value)), Hs R w S l qs → ∀ (i : Nat) t, l[i]? = some t → ∃ q, qs[i]? = some q ∧ R.has w S t q
  | [], _, _, i, t, h => by simp at h
  | a :: l, [], h, i, t, _ => h.elim
  | a :: l, b :: qs, h, 0, t, ht => by simp at ht; subst ht; exact ⟨b, rfl, h.1⟩
  | a :: l, b :: qs, h, i + 1, t, ht => by
    obtain ⟨q, h1, h2⟩ := Hs_at l qs h.2 i t (by simpa using ht)
    exact ⟨q, by simpa using h1, h2⟩
theorem Hs_len {w : World} {l : List α} {qs : List (List Value)} (h : Hs R w S l qs) : ∀ (k : Nat) t' u, l[k]? = some t' → qs[k]? = some u → (R.enc t' u).length = R.size := fun k t' u h1 h2 => by
  obtain ⟨q, h3, h4⟩ := Hs_at l qs h k t' h1
  rw [h3] at h2; cases h2
  exact R.len h4
theorem Hs_set {w : World} : ∀ {l : List α} {qs : List (List Value)}, Hs R w S l qs → ∀ (i : Nat) (p : α) (q : List Value), R.has w S p q → Hs R w S (l.set i p) (qs.set i q)
  | [], [], _, i, p, q, _ => trivial
  | [], _ :: _, h, _, _, _, _ => h.elim
  | _ :: _, [], h, _, _, _, _ => h.elim
  | a :: l, b :: qs, h, 0, p, q, hp => ⟨hp, h.2⟩
  | a :: l, b :: qs, h, i + 1, p, q, hp => ⟨h.1, Hs_set h.2 i p q hp⟩
/-- A thing becomes another one by one cell. -/
def Turn (R : Ty P α) (w w' : World) (S : Nat → Prop) (t p : α) (j : Nat) (v : Value) : Prop := ∀ q, R.has w S t q → ∃ q', R.enc p q' = (R.enc t q).set j v ∧ R.has w' S p q'

/-! ## A row in a block -/
/-- A row at the begin of a block that is known whole. -/
def RowB (R : Ty P α) (w : World) (S : Nat → Prop) (b : Nat) (l : List α) : Prop := ∃ qs cur, Bk w b cur R.e ∧ cur.toList.take (l.length * R.size) = rowOf R l qs ∧ Hs R w S l qs
theorem RowB.lt {w : World} {b : Nat} {l : List α} (h : RowB R w S b l) : b < w.heap.size := by
  obtain ⟨qs, cur, h1, _⟩ := h
  exact h1.lt
theorem RowB.mv {w w' : World} {S' : Nat → Prop} {b : Nat} {l : List α} (h : RowB R w S b l) (hb : Mv w w' S S') (hx : w'.heap[b]? = w.heap[b]?) : RowB R w' S' b l := by
  obtain ⟨qs, cur, h1, h2, h3⟩ := h
  exact ⟨qs, cur, hx.trans h1, h2, Hs.mv hb _ _ h3⟩
theorem RowB.keep {w w' : World} {b : Nat} {l : List α} (h : RowB R w S b l) (hb : Below w.heap.size w w') : RowB R w' S b l := h.mv (Mv.low hb) (hb.block b h.lt)
theorem RowB.row {w : World} {b : Nat} {l : List α} (h : RowB R w S b l) (cap : Nat) (hc : l.length ≤ cap) : RowR R w S (.slice (some ⟨b, 0, none⟩) l.length cap) l := by
  obtain ⟨qs, cur, h1, h2, h3⟩ := h
  refine ⟨qs, ⟨_, cap, rfl, hc, .inr ⟨b, 0, rfl, ⟨trivial, h1.lt⟩, fun j u hj => ?_⟩⟩, h3⟩
  rw [cell_of_row w b (0 + j) cur R.e (0, 0) h1]
  rw [← h2, List.getElem?_take] at hj
  split at hj
  · simpa using hj
  · simp at hj
theorem RowB.at {w : World} {b : Nat} {l : List α} (h : RowB R w S b l) {i : Nat} {p : α} (hp : l[i]? = some p) : ∃ q, LiesR R w b (i * R.size) p q ∧ R.has w S p q := by
  obtain ⟨qs, cur, h1, h2, h3⟩ := h
  obtain ⟨q, h4, h5⟩ := rowOf_at l qs h3 i p hp
  refine ⟨q, fun k u hu => ?_, h4⟩
  have hj := h5 k u hu
  rw [cell_of_row w b _ cur R.e (0, 0) h1]
  rw [← h2, List.getElem?_take] at hj
  split at hj
  · simpa using hj
  · simp at hj
theorem RowB.free {w : World} {b : Nat} {l : List α} (h : RowB R w S b l) (i : Nat) : w.frozen? ⟨b, i, none⟩ = false := by
  obtain ⟨qs, cur, h1, _⟩ := h
  exact h1.free i
theorem lt_mul {i j n s : Nat} (hi : i < n) (hj : j < s) : i * s + j < n * s := by
  have : (i + 1) * s ≤ n * s := Nat.mul_le_mul_right s hi
  rw [Nat.succ_mul] at this
  omega
theorem mv_set {w : World} {b : Nat} (hS : ∀ x, S x → x ≠ b) (i : Nat) (v : Value) : Mv w (w.setCell ⟨b, i, none⟩ v) S S :=
  ⟨by simp, fun x hx _ => ⟨hx, Below.heap_setCell _ _ _ _ (hS x hx)⟩⟩
theorem RowB.set {w : World} {b : Nat} {l : List α} (h : RowB R w S b l) {i j : Nat} {t p : α} {v : Value} (ht : l[i]? = some t) (hS : ∀ x, S x → x ≠ b) (hj : j < R.size) (hc : Turn R w (w.setCell ⟨b, i * R.size + j, none⟩ v) S t p j v) : RowB R (w.setCell ⟨b, i * R.size + j, none⟩ v) S b (l.set i p) := by
  obtain ⟨qs, cur, h1, h2, h3⟩ := h
  obtain ⟨q, hq, hhas⟩ := Hs_at l qs h3 i t ht
  obtain ⟨q', he, hp⟩ := hc q hhas
  have hl := (List.getElem?_eq_some_iff.1 ht).1
  refine ⟨qs.set i q', cur.set! (i * R.size + j) v, h1.set _ _, ?_, Hs_set (Hs.mv (mv_set hS _ _) _ _ h3) i p q' hp⟩
  rw [rowOf_set l qs i j p t q q' v (Hs_len h3) ht hq he hj, List.length_set, ← h2]
  simp [Array.set!, List.take_set]
theorem RowB.other {w : World} {b b' : Nat} {l : List α} (h : RowB R w S b l) (hS : ∀ x, S x → x ≠ b') (hb : b ≠ b') (i : Nat) (v : Value) : RowB R (w.setCell ⟨b', i, none⟩ v) S b l :=
  h.mv (mv_set hS i v) (Below.heap_setCell _ _ _ _ hb)

/-! ## Rows that are made -/
theorem made_row (z : α) (l : List Value) (hl : l.length = R.size) (hz : R.z.cells.toList = l) : ∀ n : Nat, (madeCells R.z.cells (n * R.size)).toList = (List.replicate n l).flatten
  | 0 => by simp [madeCells]
  | n + 1 => by
    have ih := made_row z l hl hz n
    apply List.ext_getElem?
    intro k
    have hsz : R.z.cells.size = R.size := R.hzs
    have hpos := R.hsz
    have key : ∀ m : Nat, ∀ k : Nat, (madeCells R.z.cells m).toList[k]? = if k < m then some (R.z.cells[k % R.size]!) else none := by
      intro m k
      unfold madeCells
      simp only [Array.toList_map, Array.toList_range, List.getElem?_map, hsz]
      split
      · next h => simp [h]
      · next h => simp [h]
    rw [key]
    have hlen : ((List.replicate n l).flatten).length = n * R.size := by simp [hl]
    rw [List.replicate_succ', List.flatten_append, List.flatten_singleton, List.getElem?_append, hlen]
    by_cases h1 : k < n * R.size
    · rw [if_pos h1, ← ih, key, if_pos h1, if_pos (by rw [Nat.succ_mul]; omega)]
    · rw [if_neg h1]
      by_cases h2 : k < (n + 1) * R.size
      · rw [if_pos h2]
        rw [Nat.succ_mul] at h2
        have hm : k % R.size = k - n * R.size := by
          have e : k = (k - n * R.size) + n * R.size := by omega
          conv => lhs; rw [e]
          rw [Nat.add_mul_mod_self_right, Nat.mod_eq_of_lt (by omega)]
        have hk : k - n * R.size < R.z.cells.size := by omega
        rw [hm, ← hz, Array.getElem?_toList, Array.getElem?_eq_getElem hk, getElem!_pos R.z.cells _ hk]
      · rw [if_neg h2, List.getElem?_eq_none]
        rw [Nat.succ_mul] at h2
        omega
theorem rowOf_rep (z : α) (q l : List Value) (he : R.enc z q = l) : ∀ n : Nat, rowOf R (List.replicate n z) (List.replicate n q) = (List.replicate n l).flatten
  | 0 => rfl
  | n + 1 => by
    show R.enc z q ++ rowOf R (List.replicate n z) (List.replicate n q) = l ++ (List.replicate n l).flatten
    rw [he, rowOf_rep z q l he n]
theorem Hs_rep {w : World} (z : α) (q : List Value) (h : R.has w S z q) : ∀ n : Nat, Hs R w S (List.replicate n z) (List.replicate n q)
  | 0 => trivial
  | n + 1 => ⟨h, Hs_rep z q h n⟩
/-- A row of zero things. -/
theorem rowB_made (w : World) (z : α) (q : List Value) (he : R.enc z q = R.z.cells.toList) (hh : ∀ w', R.has w' S z q) (n : Nat) : RowB R (w.alloc (.cells (madeCells R.z.cells (n * R.size)) R.e)) S w.heap.size (List.replicate n z) := by
  refine ⟨List.replicate n q, _, Bk.new w _ _, ?_, Hs_rep z q (hh _) n⟩
  have hl : (R.enc z q).length = R.size := R.len (hh w)
  rw [rowOf_rep z q _ he n, made_row z _ (by rw [← he]; exact hl) rfl n, List.length_replicate, List.take_of_length_le]
  have : (R.z.cells.toList).length = R.size := by rw [← he]; exact hl
  simp [this]
/-- 'make([]T, n)'. -/
theorem run_made (R : Ty P α) (kl kc : IntKind) (n : Nat) (hn : n ≤ 1000000000) (w : World) :
    (Instr.makeSlice R.t (.int kl (n : Int)) (.int kc (n : Int))).run P w = .ok (.slice (some ⟨w.heap.size, 0, none⟩) n n) (w.alloc (.cells (madeCells R.z.cells (n * R.size)) R.e)) := by
  obtain ⟨i, hi, hz, hs, hb⟩ := info_parts R.info
  have h1 : i.bytes * n ≤ 1000 * 1000000000 := Nat.mul_le_mul (by rw [hb]; exact R.hby) hn
  have hb' : (i.bytes : Int) * (n : Int) ≤ 281474976710656 := by
    have h : ((i.bytes * n : Nat) : Int) ≤ 281474976710656 := by omega
    rwa [Int.natCast_mul] at h
  have hr := run_make (P := P) w R.t R.e i R.z R.ht hi hz kl kc n n (by omega) (Int.le_refl _) hb' (by omega)
  simp only [Int.toNat_natCast, hs] at hr
  exact hr

/-! ## Rows of the call's own -/
theorem rowOf_take : ∀ (l : List α) (qs : List (List Value)) (n : Nat), (∀ (k : Nat) t' u, l[k]? = some t' → qs[k]? = some u → (R.enc t' u).length = R.size) → rowOf R (l.take n) (qs.take n) = (rowOf R l qs).take (n * R.size)
  | [], qs, n, _ => by simp [rowOf]
  | _ :: _, [], n, _ => by cases n <;> simp [rowOf]
  | a :: l, b :: qs, 0, _ => by simp [rowOf]
  | a :: l, b :: qs, n + 1, h => by
    have h0 := h 0 _ _ rfl rfl
    show R.enc a b ++ rowOf R (l.take n) (qs.take n) = (R.enc a b ++ rowOf R l qs).take ((n + 1) * R.size)
    rw [rowOf_take l qs n (fun k t' u h1 h2 => h (k + 1) t' u h1 h2), Nat.succ_mul, List.take_append, List.take_of_length_le (l := R.enc a b) (by omega), show n * R.size + R.size - (R.enc a b).length = n * R.size by omega]
theorem Hs_take {w : World} : ∀ {l : List α} {qs : List (List Value)} (n : Nat), Hs R w S l qs → Hs R w S (l.take n) (qs.take n)
  | [], [], n, _ => by simp [Hs]
  | [], _ :: _, _, h => h.elim
  | _ :: _, [], _, h => h.elim
  | a :: l, b :: qs, 0, h => trivial
  | a :: l, b :: qs, n + 1, h => ⟨h.1, Hs_take n h.2⟩
/-- A row that is cut shorter in its place. -/
theorem own_short {w : World} {B : Nat} {T : Nat → Prop} {ao : Option Addr} {n cap m : Nat} {L : List α} (h : OwnR R w B T (.slice ao n cap) L) (hm : m ≤ L.length) (h0 : 0 < L.length) : OwnR R w B T (.slice ao m cap) (L.take m) := by
  obtain ⟨qs, ⟨h1, h2⟩, h3⟩ := h
  rcases h2 with ⟨_, h2⟩ | ⟨g, cap', cur, hv, hg, hh, hn, hcm, hcs, ht⟩
  · omega
  · cases hv
    refine ⟨qs.take m, ⟨?_, .inr ⟨g, cap, cur, by rw [List.length_take, Nat.min_eq_left hm], hg, hh, by rw [List.length_take]; omega, hcm, hcs, ?_⟩⟩, Hs.mv (Mv.weak _ fun b hb _ => hb) _ _ (Hs_take m h3)⟩
    · rw [rowOf_take _ _ _ (Hs_len h3), List.length_take, h1, List.length_take, Nat.min_eq_left hm, Nat.min_eq_left (Nat.mul_le_mul_right _ hm)]
    · rw [rowOf_take _ _ _ (Hs_len h3), ← ht, List.take_take, List.length_take, Nat.min_eq_left hm, Nat.min_eq_left (Nat.mul_le_mul_right _ hm)]
/-- A cell of a thing of a row of the call's own is written. -/
theorem own_set {w : World} {B g n cap : Nat} {T : Nat → Prop} {l : List α} (h : OwnR R w B T (.slice (some ⟨g, 0, none⟩) n cap) l) {i j : Nat} {t p : α} {v : Value} (ht : l[i]? = some t) (hj : j < R.size) (hc : Turn R w (w.setCell ⟨g, i * R.size + j, none⟩ v) (fun b => T b ∧ (Value.slice (some ⟨g, 0, none⟩) n cap).ownBlock ≠ some b) t p j v) :
    OwnR R (w.setCell ⟨g, i * R.size + j, none⟩ v) B T (.slice (some ⟨g, 0, none⟩) n cap) (l.set i p) := by
  obtain ⟨qs, ⟨h1, h2⟩, h3⟩ := h
  obtain ⟨q, hq, hhas⟩ := Hs_at l qs h3 i t ht
  obtain ⟨q', he, hp⟩ := hc q hhas
  have hl := (List.getElem?_eq_some_iff.1 ht).1
  rcases h2 with ⟨h2, _⟩ | ⟨g', cap', cur, hv, hg, hh, hn, hcm, hcs, htk⟩
  · cases h2
  · have hS : ∀ x, (T x ∧ (Value.slice (some ⟨g, 0, none⟩) n cap).ownBlock ≠ some x) → x ≠ g := fun x hx e => hx.2 (by rw [e]; rfl)
    cases hv
    have hb : Bk w g cur R.e := hh
    refine ⟨qs.set i q', ⟨?_, .inr ⟨g, cap, cur.set! (i * R.size + j) v, by rw [List.length_set], hg, hb.set _ _, by rw [List.length_set]; exact hn, hcm, by simpa using hcs, ?_⟩⟩, Hs_set (Hs.mv (mv_set hS _ _) _ _ h3) i p q' hp⟩
    · rw [rowOf_set l qs i j p t q q' v (Hs_len h3) ht hq he hj, List.length_set, List.length_set]; exact h1
    · rw [rowOf_set l qs i j p t q q' v (Hs_len h3) ht hq he hj, List.length_set, ← htk]
      simp [Array.set!, List.take_set]
/-! ## Appends to a row that has no room -/
theorem full_facts {w : World} {ao : Option Addr} {n : Nat} {l : List α} (h : RowR R w S (.slice ao n n) l) : ∃ olds, n = l.length ∧ olds.length = n * R.size ∧ (∀ b, ao = some b → ∀ j u, olds[j]? = some u → w.cell? (b.add j) = some u) ∧ ∃ qs, olds = rowOf R l qs ∧ Hs R w S l qs := by
  obtain ⟨qs, ⟨ao', cap', hv, hc, hr⟩, hq⟩ := h
  cases hv
  refine ⟨rowOf R l qs, rfl, rowOf_len l qs hq, fun b hb j u hj => ?_, qs, rfl, hq⟩
  rcases hr with hr | ⟨b', off, hb', _, hcell⟩
  · have : l = [] := List.eq_nil_of_length_eq_zero hr
    subst this
    simp [rowOf] at hj
  · rw [hb] at hb'
    cases hb'
    rw [Addr.add_lit]
    exact hcell j u hj
theorem step_full (R : Ty P α) (hflat : ∀ w w' S S' a q, R.has w S a q → R.has w' S' a q) (w : World) {ops : Array Oper} {o : Oper} {a : Act} {K : Act → World → Prop} {Q : Exit → Act → World → Prop} {E' : Prop} (hg : o.guard = none) (s x : Operand)
    (hop : o.op = Op.call { callee := Callee.builtin Builtin.append, args := #[s, x], argTypes := #[R.t, R.t] })
    (ao : Option Addr) (n : Nat) (xv : Value) (L l2 : List α) {S2 : Nat → Prop} (hs : a.eval s = .slice ao n n) (hx : a.eval x = xv)
    (h : RowR R w S (.slice ao n n) L) (h2 : RowR R w S2 xv l2) (h0 : l2 ≠ []) (hn : L.length + l2.length ≤ 100000000000)
    (hK : ∀ ao' n' cap' w', OwnR R w' w.heap.size (fun _ => False) (.slice ao' n' cap') (L ++ l2) → n' = L.length + l2.length → w.grownBy w' none → K (a.put o.dst (.slice ao' n' cap')) w') :
    if Region.wanted o (yielded ops a.tmps) = true then Oper.wp P o a w K Q else E' := by
  obtain ⟨i, hi, hz, hsz, hby⟩ := info_parts R.info
  obtain ⟨olds, hnl, hlo, holds, qs, hol, hq⟩ := full_facts h
  obtain ⟨qs2, ⟨ao2, cap2, rfl, hc2, hr2⟩, hq2⟩ := h2
  have hpos : 0 < l2.length := List.length_pos_iff.2 h0
  obtain ⟨b2, off2, rfl, _, hcell2⟩ := hr2.resolve_left (by omega)
  refine step_append_grows (P := P) hg s x R.t hop R.e i R.z R.size R.bytes R.ht hi hz hsz hby R.hzs R.hsz ao n n olds hs (fun e => ?_) hlo holds ⟨b2, off2, none⟩ l2.length cap2 (rowOf R l2 qs2) hx (rowOf_len l2 qs2 hq2) (fun j u hj => by rw [Addr.add_lit]; exact hcell2 j u hj) (rowOf_one hq2) (by omega) (by unfold maxLen; omega) (Nat.le_trans (Nat.mul_le_mul (by omega : n + l2.length ≤ 100000000000) R.hby) (by decide)) (fun v' w' ho hgr => ?_)
  · obtain ⟨qs', ⟨ao', cap', hv, hc, hr⟩, hq'⟩ := h
    cases hv
    subst e
    rcases hr with hr | ⟨b, off, hb, _⟩
    · rw [hr]; exact ⟨rfl, rfl⟩
    · cases hb
  · have hOW : OwnR R w' w.heap.size (fun _ => False) v' (L ++ l2) := ?_
    · obtain ⟨ao', cap', hv, _⟩ := hOW.val
      subst hv
      exact hK _ _ _ w' hOW (by simp) hgr
    have fl : ∀ (L : List α) (qs : List (List Value)) (S : Nat → Prop), Hs R w S L qs → Hs R w' (fun b => False ∧ v'.ownBlock ≠ some b) L qs := by
      intro L
      induction L with
      | nil => intro qs S h; cases qs with
        | nil => trivial
        | cons a b => exact h.elim
      | cons p L ih => intro qs S h; cases qs with
        | nil => exact h.elim
        | cons q qs => exact ⟨hflat _ _ _ _ _ _ h.1, ih qs S h.2⟩
    refine ⟨qs ++ qs2, ?_, Hs.app (fl _ _ _ hq) (fl _ _ _ hq2)⟩
    rw [List.length_append, rowOf_app _ _ _ _ hq.len, ← hol, ← hnl]
    exact ho
end Go.Proofs.Ytjoifodjbdbicaa.RB

/- Sets of numbers: maps from numbers to nothing, as they lie; what asking for a key and putting one answers. -/
namespace Go.Proofs.Ytjoifodjbdbicaa.RM
open Go.RowKit Go.Proofs.Ytjoifodjbdbicaa.RG
set_option linter.unusedVariables false
set_option maxRecDepth 100000
set_option maxRecDepth 100000

/-- The block r is the map m now. -/
def setMap (w : World) (r : Nat) (o : Obj) : World := { w with heap := w.heap.setIfInBounds r o }
theorem setMap_at {w : World} {r : Nat} {o o' : Obj} (h : w.heap[r]? = some o) : (setMap w r o').heap[r]? = some o' := by
  have := (Array.getElem?_eq_some_iff.1 h).1
  simp [setMap, this]
theorem setMap_other {w : World} (r : Nat) (o : Obj) {k : Nat} (h : k ≠ r) : (setMap w r o).heap[k]? = w.heap[k]? := by
  simp [setMap, Ne.symm h]
theorem setMap_size (w : World) (r : Nat) (o : Obj) : (setMap w r o).heap.size = w.heap.size := by simp [setMap]
theorem setMap_below {w : World} {B r : Nat} (h : B ≤ r) (o : Obj) : Below B w (setMap w r o) :=
  ⟨rfl, rfl, rfl, by simp [setMap], fun k hk => setMap_other r o (by omega)⟩
/-- A set's entries. -/
def entsK : Nat → List Int → List MapEntry
  | _, [] => []
  | i, k :: ks => { key := .int .i64 k, val := .agg #[], born := i } :: entsK (i + 1) ks
theorem entsK_snoc : ∀ (ks : List Int) (i : Nat) (K : Int), entsK i (ks ++ [K]) = entsK i ks ++ [{ key := .int .i64 K, val := .agg #[], born := i + ks.length }]
  | [], i, K => rfl
  | k :: ks, i, K => by
    show _ :: entsK (i + 1) (ks ++ [K]) = _ :: (entsK (i + 1) ks ++ _)
    rw [entsK_snoc ks (i + 1) K]
    congr 3
    simp only [List.length_cons]
    congr 1
    omega
theorem findK_no : ∀ (ks : List Int) (i j : Nat) (K : Int), K ∉ ks → Instr.findNow (.int .i64) (.int .i64 K) (entsK i ks) j = some none
  | [], i, j, K, _ => rfl
  | k :: ks, i, j, K, h => by
    have hne : (K == k) = false := by rw [beq_eq_false_iff_ne]; exact fun e => h (by rw [e]; exact List.mem_cons_self)
    unfold entsK Instr.findNow Instr.sameNow
    simp only [if_pos, hne]
    exact findK_no ks (i + 1) (j + 1) K (fun e => h (List.mem_cons_of_mem _ e))
theorem findK_yes : ∀ (ks : List Int) (i j : Nat) (K : Int), K ∈ ks → ∃ m, Instr.findNow (.int .i64) (.int .i64 K) (entsK i ks) j = some (some (m, .agg #[]))
  | [], i, j, K, h => by cases h
  | k :: ks, i, j, K, h => by
    by_cases e : K = k
    · subst e
      refine ⟨j, ?_⟩
      unfold entsK Instr.findNow Instr.sameNow
      simp
    · have hne : (K == k) = false := by rw [beq_eq_false_iff_ne]; exact e
      obtain ⟨m, hm⟩ := findK_yes ks (i + 1) (j + 1) K ((List.mem_cons.1 h).resolve_left e)
      refine ⟨m, ?_⟩
      unfold entsK Instr.findNow Instr.sameNow
      simp only [if_pos, hne]
      exact hm
/-- The block r is the set of these numbers. -/
def SetB (w : World) (r : Nat) (ks : List Int) : Prop := w.heap[r]? = some (.map (entsK 0 ks).toArray ks.length)
theorem SetB.lt {w : World} {r : Nat} {ks : List Int} (h : SetB w r ks) : r < w.heap.size := (Array.getElem?_eq_some_iff.1 h).1
theorem SetB.keep {w w' : World} {r : Nat} {ks : List Int} (h : SetB w r ks) (hb : Below w.heap.size w w') : SetB w' r ks := (hb.block r h.lt).trans h
theorem SetB.new (w : World) : SetB (w.alloc (.map #[] 0)) w.heap.size [] := heap_alloc_new w _
section
variable {P : Program} {MT KT ET : TypeId}
theorem run_putK (hmap : P.underlying MT = some (.map KT ET)) (hint : P.underlying KT = some (.int .i64)) (w : World) (r : Nat) (ks : List Int) (K : Int) (hK : K ∉ ks) (hb : SetB w r ks) :
    (Instr.mapUpdate MT (.map (some r)) (.int .i64 K) (.agg #[])).run P w = .ok () (setMap w r (.map (entsK 0 (ks ++ [K])).toArray (ks ++ [K]).length)) := by
  unfold SetB at hb
  have hc : (Instr.checkKey false 10000 KT (.int .i64 K)).run P w = .ok () w := MapKept.run_checkKey (k := .int .i64 K) hint (by simp [MapKept.IsKey]) false 9999
  have hf : Instr.findNow (.int .i64) (.int .i64 K) (entsK 0 ks).toArray.toList 0 = some none := by
    rw [List.toList_toArray]
    exact findK_no ks 0 0 K hK
  have hp : (entsK 0 ks).toArray.push { key := .int .i64 K, val := .agg #[], born := ks.length } = (entsK 0 (ks ++ [K])).toArray := by
    rw [entsK_snoc]
    simp
  rw [← hp]
  simp [Instr.mapUpdate, run_underlying hmap, MapKept.run_getObj_map hb, hc, MapKept.run_findKey hint hf, MapKept.run_setObj_map _ hb, Result.andThen, setMap]
theorem run_lookK (hmap : P.underlying MT = some (.map KT ET)) (hint : P.underlying KT = some (.int .i64)) (hz : ∀ w, (zeroValue ET).run P w = .ok (.agg #[]) w) (w : World) (r : Nat) (ks : List Int) (K : Int) (hb : SetB w r ks) :
    (Instr.lookup MT (.map (some r)) (.int .i64 K) true).run P w = .ok (.tuple #[.agg #[], .bool (decide (K ∈ ks))]) w := by
  unfold SetB at hb
  have hc : ∀ b, (Instr.checkKey b 10000 KT (.int .i64 K)).run P w = .ok () w := fun b => MapKept.run_checkKey (k := .int .i64 K) hint (by simp [MapKept.IsKey]) b 9999
  by_cases h : K ∈ ks
  · obtain ⟨m, hm⟩ := findK_yes ks 0 0 K h
    have hf : Instr.findNow (.int .i64) (.int .i64 K) (entsK 0 ks).toArray.toList 0 = some (some (m, .agg #[])) := by rw [List.toList_toArray]; exact hm
    rw [decide_eq_true h]
    simp [Instr.lookup, run_underlying hmap, MapKept.run_getObj_map hb, hc, MapKept.run_findKey hint hf, Result.andThen]
  · have hf : Instr.findNow (.int .i64) (.int .i64 K) (entsK 0 ks).toArray.toList 0 = some none := by rw [List.toList_toArray]; exact findK_no ks 0 0 K h
    rw [decide_eq_false h]
    simp [Instr.lookup, run_underlying hmap, MapKept.run_getObj_map hb, hc, MapKept.run_findKey hint hf, hz, Result.andThen]
end
end Go.Proofs.Ytjoifodjbdbicaa.RM

/- Rows of numbers, of no program; what turns in memory; are two rows alike? -/
namespace Go.Proofs.Ytjoifodjbdbicaa.RI
open Go.RowKit Go.Proofs.Ytjoifodjbdbicaa.RG Go.Proofs.Ytjoifodjbdbicaa.RB
set_option linter.unusedVariables false
set_option maxRecDepth 100000
set_option maxRecDepth 100000

theorem ret_int {a b : Int} (h : a = b) : Ending.returned (.int .i64 a) = Ending.returned (.int .i64 b) := by rw [h]
theorem ret_bool {a b : Bool} (h : a = b) : Ending.returned (.bool a) = Ending.returned (.bool b) := by rw [h]
theorem getElem?_of_lt {α : Type} {l : List α} {k : Nat} (h : k < l.length) : ∃ x, l[k]? = some x := ⟨l[k], List.getElem?_eq_getElem h⟩
def TI : Ty Try.prog Int := Ty.flat 37 3 1 8 (.int .i64 0) (fun n => [.int .i64 n]) Try.underlying37 (by kernel_rfl) rfl (by decide) (by decide) (fun _ => rfl) (fun a u hu => by rw [List.mem_singleton.1 hu]; rfl)
abbrev RowI (w : World) (v : Value) (l : List Int) : Prop := RowR TI w (fun _ => False) v l
/-- Numbers as a block's cells. -/
def xints (L : List Int) : Array Value := (L.map (Value.int .i64)).toArray
theorem xints_at {L : List Int} {k : Nat} {z : Int} (h : L[k]? = some z) : (xints L)[k]? = some (.int .i64 z) := by simp [xints, h]
theorem xints_size (L : List Int) : (xints L).size = L.length := by simp [xints]
theorem xints_set (L : List Int) (i : Nat) (z : Int) : (xints L).set! i (.int .i64 z) = xints (L.set i z) := by
  apply Array.ext'
  simp [xints, List.map_set]
/-- A block of numbers, exactly. -/
abbrev RowN (w : World) (b : Nat) (L : List Int) : Prop := Bk w b (xints L) 3
/-- A block of numbers, of whatever type, is a row. -/
theorem bk_row {w : World} {b : Nat} {L : List Int} {X : TypeId} (h : Bk w b (xints L) X) (off n cap : Nat) (h1 : off + n ≤ L.length) (h2 : n ≤ cap) : RowI w (.slice (some ⟨b, off, none⟩) n cap) ((L.drop off).take n) := by
  have hl : ((L.drop off).take n).length = n := by rw [List.length_take, List.length_drop]; omega
  refine ⟨((L.drop off).take n).map fun _ => [], ⟨_, cap, by rw [hl], by rw [hl]; exact h2, .inr ⟨b, off, rfl, ⟨trivial, h.lt⟩, fun j u hj => ?_⟩⟩, ?_⟩
  · have hr : ∀ l : List Int, rowOf TI l (l.map fun _ => []) = l.map (Value.int .i64) := fun l => by
      induction l with
      | nil => rfl
      | cons x l ih => show [Value.int .i64 x] ++ rowOf TI l (l.map fun _ => []) = _; rw [ih]; rfl
    rw [hr, List.getElem?_map, Option.map_eq_some_iff] at hj
    obtain ⟨z, hz, rfl⟩ := hj
    rw [List.getElem?_take] at hz
    split at hz
    · rw [List.getElem?_drop] at hz
      exact h.cell _ _ (xints_at hz)
    · cases hz
  · generalize (L.drop off).take n = l
    induction l with
    | nil => trivial
    | cons x l ih => exact ⟨rfl, ih⟩
/-- A row of numbers, cell by cell. -/
def HasZ (w : World) (v : Value) (zs : List Int) : Prop :=
  ∃ ao cap, v = .slice ao zs.length cap ∧ zs.length ≤ cap ∧ (zs = [] ∨ ∃ b off, ao = some ⟨b, off, none⟩ ∧ b < w.heap.size ∧ ∀ j (h : j < zs.length), w.cell? ⟨b, off + j, none⟩ = some (.int .i64 zs[j]))
theorem row_has {w : World} {S : Nat → Prop} {v : Value} {l : List Int} (h : RowR TI w S v l) : HasZ w v l := by
  by_cases h0 : l = []
  · subst h0
    obtain ⟨ao, cap, rfl, hc⟩ := h.val
    exact ⟨ao, cap, rfl, hc, .inl rfl⟩
  · obtain ⟨b, off, cap, rfl, hc, hlt, hcells⟩ := h.open_ h0
    refine ⟨_, cap, rfl, hc, .inr ⟨b, off, rfl, hlt, fun j hj => ?_⟩⟩
    obtain ⟨q, hL, _⟩ := hcells j l[j] (List.getElem?_eq_getElem hj)
    have := hL 0 _ rfl
    simpa [TI, Ty.flat] using this
theorem rowOf_ints : ∀ l : List Int, rowOf TI l (l.map fun _ => []) = l.map (Value.int .i64)
  | [] => rfl
  | x :: l => by show [Value.int .i64 x] ++ rowOf TI l (l.map fun _ => []) = _; rw [rowOf_ints l]; rfl
theorem hs_ints (w : World) : ∀ l : List Int, Hs TI w (fun _ => False) l (l.map fun _ => [])
  | [] => trivial
  | _ :: l => ⟨rfl, hs_ints w l⟩
theorem has_row {w : World} {v : Value} {l : List Int} (h : HasZ w v l) : RowI w v l := by
  obtain ⟨ao, cap, rfl, hc, h⟩ := h
  refine ⟨l.map fun _ => [], ⟨ao, cap, rfl, hc, ?_⟩, hs_ints w l⟩
  rcases h with rfl | ⟨b, off, rfl, hlt, hcells⟩
  · exact .inl rfl
  · refine .inr ⟨b, off, rfl, ⟨trivial, hlt⟩, fun j u hj => ?_⟩
    rw [rowOf_ints, List.getElem?_map, Option.map_eq_some_iff] at hj
    obtain ⟨z, hz, rfl⟩ := hj
    have hj := (List.getElem?_eq_some_iff.1 hz)
    rw [hcells j hj.1, hj.2]
theorem rw_row {w : World} {S : Nat → Prop} {q : Value} {l : List Int} (h : Rw w S q l.length (l.map (Value.int .i64))) : RowI w q l := by
  obtain ⟨ao, cap, rfl, hc, h⟩ := h
  apply has_row
  refine ⟨ao, cap, rfl, hc, ?_⟩
  rcases h with h | ⟨b, off, rfl, ⟨_, hlt⟩, hcells⟩
  · exact .inl (List.length_eq_zero_iff.1 h)
  · exact .inr ⟨b, off, rfl, hlt, fun j hj => hcells j _ (by simp [hj])⟩
theorem row_rw {w : World} {S : Nat → Prop} {v : Value} {l : List Int} (h : RowR TI w S v l) : Rw w (fun _ => True) v l.length (l.map (Value.int .i64)) := by
  obtain ⟨ao, cap, rfl, hc, h⟩ := row_has h
  refine ⟨ao, cap, rfl, hc, ?_⟩
  rcases h with rfl | ⟨b, off, rfl, hlt, hcells⟩
  · exact .inl rfl
  · refine .inr ⟨b, off, rfl, ⟨trivial, hlt⟩, fun j u hj => ?_⟩
    rw [List.getElem?_map, Option.map_eq_some_iff] at hj
    obtain ⟨z, hz, rfl⟩ := hj
    obtain ⟨hjl, rfl⟩ := List.getElem?_eq_some_iff.1 hz
    exact hcells j hjl
/-- Nothing but these blocks has turned. -/
structure OnS (S : Nat → Prop) (w w' : World) : Prop where
  os : w'.os = w.os
  tape : w'.tape = w.tape
  output : w'.output = w.output
  size : w.heap.size ≤ w'.heap.size
  block : ∀ k, k < w.heap.size → ¬ S k → w'.heap[k]? = w.heap[k]?
theorem OnS.refl (S : Nat → Prop) (w : World) : OnS S w w := ⟨rfl, rfl, rfl, Nat.le_refl _, fun _ _ _ => rfl⟩
theorem OnS.trans {S : Nat → Prop} {a b c : World} (h : OnS S a b) (k : OnS S b c) : OnS S a c :=
  ⟨k.os.trans h.os, k.tape.trans h.tape, k.output.trans h.output, Nat.le_trans h.size k.size, fun i hi h1 => (k.block i (Nat.lt_of_lt_of_le hi h.size) h1).trans (h.block i hi h1)⟩
theorem OnS.of {S : Nat → Prop} {w w' : World} (h : Below w.heap.size w w') : OnS S w w' := ⟨h.os, h.tape, h.output, h.size, fun k hk _ => h.block k hk⟩
theorem OnS.bk {S : Nat → Prop} {w w' : World} {b : Nat} {c : Array Value} {T : TypeId} (h : OnS S w w') (hk : Bk w b c T) (hn : ¬ S b) : Bk w' b c T := (h.block b hk.lt hn).trans hk
theorem OnS.cell {w : World} (tb i : Nat) (v : Value) : OnS (fun b => b = tb) w (w.setCell ⟨tb, i, none⟩ v) :=
  ⟨rfl, rfl, rfl, by simp, fun k _ hs => Below.heap_setCell _ _ _ _ hs⟩
theorem OnS.weak {S S' : Nat → Prop} {w w' : World} (h : OnS S w w') (hs : ∀ b, b < w.heap.size → S b → S' b) : OnS S' w w' := ⟨h.os, h.tape, h.output, h.size, fun k hk hn => h.block k hk (fun e => hn (hs k hk e))⟩
theorem OnS.below {S : Nat → Prop} {B : Nat} {w w' : World} (h : OnS S w w') (hB : B ≤ w.heap.size) (hS : ∀ b, S b → B ≤ b) : Below B w w' :=
  ⟨h.os, h.tape, h.output, h.size, fun k hk => h.block k (by omega) (fun hs => by have := hS k hs; omega)⟩
/-- What is turned behind a step, of what was turned and what is new. -/
theorem OnS.next {S S' : Nat → Prop} {a b c : World} (h : OnS S a b) (k : OnS S' b c) (hs : ∀ x, S' x → S x ∨ a.heap.size ≤ x) : OnS S a c :=
  ⟨k.os.trans h.os, k.tape.trans h.tape, k.output.trans h.output, Nat.le_trans h.size k.size, fun i hi h1 => (k.block i (Nat.lt_of_lt_of_le hi h.size) (fun e => by rcases hs i e with e | e; exact h1 e; omega)).trans (h.block i hi h1)⟩
theorem row_onS {w w' : World} {S : Nat → Prop} {v : Value} {l : List Int} (h : RowI w v l) (ho : OnS S w w') (hn : ∀ b, v.ownBlock = some b → ¬ S b) : RowI w' v l := by
  obtain ⟨ao, cap, rfl, hc, h⟩ := row_has h
  apply has_row
  refine ⟨ao, cap, rfl, hc, ?_⟩
  rcases h with rfl | ⟨b, off, rfl, hlt, hcells⟩
  · exact .inl rfl
  · exact .inr ⟨b, off, rfl, Nat.lt_of_lt_of_le hlt ho.size, fun j hj => (World.cell?_of_block (ho.block b hlt (hn b rfl))).trans (hcells j hj)⟩
theorem own_onS {P : Program} {α : Type} {R : Ty P α} {w w' : World} {B : Nat} {T : Nat → Prop} {S : Nat → Prop} {v : Value} {L : List α} (h : OwnR R w B T v L) (ho : OnS S w w') (hT : ∀ b, T b → ¬ S b) (hv : ∀ b, v.ownBlock = some b → ¬ S b) : OwnR R w' B T v L := by
  obtain ⟨qs, h1, h2⟩ := h
  refine ⟨qs, ⟨h1.1, ?_⟩, Hs.mv ⟨ho.size, fun b hb hlt => ⟨hb, ho.block b hlt (hT b hb.1)⟩⟩ _ _ h2⟩
  rcases h1.2 with h3 | ⟨g, cap, cur, hv2, hg, hh, r⟩
  · exact .inl h3
  · exact .inr ⟨g, cap, cur, hv2, hg, by rw [ho.block g (Array.getElem?_eq_some_iff.1 hh).1 (hv g (by rw [hv2]; rfl))]; exact hh, r⟩
theorem row_lit (w : World) (l : List Int) (h0 : 0 < l.length) (b : Nat) (X : TypeId) (h : Bk w b (xints l) X) : RowI w (.slice (some ⟨b, 0, none⟩) l.length l.length) l := by
  have := bk_row (L := l) h 0 l.length l.length (by omega) (Nat.le_refl _)
  rwa [List.drop_zero, List.take_length] at this
theorem same_c (w : World) (v v' : Value) (l l' : List Int) (h : RowI w v l) (h' : RowI w v' l') (hm : l.length ≤ 1000000) :
    Calls Try.prog 21 #[v, v'] w fun e w' => e = .returned (.bool (decide (l = l'))) ∧ Below w.heap.size w w' := by
  obtain ⟨ao, cap, rfl, hc, hA⟩ := row_has h
  obtain ⟨ao', cap', rfl, hc', hA'⟩ := row_has h'
  clear h h' hc hc'
  by_cases hl : l.length = l'.length
  · obtain ⟨n, hn⟩ : ∃ n, Hid (l.length = n) := ⟨_, Lib.hid rfl⟩
    rw [hn.out] at hm
    have HN' := Lib.hid (hl.symm.trans hn.out)
    rw [← hl, hn.out]
    have HA := Lib.hid hA
    have HA' := Lib.hid hA'
    clear hl hA hA'
    go_enter Try.func21, Try.ntmps21
    go_wp2_with fail
    go_loopg [5] n (fun g iv wr => ∃ i : Nat, i + g = n ∧ iv = .int .i64 (i : Int) ∧ Hid (l.take i = l'.take i) ∧ Hid (Below w.heap.size w wr))
    case atStart => exact ⟨0, Nat.zero_add _, rfl, Lib.hid rfl, Lib.hid (Below.refl _ _)⟩
    case round =>
      obtain ⟨i, hi, rfl, HT, HX⟩ := hrel
      by_cases hlt : i < n
      · obtain ⟨g', rfl⟩ : ∃ g, gk = g + 1 := ⟨gk - 1, by omega⟩
        have HI := Lib.hid hi
        have q1 : i < l.length := by rw [hn.out]; exact hlt
        have q2 : i < l'.length := by rw [HN'.out]; exact hlt
        rcases HA.out with hz | ⟨b, off, rfl, hbl, hcs⟩
        · rw [hz] at q1; simp at q1
        rcases HA'.out with hz | ⟨b', off', rfl, hbl', hcs'⟩
        · rw [hz] at q2; simp at q2
        have x0 := (HX.out.cell (p := ⟨b, off + i, none⟩) hbl).trans (hcs i q1)
        have y0 := (HX.out.cell (p := ⟨b', off' + i, none⟩) hbl').trans (hcs' i q2)
        obtain ⟨X, hX⟩ : ∃ x, Hid (l[i] = x) := ⟨_, Lib.hid rfl⟩
        obtain ⟨Y, hY⟩ : ∃ x, Hid (l'[i] = x) := ⟨_, Lib.hid rfl⟩
        rw [hX.out] at x0
        rw [hY.out] at y0
        have HS := Lib.hid (show X = Y → l.take (i + 1) = l'.take (i + 1) from fun e => by rw [List.take_add_one, List.take_add_one, List.getElem?_eq_getElem q1, List.getElem?_eq_getElem q2, hX.out, hY.out, e, HT.out])
        have HNE := Lib.hid (show X ≠ Y → decide (l = l') = false from fun e => decide_eq_false fun e2 => e (by subst e2; rw [← hX.out, ← hY.out]))
        have lb : b < wr.heap.size := Nat.lt_of_lt_of_le hbl HX.out.size
        have lb' : b' < wr.heap.size := Nat.lt_of_lt_of_le hbl' HX.out.size
        have i0 : (0 : Int) ≤ (i : Int) := by omega
        have i1 : (i : Int) < (n : Int) := by omega
        clear hcs hcs' hX hY q1 q2 hbl hbl'
        have HC1 := Lib.hid (show wr.drew.cell? ⟨b, off + i, none⟩ = some (.int .i64 X) ∧ wr.drew.cell? ⟨b', off' + i, none⟩ = some (.int .i64 Y) from ⟨x0, y0⟩)
        by_cases e : X = Y
        · subst e
          have HS2 := Lib.hid (HS.out rfl)
          clear HS
          go_wp2_with fail
          go_region_held3 (fun w' => w'.cell? ⟨b, off + i, none⟩ = some (.int .i64 X) ∧ w'.cell? ⟨b', off' + i, none⟩ = some (.int .i64 X)) (first | exact HC1.out | go_keep) (fail)
          go_wp2_with fail
          go_roundg g'
          case rel => exact ⟨i + 1, by have := HI.out; omega, by go_num, HS2, Lib.hid (bnext HX.out (bdr _))⟩
          case measure => omega
        · have hd := HNE.out e
          have e1 : (X != Y) = true := by rw [bne_iff_ne]; exact e
          clear HNE
          go_wp2_with fail
          go_region_held3 (fun w' => w'.cell? ⟨b, off + i, none⟩ = some (.int .i64 X) ∧ w'.cell? ⟨b', off' + i, none⟩ = some (.int .i64 Y)) (first | exact HC1.out | go_keep) (fail)
          go_wp2_with fail
          go_ret
          rw [hd]
          exact ⟨rfl, bnext HX.out (bdr _)⟩
      · have hd : decide (l = l') = true := decide_eq_true (by have := HT.out; rw [List.take_of_length_le (by rw [hn.out]; omega), List.take_of_length_le (by rw [HN'.out]; omega)] at this; exact this)
        go_wp2_with fail
        go_ret
        rw [hd]
        exact ⟨rfl, HX.out⟩
  · have hd : decide (l = l') = false := decide_eq_false (fun e => hl (by rw [e]))
    rw [hd]
    obtain ⟨n, hn⟩ : ∃ n, l.length = n := ⟨_, rfl⟩
    obtain ⟨n', hn'⟩ : ∃ n, l'.length = n := ⟨_, rfl⟩
    rw [hn, hn'] at hl ⊢
    have e1 : ((n : Int) != (n' : Int)) = true := by rw [bne_iff_ne]; omega
    clear hA hA' hd hn hn'
    go_enter Try.func21, Try.ntmps21
    go_wp2_with fail
    go_ret
    exact ⟨rfl, Below.refl _ _⟩
end Go.Proofs.Ytjoifodjbdbicaa.RI
