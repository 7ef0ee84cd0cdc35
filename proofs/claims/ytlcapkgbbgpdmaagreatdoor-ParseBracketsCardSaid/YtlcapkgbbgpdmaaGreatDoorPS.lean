/- The parser behind its pointer: the tokens that are left, the two maps, how deep, the first error. What a part of it leaves. -/
import Derived.Test.YtlcapkgbbgpdmaaGreatDoorPN
import Derived.Test.YtlcapkgbbgpdmaaGreatDoorYT
namespace Go.Proofs.YtlcapkgbbgpdmaaGreatDoor.PS
open Go.RowKit Go.Proofs.YtlcapkgbbgpdmaaGreatDoor.P Go.Proofs.YtlcapkgbbgpdmaaGreatDoor.A Go.Proofs.YtlcapkgbbgpdmaaGreatDoor.TK Go.Proofs.YtlcapkgbbgpdmaaGreatDoor.TO Go.Proofs.YtlcapkgbbgpdmaaGreatDoor.GR Go.Proofs.YtlcapkgbbgpdmaaGreatDoor.MP Go.Proofs.YtlcapkgbbgpdmaaGreatDoor.YR Go.Proofs.YtlcapkgbbgpdmaaGreatDoor.PN
set_option linter.unusedVariables false
set_option maxRecDepth 100000

/-- Tokens that end with the end, and hold it nowhere else. -/
def Ends : List Tok → Prop
  | [] => False
  | [t] => t.k = 0
  | t :: u :: r => t.k ≠ 0 ∧ Ends (u :: r)
theorem Ends.ne {ts : List Tok} (h : Ends ts) : ts ≠ [] := by
  cases ts with
  | nil => exact h.elim
  | cons t r => simp
theorem Ends.pos {ts : List Tok} (h : Ends ts) : 1 ≤ ts.length := by
  cases ts with
  | nil => exact h.elim
  | cons t r => simp
theorem Ends.tail {ts : List Tok} (h : Ends ts) (hk : (hd ts).k ≠ 0) : Ends ts.tail := by
  match ts, h with
  | [t], h => exact absurd h hk
  | t :: u :: r, h => exact h.2
theorem Ends.two {ts : List Tok} (h : Ends ts) (hk : (hd ts).k ≠ 0) : 2 ≤ ts.length := by
  match ts, h with
  | [t], h => exact absurd h hk
  | t :: u :: r, h => simp
theorem Ends.last : ∀ {ts : List Tok}, Ends ts → Ends (ts.drop (ts.length - 1)) ∧ (ts.drop (ts.length - 1)).length = 1
  | [t], h => ⟨h, rfl⟩
  | t :: u :: r, h => by
    have := Ends.last h.2
    have e : (t :: u :: r).drop ((t :: u :: r).length - 1) = (u :: r).drop ((u :: r).length - 1) := by
      simp
    rw [e]
    exact this

structure En where
  r : Nat
  tb : Nat
  m1 : Nat
  m2 : Nat
def En.Lt (E : En) (B : Nat) : Prop := E.r < B ∧ E.tb < B ∧ E.m1 < B ∧ E.m2 < B
theorem En.Lt.mono {E : En} {B C : Nat} (h : E.Lt B) (hl : B ≤ C) : E.Lt C := ⟨Nat.lt_of_lt_of_le h.1 hl, Nat.lt_of_lt_of_le h.2.1 hl, Nat.lt_of_lt_of_le h.2.2.1 hl, Nat.lt_of_lt_of_le h.2.2.2 hl⟩

def fv (n : FuncId) : Value := .func (.func n) #[] #[]
def expMap : Array MapEntry := #[{ key := .string ⟨#[108, 101, 116]⟩, val := fv 63, born := 0 }, { key := .string ⟨#[102, 117, 110]⟩, val := fv 64, born := 1 }, { key := .string ⟨#[105, 102]⟩, val := fv 65, born := 2 }]
def atomMap : Array MapEntry := #[{ key := .string ⟨#[40]⟩, val := fv 66, born := 0 }, { key := .string ⟨#[114, 101, 116, 114, 121]⟩, val := fv 67, born := 1 },
  { key := .string ⟨#[109, 97, 116, 99, 104]⟩, val := fv 68, born := 2 }, { key := .string ⟨#[116, 114, 121]⟩, val := fv 69, born := 3 }]

def pcells (E : En) (s : St) (d : Nat) (j : Bool) (off cap : Nat) : Array Value := #[.slice (some ⟨E.tb, off, none⟩) s.ts.length cap, .map (some E.m1), .map (some E.m2), .int .i64 (d : Int), .bool j, .int .i64 (s.e : Int), .int .i64 (s.p : Int)]
structure PS (w : World) (E : En) (s : St) (d : Nat) (j : Bool) : Prop where
  blk : ∃ off cap, w.heap[E.r]? = some (.cells (pcells E s d j off cap) 75 (0, 0)) ∧ s.ts.length ≤ cap ∧ (cap ≤ 9223372036854775807 ∧ s.ts.length ≤ 4000) ∧ ∀ i (h : i < s.ts.length) k, k < 4 → w.cell? ⟨E.tb, off + (4 * i + k), none⟩ = (tcell s.ts[i])[k]?
  ok : Ends s.ts
  lt : E.Lt w.heap.size
  ne : E.tb ≠ E.r
  m1 : w.heap[E.m1]? = some (.map expMap 3)
  m2 : w.heap[E.m2]? = some (.map atomMap 4)
  deep : d ≤ 40

theorem PS.below {w w' : World} {E : En} {s : St} {d : Nat} {j : Bool} {B : Nat} (h : PS w E s d j) (hE : E.Lt B) (hb : Below B w w') : PS w' E s d j := by
  obtain ⟨off, cap, h1, h2, h2', h3⟩ := h.blk
  exact ⟨⟨off, cap, (hb.block _ hE.1).trans h1, h2, h2', fun i hi k hk => (hb.cell (p := ⟨E.tb, off + (4 * i + k), none⟩) hE.2.1).trans (h3 i hi k hk)⟩, h.ok, h.lt.mono hb.size, h.ne, (hb.block _ hE.2.2.1).trans h.m1, (hb.block _ hE.2.2.2).trans h.m2, h.deep⟩
/-- What a part of the parser leaves: the parser, and all that was there but the parser's block. -/
structure Out (w : World) (E : En) (s : St) (d : Nat) (j : Bool) (w' : World) : Prop where
  ps : PS w' E s d j
  gr : Gr E.r w w'

theorem Out.of_below {w w' : World} {E : En} {s : St} {d : Nat} {j : Bool} (h : PS w E s d j) (hb : Below w.heap.size w w') : Out w E s d j w' :=
  ⟨h.below h.lt hb, ⟨hb.os, hb.tape, hb.output, hb.size, fun k hk _ => hb.block k hk⟩⟩
/-- In the midst of a part that began at w0. -/
structure Lc (w0 : World) (E : En) (s : St) (d : Nat) (j : Bool) (w : World) : Prop where
  ps : PS w E s d j
  gr : Gr E.r w0 w
  lt : E.Lt w0.heap.size
theorem Lc.start {w : World} {E : En} {s : St} {d : Nat} {j : Bool} (h : PS w E s d j) : Lc w E s d j w := ⟨h, Gr.refl _ _, h.lt⟩
theorem Lc.out {w0 w : World} {E : En} {s : St} {d : Nat} {j : Bool} (h : Lc w0 E s d j w) : Out w0 E s d j w := ⟨h.ps, h.gr⟩
theorem Lc.low {w0 w w' : World} {E : En} {s : St} {d : Nat} {j : Bool} (h : Lc w0 E s d j w) (hb : Below w0.heap.size w w') : Lc w0 E s d j w' :=
  ⟨h.ps.below h.lt hb, ⟨hb.os.trans h.gr.os, hb.tape.trans h.gr.tape, hb.output.trans h.gr.output, Nat.le_trans h.gr.size hb.size, fun k hk hn => (hb.block k hk).trans (h.gr.block k hk hn)⟩, h.lt⟩
theorem Lc.call {w0 w w' : World} {E : En} {s s' : St} {d d' : Nat} {j j' : Bool} (h : Lc w0 E s d j w) (o : Out w E s' d' j' w') : Lc w0 E s' d' j' w' := ⟨o.ps, h.gr.trans o.gr, h.lt⟩
theorem Lc.alloc {w0 w : World} {E : En} {s : St} {d : Nat} {j : Bool} (h : Lc w0 E s d j w) (o : Obj) : Lc w0 E s d j (w.alloc o) := h.low ((Below.refl _ _).alloc h.gr.size o)
theorem Lc.set {w0 w : World} {E : En} {s : St} {d : Nat} {j : Bool} (h : Lc w0 E s d j w) {b : Nat} (hb : w0.heap.size ≤ b) (i : Nat) (v : Value) : Lc w0 E s d j (w.setCell ⟨b, i, none⟩ v) := h.low ((Below.refl _ _).setCell hb v)
theorem Lc.drew {w0 w : World} {E : En} {s : St} {d : Nat} {j : Bool} (h : Lc w0 E s d j w) : Lc w0 E s d j w.drew := h.low ((Below.refl _ _).drew)
theorem Lc.drewN {w0 w : World} {E : En} {s : St} {d : Nat} {j : Bool} (h : Lc w0 E s d j w) (n : Nat) : Lc w0 E s d j (w.drewN n) := h.low ⟨rfl, rfl, rfl, Nat.le_refl _, fun _ _ => rfl⟩
theorem Lc.below {w0 w w' : World} {E : En} {s : St} {d : Nat} {j : Bool} (h : Lc w0 E s d j w) (hb : Below w.heap.size w w') : Lc w0 E s d j w' := h.low (hb.mono h.gr.size)
theorem Lc.grown {w0 w w' : World} {E : En} {s : St} {d : Nat} {j : Bool} {row : Option Nat} (h : Lc w0 E s d j w) (hg : w.grownBy w' row) (hr : ∀ k, row = some k → w0.heap.size ≤ k) : Lc w0 E s d j w' := h.low ((Below.refl _ _).grown hg h.gr.size hr)

theorem heap_at (w : World) (o : Obj) (n : Nat) (h : w.heap.size = n) : (w.alloc o).heap[n]? = some o := by subst h; exact heap_alloc_new w o
/-- A block of the part's own. -/
def Bk (w : World) (b : Nat) (c : Array Value) (t : TypeId) : Prop := w.heap[b]? = some (.cells c t (0, 0))
theorem Bk.lt {w : World} {b : Nat} {c : Array Value} {t : TypeId} (h : Bk w b c t) : b < w.heap.size := lt_of_block h
theorem Bk.new (w : World) (c : Array Value) (t : TypeId) : Bk (w.alloc (.cells c t)) w.heap.size c t := heap_alloc_new w _
theorem set_size (w : World) (a : Addr) (v : Value) : (w.setCell a v).heap.size = w.heap.size := by simp [World.setCell]
theorem Bk.gr {w w' : World} {b r : Nat} {c : Array Value} {t : TypeId} (h : Bk w b c t) (hg : Gr r w w') (hn : b ≠ r) : Bk w' b c t := (hg.block b h.lt (fun e => hn (Option.some.inj e))).trans h
theorem Bk.grown {w w' : World} {b : Nat} {row : Option Nat} {c : Array Value} {t : TypeId} (h : Bk w b c t) (hg : w.grownBy w' row) (hn : row ≠ some b) : Bk w' b c t := (hg.block b h.lt (fun e => hn e.symm)).trans h
theorem Bk.alloc {w : World} {b : Nat} {c : Array Value} {t : TypeId} (h : Bk w b c t) (o : Obj) : Bk (w.alloc o) b c t := (Below.heap_alloc _ _ _ h.lt).trans h
theorem Bk.other {w : World} {b b' : Nat} {c : Array Value} {t : TypeId} (h : Bk w b c t) (hn : b ≠ b') (i : Nat) (v : Value) : Bk (w.setCell ⟨b', i, none⟩ v) b c t := (Below.heap_setCell _ _ _ _ hn).trans h
theorem Bk.set {w : World} {b : Nat} {c : Array Value} {t : TypeId} (h : Bk w b c t) (i : Nat) (v : Value) : Bk (w.setCell ⟨b, i, none⟩ v) b (c.set! i v) t := by
  have hlt := h.lt
  unfold Bk at h ⊢
  have h' : w.heap[b] = .cells c t (0, 0) := by simpa [Array.getElem?_eq_getElem hlt] using h
  show (w.heap.modify b _)[b]? = _
  rw [Array.getElem?_eq_getElem (by simpa using hlt), Array.getElem_modify_self, h']
  simp
theorem Bk.cell {w : World} {b : Nat} {c : Array Value} {t : TypeId} (h : Bk w b c t) (i : Nat) (v : Value) (hv : c[i]? = some v) : w.cell? ⟨b, i, none⟩ = some v := by
  unfold Bk at h; simp [World.cell?, h, hv]
theorem Bk.free {w : World} {b : Nat} {c : Array Value} {t : TypeId} (h : Bk w b c t) (i : Nat) : w.frozen? ⟨b, i, none⟩ = false := by
  unfold Bk at h; simp [World.frozen?, h]
theorem Bk.c4 {w : World} {b : Nat} {v0 v1 v2 v3 : Value} {t : TypeId} (h : Bk w b #[v0, v1, v2, v3] t) : w.cell? ⟨b, 0, none⟩ = some v0 ∧ w.cell? ⟨b, 1, none⟩ = some v1 ∧ w.cell? ⟨b, 2, none⟩ = some v2 ∧ w.cell? ⟨b, 3, none⟩ = some v3 :=
  ⟨h.cell 0 _ rfl, h.cell 1 _ rfl, h.cell 2 _ rfl, h.cell 3 _ rfl⟩
theorem Bk.c6 {w : World} {b : Nat} {v0 v1 v2 v3 v4 v5 : Value} {t : TypeId} (h : Bk w b #[v0, v1, v2, v3, v4, v5] t) : w.cell? ⟨b, 0, none⟩ = some v0 ∧ w.cell? ⟨b, 1, none⟩ = some v1 ∧ w.cell? ⟨b, 2, none⟩ = some v2 ∧ w.cell? ⟨b, 3, none⟩ = some v3 ∧ w.cell? ⟨b, 4, none⟩ = some v4 ∧ w.cell? ⟨b, 5, none⟩ = some v5 :=
  ⟨h.cell 0 _ rfl, h.cell 1 _ rfl, h.cell 2 _ rfl, h.cell 3 _ rfl, h.cell 4 _ rfl, h.cell 5 _ rfl⟩
theorem Bk.f4 {w : World} {b : Nat} {c : Array Value} {t : TypeId} (h : Bk w b c t) : w.frozen? ⟨b, 0, none⟩ = false ∧ w.frozen? ⟨b, 1, none⟩ = false ∧ w.frozen? ⟨b, 2, none⟩ = false ∧ w.frozen? ⟨b, 3, none⟩ = false :=
  ⟨h.free 0, h.free 1, h.free 2, h.free 3⟩
theorem Bk.f6 {w : World} {b : Nat} {c : Array Value} {t : TypeId} (h : Bk w b c t) : w.frozen? ⟨b, 0, none⟩ = false ∧ w.frozen? ⟨b, 1, none⟩ = false ∧ w.frozen? ⟨b, 2, none⟩ = false ∧ w.frozen? ⟨b, 3, none⟩ = false ∧ w.frozen? ⟨b, 4, none⟩ = false ∧ w.frozen? ⟨b, 5, none⟩ = false :=
  ⟨h.free 0, h.free 1, h.free 2, h.free 3, h.free 4, h.free 5⟩
theorem Bk.drew {w : World} {b : Nat} {c : Array Value} {t : TypeId} (h : Bk w b c t) : Bk w.drew b c t := h

section
variable {w : World} {E : En} {s : St} {d : Nat} {j : Bool} {off cap : Nat} (h : Bk w E.r (pcells E s d j off cap) 75)
include h
theorem pc0 : w.cell? ⟨E.r, 0, none⟩ = some (.slice (some ⟨E.tb, off, none⟩) s.ts.length cap) := h.cell 0 _ rfl
theorem pc1 : w.cell? ⟨E.r, 1, none⟩ = some (.map (some E.m1)) := h.cell 1 _ rfl
theorem pc2 : w.cell? ⟨E.r, 2, none⟩ = some (.map (some E.m2)) := h.cell 2 _ rfl
theorem pc3 : w.cell? ⟨E.r, 3, none⟩ = some (.int .i64 (d : Int)) := h.cell 3 _ rfl
theorem pc4 : w.cell? ⟨E.r, 4, none⟩ = some (.bool j) := h.cell 4 _ rfl
theorem pc5 : w.cell? ⟨E.r, 5, none⟩ = some (.int .i64 (s.e : Int)) := h.cell 5 _ rfl
theorem pc6 : w.cell? ⟨E.r, 6, none⟩ = some (.int .i64 (s.p : Int)) := h.cell 6 _ rfl
end
/-- The parser's cells. -/
theorem PS.cells {w : World} {E : En} {s : St} {d : Nat} {j : Bool} (h : PS w E s d j) : ∃ off cap, Bk w E.r (pcells E s d j off cap) 75 ∧ s.ts.length ≤ cap ∧ (cap ≤ 9223372036854775807 ∧ s.ts.length ≤ 4000) ∧ 1 ≤ s.ts.length ∧
    w.cell? ⟨E.tb, off, none⟩ = some (.int .i64 ((hd s.ts).k : Int)) ∧ w.cell? ⟨E.tb, off + 1, none⟩ = some (.string ⟨(hd s.ts).t.toArray⟩) ∧ w.cell? ⟨E.tb, off + 2, none⟩ = some (.int .i64 ((hd s.ts).n : Int)) ∧ w.cell? ⟨E.tb, off + 3, none⟩ = some (.int .i64 ((hd s.ts).p : Int)) := by
  obtain ⟨off, cap, h1, h2, h2', h3⟩ := h.blk
  have hp := h.ok.pos
  have e : s.ts[0]'(by omega) = hd s.ts := by
    have : s.ts[0]? = some (hd s.ts) := by
      cases hts : s.ts with
      | nil => rw [hts] at hp; simp at hp
      | cons a r => simp
    rw [List.getElem?_eq_getElem (by omega)] at this
    exact Option.some.inj this
  have h4 := h3 0 (by omega)
  rw [e] at h4
  exact ⟨off, cap, h1, h2, h2', hp, h4 0 (by decide), h4 1 (by decide), h4 2 (by decide), h4 3 (by decide)⟩
/-- A new row of cells in the parser's block: the same tokens behind the first ones. -/
theorem PS.turn {w w' : World} {E : En} {s s' : St} {d d' : Nat} {j j' : Bool} {off cap : Nat} (h : PS w E s d j)
    (hb : Bk w E.r (pcells E s d j off cap) 75) (hb' : Bk w' E.r (pcells E s' d' j' (off + 4 * (s.ts.length - s'.ts.length)) (cap - (s.ts.length - s'.ts.length))) 75) (hs : w.heap.size ≤ w'.heap.size)
    (hk : ∀ k, k < w.heap.size → k ≠ E.r → w'.heap[k]? = w.heap[k]?) (hts : s'.ts = s.ts.drop (s.ts.length - s'.ts.length)) (hl : s'.ts.length ≤ s.ts.length) (ho : Ends s'.ts) (hd' : d' ≤ 40) : PS w' E s' d' j' := by
  obtain ⟨off2, cap2, h1, h2, h2', h3⟩ := h.blk
  have e := hb.symm.trans h1
  have e := Option.some.inj e
  simp [pcells] at e
  have eo : off2 = off := e.1.symm
  have ec : cap2 = cap := e.2.symm
  subst eo
  subst ec
  have hne1 : E.m1 ≠ E.r := fun e => by have := h.m1; rw [e, h1] at this; cases this
  have hne2 : E.m2 ≠ E.r := fun e => by have := h.m2; rw [e, h1] at this; cases this
  refine ⟨⟨_, _, hb', by omega, by omega, fun i hi k hk4 => ?_⟩, ho, h.lt.mono hs, h.ne, (hk _ h.lt.2.2.1 hne1).trans h.m1, (hk _ h.lt.2.2.2 hne2).trans h.m2, hd'⟩
  have hi2 : s.ts.length - s'.ts.length + i < s.ts.length := by omega
  have ei : s'.ts[i] = s.ts[s.ts.length - s'.ts.length + i] := by
    have : s'.ts[i]? = s.ts[s.ts.length - s'.ts.length + i]? := by
      conv => lhs; rw [hts]
      rw [List.getElem?_drop]
    rw [List.getElem?_eq_getElem hi, List.getElem?_eq_getElem hi2] at this
    exact Option.some.inj this
  rw [ei, World.cell?_of_block (w := w) (a := ⟨E.tb, _, none⟩) (hk _ h.lt.2.1 h.ne)]
  rw [show off2 + 4 * (s.ts.length - s'.ts.length) + (4 * i + k) = off2 + (4 * (s.ts.length - s'.ts.length + i) + k) from by omega]
  exact h3 _ hi2 k hk4
/-- What is stored into one of the part's own blocks. -/
theorem Lc.put4 {w0 w : World} {E : En} {s : St} {d : Nat} {j : Bool} (h : Lc w0 E s d j w) {b : Nat} (hb : w0.heap.size ≤ b) (v0 v1 v2 v3 : Value) :
    Lc w0 E s d j ((((w.setCell ⟨b, 0, none⟩ v0).setCell ⟨b, 1, none⟩ v1).setCell ⟨b, 2, none⟩ v2).setCell ⟨b, 3, none⟩ v3) := (((h.set hb 0 v0).set hb 1 v1).set hb 2 v2).set hb 3 v3
theorem Lc.put6 {w0 w : World} {E : En} {s : St} {d : Nat} {j : Bool} (h : Lc w0 E s d j w) {b : Nat} (hb : w0.heap.size ≤ b) (v0 v1 v2 v3 v4 v5 : Value) :
    Lc w0 E s d j ((((((w.setCell ⟨b, 0, none⟩ v0).setCell ⟨b, 1, none⟩ v1).setCell ⟨b, 2, none⟩ v2).setCell ⟨b, 3, none⟩ v3).setCell ⟨b, 4, none⟩ v4).setCell ⟨b, 5, none⟩ v5) := (h.put4 hb v0 v1 v2 v3).set hb 4 v4 |>.set hb 5 v5
theorem Bk.put6 {w : World} {b : Nat} {u0 u1 u2 u3 u4 u5 : Value} {t : TypeId} (h : Bk w b #[u0, u1, u2, u3, u4, u5] t) (v0 v1 v2 v3 v4 v5 : Value) :
    Bk ((((((w.setCell ⟨b, 0, none⟩ v0).setCell ⟨b, 1, none⟩ v1).setCell ⟨b, 2, none⟩ v2).setCell ⟨b, 3, none⟩ v3).setCell ⟨b, 4, none⟩ v4).setCell ⟨b, 5, none⟩ v5) b #[v0, v1, v2, v3, v4, v5] t := ((((((h.set 0 v0).set 1 v1).set 2 v2).set 3 v3).set 4 v4).set 5 v5)
theorem Bk.put6o {w : World} {b b' : Nat} {c : Array Value} {t : TypeId} (h : Bk w b c t) (hn : b ≠ b') (v0 v1 v2 v3 v4 v5 : Value) :
    Bk ((((((w.setCell ⟨b', 0, none⟩ v0).setCell ⟨b', 1, none⟩ v1).setCell ⟨b', 2, none⟩ v2).setCell ⟨b', 3, none⟩ v3).setCell ⟨b', 4, none⟩ v4).setCell ⟨b', 5, none⟩ v5) b c t := ((((((h.other hn 0 v0).other hn 1 v1).other hn 2 v2).other hn 3 v3).other hn 4 v4).other hn 5 v5)
/-- The parser's own cells are turned: a store. -/
theorem Lc.turn {w0 w : World} {E : En} {s s' : St} {d d' : Nat} {j j' : Bool} {off cap : Nat} (h : Lc w0 E s d j w) (hb : Bk w E.r (pcells E s d j off cap) 75) (i : Nat) (v : Value)
    (hc : (pcells E s d j off cap).set! i v = pcells E s' d' j' (off + 4 * (s.ts.length - s'.ts.length)) (cap - (s.ts.length - s'.ts.length)))
    (hts : s'.ts = s.ts.drop (s.ts.length - s'.ts.length)) (hl : s'.ts.length ≤ s.ts.length) (ho : Ends s'.ts) (hd' : d' ≤ 40) : Lc w0 E s' d' j' (w.setCell ⟨E.r, i, none⟩ v) :=
  ⟨h.ps.turn hb (by rw [← hc]; exact hb.set i v) (by simp [World.setCell]) (fun k hk hn => Below.heap_setCell _ _ _ _ hn) hts hl ho hd', h.gr.setCell i v, h.lt⟩
end Go.Proofs.YtlcapkgbbgpdmaaGreatDoor.PS
