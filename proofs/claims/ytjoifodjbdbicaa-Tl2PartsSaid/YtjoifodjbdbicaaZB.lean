/- ZB: several texts in one (UA UB). -/
import Derived.Test.YtjoifodjbdbicaaZA
import Derived.Deep.Cut
import Derived.Deep.RegionLaw
import Derived.Deep.RegionLawGrows

/- An engine of transactions, plainly. -/
namespace Go.Proofs.Ytjoifodjbdbicaa.UA
set_option linter.unusedVariables false
set_option maxRecDepth 100000
set_option maxRecDepth 100000

/-- A var: its value, its version, whose lock it is. -/
structure Vr where
  val : Int
  ver : Int
  lock : Int
deriving DecidableEq
/-- A write of a part. -/
structure Pt where
  n : Int
  v : Int
  part : Int
deriving DecidableEq
/-- A transaction. -/
structure Tx where
  is : Bool
  start : Int
  reads : List Int
  puts : List Pt
  parts : Int
  commits : Bool
  stamp : Int
  done : Int
deriving DecidableEq
structure Eg where
  clock : Int
  V : List Vr
  T : List Tx
deriving DecidableEq
def tx0 : Tx := ⟨false, 0, [], [], 0, false, 0, 0⟩
def newR : Eg := ⟨0, [], List.replicate 8 tx0⟩
/-- A thread's. -/
def thR (E : Eg) (t : Int) : Option Tx := if 0 ≤ t then E.T[t.toNat]? else none
def vrR (E : Eg) (n : Int) : Option Vr := if 0 ≤ n then E.V[n.toNat]? else none
def opn (x : Tx) : Bool := x.is && !x.commits
def hasR (E : Eg) (t : Int) : Bool := match thR E t with
  | some x => x.is
  | none => false
def openR (E : Eg) (t : Int) : Bool := match thR E t with
  | some x => opn x
  | none => false
def setT (E : Eg) (t : Int) (x : Tx) : Eg := { E with T := E.T.set t.toNat x }
def makeR (E : Eg) (v : Int) : Eg × Int × Int := if E.V.length = 4000 then (E, 0, 16) else ({ E with V := E.V ++ [⟨v, 0, -1⟩] }, E.V.length, 0)
def tx1 (c : Int) : Tx := ⟨true, c, [], [], 1, false, 0, 0⟩
def beginR (E : Eg) (t : Int) : Eg × Int := match thR E t with
  | some x => if x.is then (E, 1) else (setT E t (tx1 E.clock), 0)
  | none => (E, 1)
/-- May a thread read a var? -/
def lookR (start t : Int) (v : Vr) : Int := if 0 ≤ v.lock ∧ v.lock ≠ t then 32 else if start < v.ver then 33 else 0
def bestS (n : Int) (b : Option Pt) (p : Pt) : Option Pt := if p.n = n then (match b with
  | none => some p
  | some q => if q.part < p.part then some p else b) else b
/-- The youngest part's write of a var. -/
def bestR (n : Int) (l : List Pt) : Option Pt := l.foldl (bestS n) none
/-- What is read: the reads behind it, the value, the error. -/
def readX (x : Tx) (v : Vr) (t n : Int) : List Int × Int × Int := match bestR n x.puts with
  | some p => (x.reads, p.v, 0)
  | none => if lookR x.start t v = 0 then (if n ∈ x.reads then x.reads else x.reads ++ [n], v.val, 0) else (x.reads, 0, lookR x.start t v)
def readR (E : Eg) (t n : Int) : Eg × Int × Int := match thR E t, vrR E n with
  | some x, some v => if opn x then (setT E t { x with reads := (readX x v t n).1 }, (readX x v t n).2) else (E, 0, 1)
  | _, _ => (E, 0, 1)
def putR (n v part : Int) : List Pt → List Pt
  | [] => [⟨n, v, part⟩]
  | p :: l => if p.n = n ∧ p.part = part then ⟨p.n, v, p.part⟩ :: l else p :: putR n v part l
def writeR (E : Eg) (t n v : Int) : Eg × Int := match thR E t, vrR E n with
  | some x, some _ => if opn x then (setT E t { x with puts := putR n v x.parts x.puts }, 0) else (E, 1)
  | _, _ => (E, 1)
def partR (E : Eg) (t : Int) : Eg × Int := match thR E t with
  | some x => if opn x then (setT E t { x with parts := x.parts + 1 }, 0) else (E, 1)
  | none => (E, 1)
def joinS (k : Int) (l : List Pt) (p : Pt) : List Pt := putR p.n p.v (k - 1) l
def shutX (x : Tx) (keep : Bool) : List Pt :=
  if keep then (x.puts.filter fun p => decide (p.part = x.parts)).foldl (joinS x.parts) (x.puts.filter fun p => !decide (p.part = x.parts)) else x.puts.filter fun p => !decide (p.part = x.parts)
def shutR (E : Eg) (t : Int) (keep : Bool) : Eg × Int := match thR E t with
  | some x => if opn x ∧ x.parts ≠ 1 then (setT E t { x with puts := shutX x keep, parts := x.parts - 1 }, 0) else (E, 1)
  | none => (E, 1)
/-- The first error of what was read. -/
def validL (V : List Vr) (start t : Int) : List Int → Int
  | [] => 0
  | n :: l => match V[n.toNat]? with
    | some v => if lookR start t v = 0 then validL V start t l else lookR start t v
    | none => validL V start t l
def validR (E : Eg) (t : Int) : Int := match thR E t with
  | some x => if opn x then validL E.V x.start t x.reads else 1
  | none => 1
def nextS (part last : Int) (b : Option Pt) (p : Pt) : Option Pt := if p.part = part ∧ last < p.n then (match b with
  | none => some p
  | some q => if p.n < q.n then some p else b) else b
/-- The least write of a part above a var. -/
def nextR (l : List Pt) (part last : Int) : Option Pt := l.foldl (nextS part last) none
def sortF (l : List Pt) (part : Int) : Nat → Int → List Pt
  | 0, _ => []
  | f + 1, last => match nextR l part last with
    | none => []
    | some p => p :: sortF l part f p.n
/-- The writes of a part, by the vars. -/
def sortR (l : List Pt) (part : Int) : List Pt := sortF l part (l.length + 1) (-1)
/-- The first of them that is not locked by a thread. -/
def firstR (V : List Vr) (t : Int) : List Pt → Option (Int × Vr)
  | [] => none
  | p :: l => match V[p.n.toNat]? with
    | some v => if v.lock = t then firstR V t l else some (p.n, v)
    | none => firstR V t l
def stepR (E : Eg) (t : Int) : Eg × Int × Int := match thR E t with
  | none => (E, 0, 1)
  | some x => if x.is = false ∨ 1 < x.parts then (E, 0, 1) else
    if 0 < x.stamp then (match (sortR x.puts 1)[x.done.toNat]? with
      | none => (E, 0, 0)
      | some p => if x.done + 1 < (sortR x.puts 1).length then
          ({ setT E t { x with commits := true, done := x.done + 1 } with V := E.V.set p.n.toNat ⟨p.v, x.stamp, -1⟩ }, 3, 0)
        else ({ setT E t tx0 with V := E.V.set p.n.toNat ⟨p.v, x.stamp, -1⟩ }, 4, 0))
    else match firstR E.V t (sortR x.puts 1) with
      | some (n, v) => if 0 ≤ v.lock then (setT E t { x with commits := true }, 0, 32)
        else ({ setT E t { x with commits := true } with V := E.V.set n.toNat { v with lock := t } }, 1, 0)
      | none => if validL E.V x.start t x.reads = 0 then
          (if sortR x.puts 1 = [] then (setT E t tx0, 4, 0) else ({ setT E t { x with commits := true, stamp := E.clock + 1 } with clock := E.clock + 1 }, 2, 0))
        else (setT E t { x with commits := true }, 0, validL E.V x.start t x.reads)
def unlock (t : Int) (v : Vr) : Vr := if v.lock = t then { v with lock := -1 } else v
def abortR (E : Eg) (t : Int) : Eg × Int := match thR E t with
  | none => (E, 1)
  | some x => if x.is = false ∨ 0 < x.stamp then (E, 1) else ({ setT E t tx0 with V := E.V.map (unlock t) }, 0)
def partsW (x : Tx) : Nat → List Int
  | 0 => []
  | k + 1 => partsW x k ++ (sortR x.puts ((k : Int) + 1)).map (·.v)
def txW (x : Tx) : List Int := if x.is then partsW x x.parts.toNat else []
def wordsR (E : Eg) : List Int := E.V.map (·.val) ++ (E.T.map txW).flatten

/-! ## Numbers stay small -/
structure WfT (m : Nat) (N : Nat) (x : Tx) : Prop where
  parts : x.parts ≤ (m : Int)
  parts1 : x.is = true → 1 ≤ x.parts
  puts : x.puts.length ≤ m
  reads : x.reads.length ≤ m
  inr : ∀ n, n ∈ x.reads → 0 ≤ n ∧ n < (N : Int)
  inp : ∀ p, p ∈ x.puts → 0 ≤ p.n ∧ p.n < (N : Int)
  stamp : 0 < x.stamp → 0 ≤ x.done ∧ x.done < ((sortR x.puts 1).length : Int)
structure Wf (m : Nat) (E : Eg) : Prop where
  th : E.T.length = 8
  vs : E.V.length ≤ 4000
  ck : 0 ≤ E.clock ∧ E.clock ≤ (m : Int)
  tx : ∀ x, x ∈ E.T → WfT m E.V.length x
end Go.Proofs.Ytjoifodjbdbicaa.UA

/- The document's engine in memory. -/
namespace Go.Proofs.Ytjoifodjbdbicaa.UB
open Go.RowKit Go.Proofs.Ytjoifodjbdbicaa.RG Go.Proofs.Ytjoifodjbdbicaa.RB Go.Proofs.Ytjoifodjbdbicaa.RI Go.Proofs.Ytjoifodjbdbicaa.UA
set_option linter.unusedVariables false
set_option maxRecDepth 100000
set_option maxRecDepth 100000

def TVr : Ty Try.prog Vr := Ty.flat 44 69 3 24 (.agg #[.int .i64 0, .int .i64 0, .int .i64 0]) (fun v => [.int .i64 v.val, .int .i64 v.ver, .int .i64 v.lock]) Try.underlying44 (by kernel_rfl) rfl (by decide) (by decide) (fun _ => rfl) (fun a u hu => by
  simp only [List.mem_cons, List.not_mem_nil, or_false] at hu
  rcases hu with rfl | rfl | rfl <;> rfl)
def TPt : Ty Try.prog Pt := Ty.flat 40 53 3 24 (.agg #[.int .i64 0, .int .i64 0, .int .i64 0]) (fun p => [.int .i64 p.n, .int .i64 p.v, .int .i64 p.part]) Try.underlying40 (by kernel_rfl) rfl (by decide) (by decide) (fun _ => rfl) (fun a u hu => by
  simp only [List.mem_cons, List.not_mem_nil, or_false] at hu
  rcases hu with rfl | rfl | rfl <;> rfl)
/-- A transaction, and where its reads and its writes lie. -/
structure Tz where
  x : Tx
  rv : Value
  pv : Value
def encZ (z : Tz) : List Value := [.bool z.x.is, .int .i64 z.x.start, z.rv, z.pv, .int .i64 z.x.parts, .bool z.x.commits, .int .i64 z.x.stamp, .int .i64 z.x.done]
def TTz : Ty Try.prog Tz :=
  { t := 45, e := 43, size := 8, bytes := 96, z := .agg #[.bool false, .int .i64 0, .slice none 0 0, .slice none 0 0, .int .i64 0, .bool false, .int .i64 0, .int .i64 0],
    enc := fun z _ => encZ z, has := fun _ _ z qs => qs = [] ∧ z.rv.oneCell' = true ∧ z.pv.oneCell' = true, ht := Try.underlying45, info := (by kernel_rfl), hzs := rfl, hsz := by decide, hby := by decide,
    len := fun _ => rfl,
    one := fun h u hu => by
      simp only [encZ, List.mem_cons, List.not_mem_nil, or_false] at hu
      rcases hu with rfl | rfl | rfl | rfl | rfl | rfl | rfl | rfl
      all_goals first | rfl | exact h.2.1 | exact h.2.2,
    mv := fun _ h => h }
abbrev Nobody : Nat → Prop := fun _ => False
/-- A row of the engine's own, of things that lie flat. -/
abbrev OwnF {α : Type} (R : Ty Try.prog α) (w : World) (v : Value) (L : List α) : Prop := OwnR R w 0 Nobody v L
theorem own_blk {α : Type} {R : Ty Try.prog α} {w : World} {B : Nat} {T : Nat → Prop} {v : Value} {L : List α} (h : OwnR R w B T v L) {b : Nat} (e : v.ownBlock = some b) : (∃ cur, Bk w b cur R.e) ∧ ∃ cap, v = .slice (some ⟨b, 0, none⟩) L.length cap := by
  obtain ⟨qs, ⟨h1, h2⟩, h3⟩ := h
  rcases h2 with ⟨hv, _⟩ | ⟨g, cap, cur, hv, hg, hh, hn, hcm, hcs, htk⟩
  · rw [hv] at e; cases e
  · rw [hv] at e
    obtain rfl : g = b := Option.some.inj e
    exact ⟨⟨cur, hh⟩, cap, hv⟩
theorem bk_typ {w : World} {b : Nat} {c c' : Array Value} {T T' : TypeId} (h : Bk w b c T) (h' : Bk w b c' T') : T = T' := by
  unfold Bk at h h'
  rw [h] at h'
  injection h' with k
  injection k
/-- A block of another type than a row's is not the row's. -/
theorem own_typ {α : Type} {R : Ty Try.prog α} {w : World} {B : Nat} {T : Nat → Prop} {v : Value} {L : List α} (h : OwnR R w B T v L) {g : Nat} {c : Array Value} {X : TypeId} (hk : Bk w g c X) (hne : R.e ≠ X) {b : Nat} (e : v.ownBlock = some b) : b ≠ g := by
  rintro rfl
  obtain ⟨⟨cur, k⟩, _⟩ := own_blk h e
  exact hne (bk_typ k hk)
/-- A row with a block has one. -/
theorem own_block {α : Type} {R : Ty Try.prog α} {w : World} {B : Nat} {Q : Nat → Prop} {v : Value} {T : List α} (h : OwnR R w B Q v T) (h0 : T ≠ []) : ∃ g cap cur, v = .slice (some ⟨g, 0, none⟩) T.length cap ∧ Bk w g cur R.e ∧ g < w.heap.size ∧ ∀ i, w.frozen? ⟨g, i, none⟩ = false := by
  obtain ⟨qs, ⟨h1, h2⟩, h3⟩ := h
  rcases h2 with ⟨rfl, h2⟩ | ⟨g, cap, cur, hv, hg, hh, r⟩
  · exfalso
    have := rowOf_len T qs h3
    have : 0 < T.length := List.length_pos_iff.2 h0
    have := R.hsz
    have : 0 < T.length * R.size := Nat.mul_pos (by omega) (by omega)
    omega
  · exact ⟨g, cap, cur, hv, hh, (Array.getElem?_eq_some_iff.1 hh).1, fun i => Bk.free hh i⟩
theorem ownF_on {α : Type} {R : Ty Try.prog α} {w w' : World} {B : Nat} {S : Nat → Prop} {v : Value} {L : List α} (h : OwnR R w B Nobody v L) (ho : OnS S w w') (hv : ∀ b, v.ownBlock = some b → ¬ S b) : OwnR R w' B Nobody v L := own_onS h ho (fun _ h => h.elim) hv
/-- The rows of the transactions. -/
def Rows (w : World) (Z : List Tz) : Prop := ∀ (i : Nat) (z : Tz), Z[i]? = some z → OwnF TI w z.rv z.x.reads ∧ OwnF TPt w z.pv z.x.puts
def Sep (Z : List Tz) : Prop := ∀ (i j : Nat) (y z : Tz), i ≠ j → Z[i]? = some y → Z[j]? = some z → ∀ b, (y.rv.ownBlock = some b → z.rv.ownBlock ≠ some b) ∧ (y.pv.ownBlock = some b → z.pv.ownBlock ≠ some b)
/-- The document's engine: its block r, of the blocks F; where its vars and its transactions lie. -/
structure DI (w : World) (F : Nat → Prop) (r : Nat) (E : Eg) (vv tv : Value) (Z : List Tz) : Prop where
  bk : Bk w r #[.int .i64 E.clock, vv, tv] 47
  vs : OwnF TVr w vv E.V
  ts : OwnF TTz w tv Z
  ex : Z.map (·.x) = E.T
  rows : Rows w Z
  sep : Sep Z
  inv : ∀ b, vv.ownBlock = some b → F b
  int : ∀ b, tv.ownBlock = some b → F b
  inz : ∀ (i : Nat) (z : Tz), Z[i]? = some z → ∀ b, (z.rv.ownBlock = some b → F b) ∧ (z.pv.ownBlock = some b → F b)
  own : F r
  lt : ∀ b, F b → b < w.heap.size
def DE (w : World) (F : Nat → Prop) (r : Nat) (E : Eg) : Prop := ∃ vv tv Z, DI w F r E vv tv Z
theorem DI.on {w w' : World} {F S : Nat → Prop} {r : Nat} {E : Eg} {vv tv : Value} {Z : List Tz} (H : DI w F r E vv tv Z) (ho : OnS S w w') (hn : ∀ b, F b → ¬ S b) : DI w' F r E vv tv Z :=
  ⟨ho.bk H.bk (hn r H.own), ownF_on H.vs ho (fun b hb => hn b (H.inv b hb)), ownF_on H.ts ho (fun b hb => hn b (H.int b hb)), H.ex, fun i z hz => ⟨ownF_on (H.rows i z hz).1 ho (fun b hb => hn b ((H.inz i z hz b).1 hb)), ownF_on (H.rows i z hz).2 ho (fun b hb => hn b ((H.inz i z hz b).2 hb))⟩, H.sep, H.inv, H.int, H.inz, H.own, fun b hb => Nat.lt_of_lt_of_le (H.lt b hb) ho.size⟩
theorem OnS.none {w w' : World} (h : Below w.heap.size w w') : OnS (fun _ => False) w w' := OnS.of h
theorem DI.keep {w w' : World} {F : Nat → Prop} {r : Nat} {E : Eg} {vv tv : Value} {Z : List Tz} (H : DI w F r E vv tv Z) (h : Below w.heap.size w w') : DI w' F r E vv tv Z := H.on (OnS.none h) (fun _ _ h => h)
theorem DE.on {w w' : World} {F S : Nat → Prop} {r : Nat} {E : Eg} (H : DE w F r E) (ho : OnS S w w') (hn : ∀ b, F b → ¬ S b) : DE w' F r E := by
  obtain ⟨vv, tv, Z, h⟩ := H
  exact ⟨vv, tv, Z, h.on ho hn⟩
theorem DE.keep {w w' : World} {F : Nat → Prop} {r : Nat} {E : Eg} (H : DE w F r E) (h : Below w.heap.size w w') : DE w' F r E := H.on (OnS.none h) (fun _ _ h => h)
theorem DE.lt {w : World} {F : Nat → Prop} {r : Nat} {E : Eg} (H : DE w F r E) : ∀ b, F b → b < w.heap.size := by
  obtain ⟨vv, tv, Z, h⟩ := H
  exact h.lt
theorem DI.zat {w : World} {F : Nat → Prop} {r : Nat} {E : Eg} {vv tv : Value} {Z : List Tz} (H : DI w F r E vv tv Z) {i : Nat} {x : Tx} (hx : E.T[i]? = some x) : ∃ z, Z[i]? = some z ∧ z.x = x := by
  rw [← H.ex, List.getElem?_map, Option.map_eq_some_iff] at hx
  exact hx
theorem DI.zlen {w : World} {F : Nat → Prop} {r : Nat} {E : Eg} {vv tv : Value} {Z : List Tz} (H : DI w F r E vv tv Z) : Z.length = E.T.length := by rw [← H.ex, List.length_map]
/-- A transaction's cells. -/
theorem DI.tx {w : World} {F : Nat → Prop} {r : Nat} {E : Eg} {vv tv : Value} {Z : List Tz} (H : DI w F r E vv tv Z) {i : Nat} {z : Tz} (hz : Z[i]? = some z) : ∃ g cap cur, tv = .slice (some ⟨g, 0, none⟩) E.T.length cap ∧ Bk w g cur 43 ∧ g < w.heap.size ∧ (∀ i, w.frozen? ⟨g, i, none⟩ = false) ∧ F g ∧
    w.cell? ⟨g, i * 8, none⟩ = some (.bool z.x.is) ∧ w.cell? ⟨g, i * 8 + 1, none⟩ = some (.int .i64 z.x.start) ∧ w.cell? ⟨g, i * 8 + 2, none⟩ = some z.rv ∧ w.cell? ⟨g, i * 8 + 3, none⟩ = some z.pv ∧ w.cell? ⟨g, i * 8 + 4, none⟩ = some (.int .i64 z.x.parts) ∧ w.cell? ⟨g, i * 8 + 5, none⟩ = some (.bool z.x.commits) ∧ w.cell? ⟨g, i * 8 + 6, none⟩ = some (.int .i64 z.x.stamp) ∧ w.cell? ⟨g, i * 8 + 7, none⟩ = some (.int .i64 z.x.done) := by
  have h0 : Z ≠ [] := by intro e; rw [e] at hz; simp at hz
  obtain ⟨g, cap, cur, hv, hk, hg, hf⟩ := own_block H.ts h0
  obtain ⟨b, off, cap', hv', _, _, hc⟩ := H.ts.row.open_ h0
  rw [hv] at hv'
  injection hv' with e1 e2
  injection e1 with e1
  injection e1 with e1 e3
  subst e1
  subst e3
  obtain ⟨q, hL, _⟩ := hc i z hz
  rw [Nat.zero_add] at hL
  rw [H.zlen] at hv
  exact ⟨g, cap, cur, hv, hk, hg, hf, H.int g (by rw [hv]; rfl), hL 0 _ rfl, hL 1 _ rfl, hL 2 _ rfl, hL 3 _ rfl, hL 4 _ rfl, hL 5 _ rfl, hL 6 _ rfl, hL 7 _ rfl⟩
/-- A var's cells. -/
theorem DI.vr {w : World} {F : Nat → Prop} {r : Nat} {E : Eg} {vv tv : Value} {Z : List Tz} (H : DI w F r E vv tv Z) {i : Nat} {v : Vr} (hv : E.V[i]? = some v) : ∃ g cap cur, vv = .slice (some ⟨g, 0, none⟩) E.V.length cap ∧ Bk w g cur 69 ∧ g < w.heap.size ∧ (∀ i, w.frozen? ⟨g, i, none⟩ = false) ∧ F g ∧
    w.cell? ⟨g, i * 3, none⟩ = some (.int .i64 v.val) ∧ w.cell? ⟨g, i * 3 + 1, none⟩ = some (.int .i64 v.ver) ∧ w.cell? ⟨g, i * 3 + 2, none⟩ = some (.int .i64 v.lock) := by
  have h0 : E.V ≠ [] := by intro e; rw [e] at hv; simp at hv
  obtain ⟨g, cap, cur, hv1, hk, hg, hf⟩ := own_block H.vs h0
  obtain ⟨b, off, cap', hv', _, _, hc⟩ := H.vs.row.open_ h0
  rw [hv1] at hv'
  injection hv' with e1 e2
  injection e1 with e1
  injection e1 with e1 e3
  subst e1
  subst e3
  obtain ⟨q, hL, _⟩ := hc i v hv
  rw [Nat.zero_add] at hL
  exact ⟨g, cap, cur, hv1, hk, hg, hf, H.inv g (by rw [hv1]; rfl), hL 0 _ rfl, hL 1 _ rfl, hL 2 _ rfl⟩
theorem thR_nat (E : Eg) (i : Nat) : thR E (i : Int) = E.T[i]? := by unfold thR; rw [if_pos (by omega), Int.toNat_natCast]
theorem thR_neg (E : Eg) {t : Int} (h : t < 0) : thR E t = none := if_neg (by omega)
theorem thR_big (E : Eg) {t : Int} (h : (E.T.length : Int) ≤ t) : thR E t = none := by
  obtain ⟨i, rfl⟩ : ∃ i : Nat, t = (i : Int) := ⟨t.toNat, by omega⟩
  rw [thR_nat, List.getElem?_eq_none (by omega)]
theorem vrR_nat (E : Eg) (i : Nat) : vrR E (i : Int) = E.V[i]? := by unfold vrR; rw [if_pos (by omega), Int.toNat_natCast]
theorem vrR_neg (E : Eg) {t : Int} (h : t < 0) : vrR E t = none := if_neg (by omega)
theorem vrR_big (E : Eg) {t : Int} (h : (E.V.length : Int) ≤ t) : vrR E t = none := by
  obtain ⟨i, rfl⟩ : ∃ i : Nat, t = (i : Int) := ⟨t.toNat, by omega⟩
  rw [vrR_nat, List.getElem?_eq_none (by omega)]
/-- Is there a thread? -/
theorem thR_cases (E : Eg) (h8 : E.T.length = 8) (t : Int) : (thR E t = none ∧ (t < 0 ∨ (0 ≤ t ∧ 8 ≤ t))) ∨ ∃ (i : Nat) (x : Tx), t = (i : Int) ∧ i < 8 ∧ E.T[i]? = some x ∧ thR E t = some x := by
  by_cases h : t < 0
  · exact .inl ⟨thR_neg E h, .inl h⟩
  · by_cases h2 : 8 ≤ t
    · exact .inl ⟨thR_big E (by rw [h8]; exact h2), .inr ⟨by omega, h2⟩⟩
    · obtain ⟨i, rfl⟩ : ∃ i : Nat, t = (i : Int) := ⟨t.toNat, by omega⟩
      obtain ⟨x, hx⟩ := getElem?_of_lt (l := E.T) (k := i) (by omega)
      exact .inr ⟨i, x, rfl, by omega, hx, by rw [thR_nat, hx]⟩
theorem vrR_cases (E : Eg) (n : Int) : (vrR E n = none ∧ (n < 0 ∨ (0 ≤ n ∧ (E.V.length : Int) ≤ n))) ∨ ∃ (i : Nat) (v : Vr), n = (i : Int) ∧ i < E.V.length ∧ E.V[i]? = some v ∧ vrR E n = some v := by
  by_cases h : n < 0
  · exact .inl ⟨vrR_neg E h, .inl h⟩
  · by_cases h2 : (E.V.length : Int) ≤ n
    · exact .inl ⟨vrR_big E h2, .inr ⟨by omega, h2⟩⟩
    · obtain ⟨i, rfl⟩ : ∃ i : Nat, n = (i : Int) := ⟨n.toNat, by omega⟩
      obtain ⟨x, hx⟩ := getElem?_of_lt (l := E.V) (k := i) (by omega)
      exact .inr ⟨i, x, rfl, by omega, hx, by rw [vrR_nat, hx]⟩
end Go.Proofs.Ytjoifodjbdbicaa.UB
