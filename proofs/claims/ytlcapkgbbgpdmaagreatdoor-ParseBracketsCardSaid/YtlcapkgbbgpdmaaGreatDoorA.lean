/- What is owned, and what it is good for: rows of bytes and of numbers, the table of digits, the letters. -/
import Derived.Test.YtlcapkgbbgpdmaaGreatDoorChecked
import Derived.Test.YtlcapkgbbgpdmaaGreatDoorP
import Derived.WalkKit
import Derived.WalkSpells
import Derived.WalkSmall
import Derived.Maps.RangeWalk
import Derived.Deep.AppendLies
import Derived.Laws.IdiomStrings
namespace Go.Proofs.YtlcapkgbbgpdmaaGreatDoor.A
open Go.RowKit Go.Maps Go.Proofs.YtlcapkgbbgpdmaaGreatDoor.P
set_option linter.unusedVariables false
set_option maxRecDepth 100000

theorem lawB : Keyed Tryz.prog 5 := int_keyed Tryz.underlying5
theorem zeroB (w : World) : (zeroValue 5).run Tryz.prog w = .ok (.int .u8 0) w := by kernel_rfl
theorem infoB : (Tryz.prog.info? 5).map (fun i => (i.zero, i.size, i.bytes)) = some (some (.int .u8 0), 1, 1) := by kernel_rfl
theorem infoI : (Tryz.prog.info? 3).map (fun i => (i.zero, i.size, i.bytes)) = some (some (.int .i64 0), 1, 8) := by kernel_rfl

theorem bvs_one (l : List UInt8) : ∀ u ∈ bvs l, u.oneCell' = true := by
  intro u hu
  obtain ⟨_, _, rfl⟩ := List.mem_map.1 hu
  rfl

theorem bnext {w a b : World} (h : Below w.heap.size w a) (k : Below a.heap.size a b) : Below w.heap.size w b := h.trans (k.mono h.size)

/-- The map at block b reads as D. -/
abbrev Map (w : World) (b : Nat) (D : DataW Unit) : Prop := w.ownsMap Tryz.prog 5 (plainElem Tryz.prog 5) b 3 D

/-- The table of digits. -/
def Dig (w : World) : Prop := 1 < w.heap.size ∧ ∀ i, i < 16 → w.cell? ⟨1, i, none⟩ = some (.int .u8 (dg.getD i 0))
theorem Dig.below {w w' : World} (h : Dig w) (hb : Below w.heap.size w w') : Dig w' := ⟨Nat.lt_of_lt_of_le h.1 hb.size, fun i hi => (hb.cell (by exact h.1)).trans (h.2 i hi)⟩
theorem Dig.below' {w w' : World} {B : Nat} (h : Dig w) (hB : w.heap.size ≤ B) (hb : Below B w w') : Dig w' := h.below (hb.mono hB)

theorem Dig.next {w a b : World} (h : Dig w) (h1 : Below w.heap.size w a) (k : Below a.heap.size a b) : Dig b := h.below (bnext h1 k)

/-- A row of bytes, of numbers, that the call owns. -/
abbrev OwnB (w : World) (base : Nat) (v : Value) (l : List UInt8) : Prop := w.ownsRow base 5 1 v l.length (bvs l)
abbrev OwnI (w : World) (base : Nat) (v : Value) (l : List Int) : Prop := w.ownsRow base 3 1 v l.length (ivs l)

/-- What is owned below the mark of a 'Below' stays owned. -/
theorem own_below {w w' : World} {B base : Nat} {e : TypeId} {size : Nat} {v : Value} {n : Nat} {xs : List Value} (h : w.ownsRow base e size v n xs) (hb : Below B w w') (hB : w.heap.size ≤ B) : w'.ownsRow base e size v n xs := by
  refine ⟨h.1, ?_⟩
  rcases h.2 with h2 | ⟨g, cap, cur, hv, hg, hh, r⟩
  · exact .inl h2
  · exact .inr ⟨g, cap, cur, hv, hg, by rw [hb.block g (by have := (Array.getElem?_eq_some_iff.1 hh).1; omega)]; exact hh, r⟩

/-- A map that is owned stays, likewise. -/
theorem map_below {w w' : World} {B b : Nat} {n : Nat} {D : DataW Unit} (h : w.ownsMap Tryz.prog 5 (plainElem Tryz.prog 5) b n D) (hb : Below B w w') (hB : w.heap.size ≤ B) : w'.ownsMap Tryz.prog 5 (plainElem Tryz.prog 5) b n D := by
  have hl := h.lt
  refine h.kept (w' := w') (row := none) ?_ (by simp) |>.mono (Nat.le_refl _)
  exact ⟨hb.os, hb.tape, hb.output, hb.size, fun k hk _ => hb.block k (by omega)⟩

/-- Numbers that lie somewhere, whoever owns them. -/
def HasI (w : World) (v : Value) (zs : List Int) : Prop :=
  ∃ ao cap, v = .slice ao zs.length cap ∧ zs.length ≤ cap ∧ (zs = [] ∨ ∃ b off, ao = some ⟨b, off, none⟩ ∧ b < w.heap.size ∧ ∀ j (h : j < zs.length), w.cell? ⟨b, off + j, none⟩ = some (.int .i64 zs[j]))
theorem HasI.below {w w' : World} {B : Nat} {v : Value} {zs : List Int} (h : HasI w v zs) (hb : Below B w w') (hB : w.heap.size ≤ B) : HasI w' v zs := by
  obtain ⟨ao, cap, hv, hc, h⟩ := h
  refine ⟨ao, cap, hv, hc, ?_⟩
  rcases h with h | ⟨b, off, ha, hlt, hcell⟩
  · exact .inl h
  · exact .inr ⟨b, off, ha, Nat.lt_of_lt_of_le hlt hb.size, fun j hj => (hb.cell (by show b < B; omega)).trans (hcell j hj)⟩
theorem own_has {w : World} {base : Nat} {v : Value} {zs : List Int} (h : OwnI w base v zs) : HasI w v zs := by
  rcases h.2 with ⟨hv, hn⟩ | ⟨g, cap, cur, hv, hb, hg, hn, hcm, hcs, htake⟩
  · have : zs = [] := List.eq_nil_of_length_eq_zero hn
    subst this
    exact ⟨none, 0, hv, Nat.le_refl _, .inl rfl⟩
  · refine ⟨_, cap, hv, hn, .inr ⟨g, 0, rfl, (Array.getElem?_eq_some_iff.1 hg).1, fun j hj => ?_⟩⟩
    rw [cell_of_row w g (0 + j) cur 3 (0, 0) hg]
    have e : (ivs zs)[j]? = some (.int .i64 zs[j]) := by simp [ivs, hj]
    rw [← htake, List.getElem?_take, if_pos (by omega)] at e
    simpa using e

/-- 'm[k] = v' in a map that is written out where it is made. -/
theorem wpList_insert_own {H : Type} {P : Program} (w : World) {ops : Array Oper} {rest : List Oper} {o : Oper} {a : Act} {Q : Exit → Act → World → Prop}
    (hg : o.guard = none) (m x v : Operand) (t : TypeId) (hop : o.op = Op.insert t m x v)
    (k e : TypeId) (K : Keyed P k) (ht : P.underlying t = some (.map k e)) (R : Value → Option (DataW H × List MemPlace)) (b n : Nat) (D : DataW H)
    (hm : a.eval m = .map (some b)) (hown : w.ownsMap P k R b n D) (hn : n < maxLen) (key val : Value) (kl : Lit) (hx : a.eval x = key) (hv : a.eval v = val) (hkey : keyOf P k key = some kl)
    (d : DataW H) (ps : List MemPlace) (hval : R val = some (d, ps))
    (hK : ∀ w', w'.ownsMap P k R b (n + 1) (D.put kl d) → w.grownBy w' (some b) → wpList P ops Q rest (a.put o.dst undef) w') :
    wpList P ops Q (o :: rest) a w := by
  refine wpList_plain hg fun K' hK' => ?_
  obtain ⟨w', hrun, r1, r2⟩ := hown.update K ht hn hkey hval
  unfold Oper.wp
  simp [execOp, hop, hm, hx, hv, hrun, Result.andThen]
  exact hK' _ _ (hK w' r1 r2)

/-- Four cells of a block that has just been laid. -/
theorem cell_four_new (w : World) (a b c d : Value) (t : TypeId) : ∀ j u, [a, b, c, d][j]? = some u → (w.alloc (.cells #[a, b, c, d] t)).cell? ((⟨w.heap.size, 0, none⟩ : Addr).add j) = some u := by
  intro j u hj
  match j, hj with
  | 0, hj => simp at hj; subst hj; simp [Addr.add]
  | 1, hj => simp at hj; subst hj; simp [Addr.add]
  | 2, hj => simp at hj; subst hj; simp [Addr.add]
  | 3, hj => simp at hj; subst hj; simp [Addr.add]
  | j + 4, hj => simp at hj

/-- Behind an append: the bytes together. -/
theorem own_snoc {w : World} {base g cap n : Nat} {a l c : List UInt8} (h : w.ownsRow base 5 1 (.slice (some ⟨g, 0, none⟩) (a.length + n) cap) (a.length + n) (bvs a ++ bvs l)) (hn : l.length = n) (hc : c = a ++ l) :
    (.slice (some ⟨g, 0, none⟩) (a.length + n) cap : Value) = .slice (some ⟨g, 0, none⟩) c.length cap ∧ OwnB w base (.slice (some ⟨g, 0, none⟩) c.length cap) c := by
  subst hc
  subst hn
  refine ⟨by rw [List.length_append], ?_⟩
  unfold OwnB
  rw [List.length_append, bvs_append]
  exact h

theorem grown_drew {w w' : World} {r : Option Nat} (h : w.drew.grownBy w' r) : w.grownBy w' r := ⟨h.os, h.tape, h.output, h.size, h.block⟩

/-- A row of bytes as a text. -/
theorem conv_own {w : World} {base g cap n : Nat} {l : List UInt8} (h : w.ownsRow base 5 1 (.slice (some ⟨g, 0, none⟩) n cap) n (bvs l)) (hn : n = l.length) :
    (convert 100 9 (.slice (some ⟨g, 0, none⟩) n cap)).run Tryz.prog w = .ok (.string ⟨l.toArray⟩) w := by
  subst hn
  refine run_convert_bytes_back (P := Tryz.prog) _ 100 9 5 _ _ l Tryz.underlying100 Tryz.underlying5 Tryz.underlying9 ?_
  intro j hj
  have e : (⟨g, 0, none⟩ : Addr).add j = ⟨g, j, none⟩ := by unfold Addr.add; split <;> simp_all
  rw [e, h.cellAt j (by omega)]
  simp [bvs, bv, hj]

/-- What an append of a new block's bytes turns. -/
theorem step_map {wr w1 : World} {B g n cap : Nat} {o : Obj} {D : DataW Unit} (hmap : Map wr B D) (hg : (wr.alloc o).grownBy w1 (Value.ownBlock (.slice (some ⟨g, 0, none⟩) n cap))) (hB : B < g) : Map w1 B D :=
  (hmap.alloc _).kept hg (by simp [Value.ownBlock]; omega)
theorem step_below {w wr w1 : World} {B0 g n cap : Nat} {o : Obj} (hnx : Below B0 w wr) (hg : (wr.alloc o).grownBy w1 (Value.ownBlock (.slice (some ⟨g, 0, none⟩) n cap))) (h0 : B0 ≤ g) (hs : B0 ≤ wr.heap.size) : Below B0 w w1 :=
  (hnx.alloc hs _).grown hg (by simp; omega) (fun j hj => by cases hj; exact h0)
end Go.Proofs.YtlcapkgbbgpdmaaGreatDoor.A
