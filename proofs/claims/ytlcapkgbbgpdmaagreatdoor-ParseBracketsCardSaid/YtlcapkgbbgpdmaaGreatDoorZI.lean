/- ParseBrackets: parse.Same of any two nodes; whatever the text, the law answers true. No condition. -/
import Derived.Test.YtlcapkgbbgpdmaaGreatDoorA
import Derived.Test.YtlcapkgbbgpdmaaGreatDoorRows
import Derived.ProofKit
import Derived.LaidMore
import Derived.OpenShut
import Derived.Stop.Joined
import Derived.Lib.LaidTab
import Derived.Lay
import Derived.Test.YtlcapkgbbgpdmaaGreatDoorPD
import Derived.LaidEql
import Derived.Test.YtlcapkgbbgpdmaaGreatDoorZH
import Derived.Deep.AppendLies
import Derived.LaidEqlPtr
import Derived.Maps.OwnOps
import Derived.Test.YtlcapkgbbgpdmaaGreatDoorCards
import Derived.Test.YtlcapkgbbgpdmaaGreatDoorTie
import Derived.Below
import Derived.SevenTiedAt

/- What all frames share: the three listed variables lie as the program's text lays them; one of them is read, the digits' table. -/
namespace Go.Proofs.YtlcapkgbbgpdmaaGreatDoor.T
open Go.ChangeShapes Go.WideShapes Go.ChangeAt Go.RowKit Go.Maps Go.Proofs.YtlcapkgbbgpdmaaGreatDoor.P Go.Proofs.YtlcapkgbbgpdmaaGreatDoor.A

theorem own : ownKnob Tryz.prog.godebug = none := by kernel_rfl
theorem gDigits : Tryz.prog.globalNamed "selvage/strs.digits" = some 1 := by kernel_rfl
theorem tDigits : (Tryz.prog.globals[1]?).map (·.type) = some 159 := by kernel_rfl
theorem cellsB : Tryz.prog.cellsOf 5 = 1 := by kernel_rfl
theorem cellsA : Tryz.prog.cellsOf 159 = 16 := by kernel_rfl
theorem lenA : Tryz.prog.underlying 159 = some (.array 16 5) := by kernel_rfl
def laid3 : List (String × DataW Unit) := [("unicode/utf8.acceptRanges", Rows.laid_unicode_utf8_acceptRanges), ("selvage/strs.digits", Rows.laid_selvage_strs_digits), ("unicode/utf8.first", Rows.laid_unicode_utf8_first)]
theorem laidShape (os : Os) : World.Shaped Tryz.prog (World.laidAll Tryz.prog os laid3) := World.shaped_of_ZipB (by kernel_rfl) (by kernel_rfl)
theorem of_laid {W : World} (h : laidMetH Tryz.prog laid3 W) : Dig W := by
  rw [MakeChecks.laidMetH_plain _ _ _ (by kernel_rfl)] at h
  obtain ⟨ps, ⟨_, _, _, _, _, _, _, _, _, _, ⟨g', t', cs, fuel, p, q, hg', ht', hvar, hd, _, _⟩, _⟩, _⟩ := h
  obtain rfl := Option.some.inj (gDigits.symm.trans hg')
  obtain rfl := Option.some.inj (tDigits.symm.trans ht')
  have hT : Lib.TabIs Tryz.prog W "selvage/strs.digits" .u8 dg := by
    unfold Lib.TabIs
    rw [hvar, ← Lib.cells_of_tab (zs := dg) lenA Tryz.underlying5 cellsB cellsA hd]
  have hc := fun i hi => hT.cell gDigits i hi
  exact ⟨World.block_lt_of_cell? W ⟨1, 0, none⟩ (hc 0 (by decide)), fun i hi => hc i (by simpa [dg] using hi)⟩

theorem laidOut : laidOutB Tryz.prog = true := by kernel_rfl
theorem wf_le {z : Int} (h : (Lit.int .i64 z).wf = true) : -9223372036854775808 ≤ z ∧ z ≤ 9223372036854775807 := by
  simp [Lit.wf, IntKind.min, IntKind.max, IntKind.signed, IntKind.bits] at h
  omega
end Go.Proofs.YtlcapkgbbgpdmaaGreatDoor.T

/- The map of parse.Same: its keys are two pointers and a number. -/
namespace Go.Proofs.YtlcapkgbbgpdmaaGreatDoor.SA
open Go.RowKit Go.Proofs.YtlcapkgbbgpdmaaGreatDoor.P Go.Proofs.YtlcapkgbbgpdmaaGreatDoor.A Go.Proofs.YtlcapkgbbgpdmaaGreatDoor.PC Go.Proofs.YtlcapkgbbgpdmaaGreatDoor.PS
set_option linter.unusedVariables false
set_option maxRecDepth 100000

def key (p q : Option Addr) (n : Int) : Value := .agg #[.pointer p, .pointer q, .int .i64 n]
theorem chk (b : Bool) (p q : Option Addr) (n : Int) (w : World) : (Instr.checkKey b 10000 66 (key p q n)).run Tryz.prog w = .ok () w := by
  cases b <;> kernel_rfl
theorem eqp (p p' : Addr) (w : World) (r : Bool) (h : (sameAddr p p').run Tryz.prog w = .ok r w) (d : Nat) : (Op.equalIn (d + 1) 64 (.pointer (some p)) (.pointer (some p'))).run Tryz.prog w = .ok r w := by
  have h1 : Tryz.prog.underlying 64 = some (.pointer 25) := by kernel_rfl
  have hs : (sizeOf 25).run Tryz.prog w = .ok 6 w := by kernel_rfl
  unfold Op.equalIn
  simp [run_underlying h1, hs, h, Result.andThen]
theorem eqi (n n' : Int) (w : World) (d : Nat) : (Op.equalIn (d + 1) 3 (.int .i64 n) (.int .i64 n')).run Tryz.prog w = .ok (n == n') w := by
  unfold Op.equalIn
  simp [run_underlying Tryz.underlying3]
theorem equ (p q p' q' : Addr) (n n' : Int) (w : World) (r1 r2 : Bool) (h1 : (sameAddr p p').run Tryz.prog w = .ok r1 w) (h2 : (sameAddr q q').run Tryz.prog w = .ok r2 w) :
    (Op.equal 66 (key (some p) (some q) n) (key (some p') (some q') n')).run Tryz.prog w = .ok (r1 && (r2 && decide (n = n'))) w := by
  have hst : Tryz.prog.stoodInHeld 66 = false := by kernel_rfl
  have e1 := eqp p p' w r1 h1 9998
  have e2 := eqp q q' w r2 h2 9998
  have e3 := eqi n n' w 9998
  have a1 : (isAgg 64).run Tryz.prog w = .ok false w := by kernel_rfl
  have a2 : (isAgg 3).run Tryz.prog w = .ok false w := by kernel_rfl
  unfold Op.equal Op.maxDepth key
  unfold Op.equalIn
  cases r1 with
  | false => simp [run_underlying Tryz.underlying66, hst, part, e1, a1, Result.andThen]
  | true =>
    cases r2 with
    | false => simp [run_underlying Tryz.underlying66, hst, part, e1, e2, a1, Result.andThen]
    | true =>
      by_cases hn : n = n'
      · subst hn
        have e3 := eqi n n w 9998
        simp [run_underlying Tryz.underlying66, hst, part, e1, e2, e3, a1, a2, Result.andThen]
      · simp [run_underlying Tryz.underlying66, hst, part, e1, e2, e3, a1, a2, hn, Result.andThen]
/-- An address in a block of plain cells. -/
def Pl (w : World) (a : Addr) : Prop := ∃ c t, w.heap[a.block]? = some (.cells c t (0, 0))
theorem same_any (a b : Addr) (w : World) (ha : Pl w a) (hb : Pl w b) : (sameAddr a b).run Tryz.prog w = .ok (decide (a = b)) w := by
  by_cases h : a = b
  · subst h; rw [decide_eq_true rfl]; exact run_sameAddr_same w a
  · rw [decide_eq_false h]
    obtain ⟨c, t, ha⟩ := ha
    obtain ⟨d, u, hb⟩ := hb
    exact run_sameAddr_other w h ha hb
/-- A key: two addresses and a number. -/
structure K where
  p : Addr
  q : Addr
  n : Int
def K.v (k : K) : Value := key (some k.p) (some k.q) k.n
def K.ok (w : World) (k : K) : Prop := Pl w k.p ∧ Pl w k.q
def K.eq (k l : K) : Bool := decide (k.p = l.p) && (decide (k.q = l.q) && decide (k.n = l.n))
theorem equ_any (k l : K) (w : World) (hk : k.ok w) (hl : l.ok w) : (Op.equal 66 k.v l.v).run Tryz.prog w = .ok (k.eq l) w :=
  equ k.p k.q l.p l.q k.n l.n w _ _ (same_any k.p l.p w hk.1 hl.1) (same_any k.q l.q w hk.2 hl.2)
/-- The map's entries: keys, and nothing at them. -/
def ents : List K → List MapEntry
  | [] => []
  | k :: ks => { key := k.v, val := .agg #[], born := 0 } :: ents ks
def Es (es : List MapEntry) (ks : List K) : Prop := es.map (fun e => (e.key, e.val)) = ks.map fun k => (k.v, Value.agg #[])
def found (k : K) (ks : List K) : Bool := ks.any fun l => k.eq l
theorem ask_any (k : K) (w : World) (hk : k.ok w) : ∀ (es : List MapEntry) (ks : List K) (i : Nat), Es es ks → (∀ l ∈ ks, l.ok w) → ∃ r, (Instr.findAsking 66 k.v es i).run Tryz.prog w = .ok r w ∧ (r.isSome = found k ks) ∧ ∀ x, r = some x → x.2 = .agg #[]
  | [], [], i, _, _ => ⟨none, by unfold Instr.findAsking; rfl, rfl, fun x h => by cases h⟩
  | e :: es, l :: ks, i, h, hl => by
    unfold Es at h
    simp only [List.map_cons, List.cons.injEq, Prod.mk.injEq] at h
    obtain ⟨⟨h1, h2⟩, h3⟩ := h
    have hb := equ_any k l w hk (hl l List.mem_cons_self)
    rw [← h1] at hb
    obtain ⟨r, g1, g2, g3⟩ := ask_any k w hk es ks (i + 1) h3 (fun l h => hl l (List.mem_cons_of_mem _ h))
    cases hkl : k.eq l with
    | true =>
      rw [hkl] at hb
      refine ⟨some (i, e.val), ?_, ?_, fun x hx => by injection hx with hx; rw [← hx]; exact h2⟩
      · unfold Instr.findAsking
        simp [hb, Result.andThen]
      · show true = _
        unfold found
        rw [List.any_cons, hkl]; rfl
    | false =>
      rw [hkl] at hb
      refine ⟨r, ?_, ?_, g3⟩
      · unfold Instr.findAsking
        simp [hb, Result.andThen, g1]
      · rw [g2]
        unfold found
        rw [List.any_cons, hkl]; rfl
  | [], _ :: _, _, h, _ => by simp [Es] at h
  | _ :: _, [], _, h, _ => by simp [Es] at h
theorem now_none (p q : Option Addr) (n : Int) (F : Array Field) (e : MapEntry) (es : List MapEntry) (i : Nat) : Instr.findNow (.struct F) (key p q n) (e :: es) i = none := rfl
theorem find_any (k : K) (w : World) (hk : k.ok w) (es : List MapEntry) (ks : List K) (h : Es es ks) (hl : ∀ l ∈ ks, l.ok w) : ∃ r, (Instr.findKey 66 k.v es).run Tryz.prog w = .ok r w ∧ (r.isSome = found k ks) ∧ ∀ x, r = some x → x.2 = .agg #[] := by
  unfold Instr.findKey
  cases es with
  | nil =>
    cases ks with
    | nil => exact ⟨none, by simp [run_underlying Tryz.underlying66, Instr.findNow, Result.andThen], rfl, fun x h => by cases h⟩
    | cons l ks => simp [Es] at h
  | cons e es =>
    obtain ⟨r, h1, h2, h3⟩ := ask_any k w hk (e :: es) ks 0 h hl
    refine ⟨r, ?_, h2, h3⟩
    unfold K.v at h1 ⊢
    simp [run_underlying Tryz.underlying66, now_none, Result.andThen, h1]
/-- The map in the world. -/
def Mp (w : World) (b : Nat) (ks : List K) : Prop := ∃ es clock, w.heap[b]? = some (.map es clock) ∧ Es es.toList ks
theorem look_any (tm te : TypeId) (ht : Tryz.prog.underlying tm = some (.map 66 te)) (hz : ∀ w, (zeroValue te).run Tryz.prog w = .ok (.agg #[]) w) (k : K) (w : World) (b : Nat) (ks : List K) (hm : Mp w b ks) (hk : k.ok w) (hl : ∀ l ∈ ks, l.ok w) :
    (Instr.lookup tm (.map (some b)) k.v true).run Tryz.prog w = .ok (.tuple #[.agg #[], .bool (found k ks)]) w := by
  obtain ⟨es, clock, hb, h⟩ := hm
  obtain ⟨r, h1, h2, h3⟩ := find_any k w hk es.toList ks h hl
  have hc := fun c => chk c (some k.p) (some k.q) k.n w
  unfold K.v at h1 ⊢
  rw [← h2]
  cases r with
  | none => simp [Instr.lookup, run_underlying ht, MapKept.run_getObj_map hb, hc, h1, hz, Result.andThen]
  | some x => simp [Instr.lookup, run_underlying ht, MapKept.run_getObj_map hb, hc, h1, h3 x rfl, Result.andThen]
/-- A new key. -/
theorem put_any (tm te : TypeId) (ht : Tryz.prog.underlying tm = some (.map 66 te)) (k : K) (w : World) (b : Nat) (ks : List K) (hm : Mp w b ks) (hk : k.ok w) (hl : ∀ l ∈ ks, l.ok w) (hf : found k ks = false) :
    ∃ o, (Instr.mapUpdate tm (.map (some b)) k.v (.agg #[])).run Tryz.prog w = .ok () (setMap w b o) ∧ Mp (setMap w b o) b (ks ++ [k]) := by
  obtain ⟨es, clock, hb, h⟩ := hm
  obtain ⟨r, h1, h2, h3⟩ := find_any k w hk es.toList ks h hl
  have hc := fun c => chk c (some k.p) (some k.q) k.n w
  rw [hf] at h2
  cases r with
  | some x => cases h2
  | none =>
    refine ⟨.map (es.push { key := k.v, val := .agg #[], born := clock }) (clock + 1), ?_, _, _, setMap_at hb, ?_⟩
    · unfold K.v at h1 ⊢
      simp [Instr.mapUpdate, run_underlying ht, MapKept.run_getObj_map hb, hc, h1, MapKept.run_setObj_map _ hb, Result.andThen, setMap]
    · unfold Es at h ⊢
      simp [h]
theorem wpList_look {P : Program} (w : World) {ops : Array Oper} {rest : List Oper} {o : Oper} {a : Act} {Q : Exit → Act → World → Prop}
    (hg : o.guard = none) (m x : Operand) (t : TypeId) (hop : o.op = Op.lookup t m x true) (b : Nat) (key val : Value)
    (hm : a.eval m = .map (some b)) (hx : a.eval x = key) (hrun : (Instr.lookup t (.map (some b)) key true).run P w = .ok val w)
    (hK : wpList P ops Q rest (a.put o.dst val) w) : wpList P ops Q (o :: rest) a w := by
  refine wpList_plain hg fun K' hK' => ?_
  unfold Oper.wp
  simp [execOp, hop, hm, hx, hrun, Result.andThen]
  exact hK' _ _ hK
end Go.Proofs.YtlcapkgbbgpdmaaGreatDoor.SA

/- Two rows of names, compared; two nodes, as far as it is to be seen without their kids. -/
namespace Go.Proofs.YtlcapkgbbgpdmaaGreatDoor.SB
open Go.RowKit Go.Proofs.YtlcapkgbbgpdmaaGreatDoor.P Go.Proofs.YtlcapkgbbgpdmaaGreatDoor.A Go.Proofs.YtlcapkgbbgpdmaaGreatDoor.GR Go.Proofs.YtlcapkgbbgpdmaaGreatDoor.PN Go.Proofs.YtlcapkgbbgpdmaaGreatDoor.PS Go.Proofs.YtlcapkgbbgpdmaaGreatDoor.QE Go.Proofs.YtlcapkgbbgpdmaaGreatDoor.QH Go.Proofs.YtlcapkgbbgpdmaaGreatDoor.QI Go.Proofs.YtlcapkgbbgpdmaaGreatDoor.RZ
set_option linter.unusedVariables false
set_option maxRecDepth 100000

/-- A row of names, as it lies. -/
def NR (w : World) (v : Option Addr) (ns : List By) : Prop := ns.length = 0 ∨ ∃ b off, v = some ⟨b, off, none⟩ ∧ b < w.heap.size ∧ ∀ j (hj : j < ns.length), w.cell? ⟨b, off + j, none⟩ = some (sv ns[j])
theorem str_ne {a b : By} (h : a ≠ b) : ((⟨a.toArray⟩ : ByteArray).toList == (⟨b.toArray⟩ : ByteArray).toList) = false := by
  rw [ByteArray.toList_eq, ByteArray.toList_eq, beq_eq_false_iff_ne]
  intro e
  exact h (by simpa using e)
set_option maxHeartbeats 1000000 in
theorem names_eq (ns ms : List By) (v1 v2 : Option Addr) (c1 c2 : Nat) (w : World) (h5 : ns.length ≤ 5000) (h6 : ms.length ≤ 5000) (R1 : NR w v1 ns) (R2 : NR w v2 ms) :
    Calls Tryz.prog 54 #[.slice v1 ns.length c1, .slice v2 ms.length c2] w fun e w' => e = .returned (.bool (decide (ns = ms))) ∧ Below w.heap.size w w' := by
  by_cases hl : ns.length = ms.length
  · obtain ⟨N, hN⟩ : ∃ N, ns.length = N := ⟨_, rfl⟩
    have hM : ms.length = N := by omega
    rw [hN, hM]
    have HR1 := Lib.hid R1
    have HR2 := Lib.hid R2
    have HN := Lib.hid hN
    have HM := Lib.hid hM
    have h5 : N ≤ 5000 := by omega
    obtain ⟨D, hD⟩ : ∃ D, decide (ns = ms) = D := ⟨_, rfl⟩
    rw [hD]
    have HD := Lib.hid hD
    clear R1 R2 hN hM hl h6 hD
    go_enter Tryz.func54, Tryz.ntmps54
    go_wp2
    go_loopg [13] N (fun g i wr => ∃ j : Nat, j + g = N ∧ i = .int .i64 (j : Int) ∧ Hid (∀ i (h1 : i < ns.length) (h2 : i < ms.length), i < j → ns[i] = ms[i]) ∧ Hid (Below w.heap.size w wr))
    case atStart => exact ⟨0, Nat.zero_add _, rfl, fun i _ _ h => absurd h (by omega), Below.refl _ _⟩
    case round =>
      obtain ⟨j, hj, rfl, HE, HX⟩ := hrel
      by_cases hlt : j < N
      · obtain ⟨g, rfl⟩ : ∃ g, gk = g + 1 := ⟨gk - 1, by omega⟩
        have hjn : j < ns.length := by rw [HN.out]; exact hlt
        have hjm : j < ms.length := by rw [HM.out]; exact hlt
        obtain ⟨b1, o1, rfl, l1, C1⟩ := HR1.out.resolve_left (by rw [HN.out]; omega)
        obtain ⟨b2, o2, rfl, l2, C2⟩ := HR2.out.resolve_left (by rw [HM.out]; omega)
        have x1 := (HX.out.cell (p := ⟨b1, o1 + j, none⟩) l1).trans (C1 j hjn)
        have x2 := (HX.out.cell (p := ⟨b2, o2 + j, none⟩) l2).trans (C2 j hjm)
        have y1 : b1 < wr.heap.size := Nat.lt_of_lt_of_le l1 HX.out.size
        have y2 : b2 < wr.heap.size := Nat.lt_of_lt_of_le l2 HX.out.size
        have i0 : (0 : Int) ≤ (j : Int) := by omega
        have i1 : (j : Int) < (N : Int) := by omega
        unfold sv at x1 x2
        by_cases he : ns[j] = ms[j]
        · have HE2 : Hid (∀ i (h1 : i < ns.length) (h2 : i < ms.length), i < j + 1 → ns[i] = ms[i]) := fun i h1 h2 h => by
            by_cases hij : i = j
            · subst hij; exact he
            · exact HE.out i h1 h2 (by omega)
          rw [he] at x1
          generalize (⟨ms[j].toArray⟩ : ByteArray) = V at x1 x2
          clear C1 C2 he
          go_wp2_with fail
          go_quiet (fail)
          have HY : Hid (Below w.heap.size w (wr.drewN nq)) := HX.out.trans ⟨rfl, rfl, rfl, Nat.le_refl _, fun _ _ => rfl⟩
          go_wp2
          go_roundg g
          case rel => exact ⟨j + 1, by omega, by go_num, HE2, HY⟩
          case measure => omega
        · have hne := str_ne he
          have hDf : Hid (D = false) := by
            rw [← HD.out]
            exact decide_eq_false (fun e => he (by subst e; rfl))
          generalize (⟨ns[j].toArray⟩ : ByteArray) = V1 at x1 hne
          generalize (⟨ms[j].toArray⟩ : ByteArray) = V2 at x2 hne
          clear C1 C2 he
          go_wp2_with fail
          go_quiet (fail)
          have HY : Hid (Below w.heap.size w (wr.drewN nq)) := HX.out.trans ⟨rfl, rfl, rfl, Nat.le_refl _, fun _ _ => rfl⟩
          go_wp2
          go_ret
          exact ⟨by rw [hDf.out]; rfl, HY.out⟩
      · have hDt : Hid (D = true) := by
          rw [← HD.out]
          refine decide_eq_true (List.ext_getElem (by rw [HN.out, HM.out]) fun i h1 h2 => HE.out i h1 h2 (by rw [HN.out] at h1; omega))
        go_wp2
        go_ret
        exact ⟨by rw [hDt.out]; rfl, HX.out⟩
  · have hx := i_nf hl
    have hd : decide (ns = ms) = false := decide_eq_false (fun e => hl (by rw [e]))
    rw [hd]
    clear R1 R2 hd
    go_enter Tryz.func54, Tryz.ntmps54
    go_wp2
    go_ret
    exact ⟨rfl, Below.refl _ _⟩

/-- As far as it is to be seen without their kids. -/
def alike (a b : Tree) : Bool := decide (a.kind = b.kind) && (decide (a.text = b.text) && (decide (a.num = b.num) && (decide (a.names = b.names) && decide (a.kids.length = b.kids.length))))
/-- Two nodes, as they are handed in. -/
theorem alike_any (a b : Tree) (N N' M M' : Nat) (v1 v2 v3 v4 : Option Addr) (c1 c2 c3 c4 : Nat) (w : World) (hN : a.names.length = N) (hN' : b.names.length = N') (hM : a.kids.length = M) (hM' : b.kids.length = M') (h5 : N ≤ 5000) (h6 : N' ≤ 5000) (R1 : NR w v1 a.names) (R2 : NR w v2 b.names) :
    Calls Tryz.prog 38 #[.agg #[.int .i64 (a.kind : Int), .string ⟨a.text.toArray⟩, .int .i64 (a.num : Int), .int .i64 (a.pl : Int), .slice v1 N c1, .slice v3 M c3], .agg #[.int .i64 (b.kind : Int), .string ⟨b.text.toArray⟩, .int .i64 (b.num : Int), .int .i64 (b.pl : Int), .slice v2 N' c2, .slice v4 M' c4]] w fun e w' => e = .returned (.bool (alike a b)) ∧ Below w.heap.size w w' := by
  have HC := fun (W : World) (h1 : NR W v1 a.names) (h2 : NR W v2 b.names) => names_eq a.names b.names v1 v2 c1 c2 W (by omega) (by omega) h1 h2
  rw [hN, hN'] at HC
  obtain ⟨R, hR⟩ : ∃ R, alike a b = R := ⟨_, rfl⟩
  rw [hR]
  unfold alike at hR
  rw [hM, hM'] at hR
  generalize decide (a.names = b.names) = D at HC hR
  obtain ⟨k, x, ns, ks, nu, p⟩ := a
  obtain ⟨k', x', ns', ks', nu', p'⟩ := b
  simp only [Tree.kind, Tree.text, Tree.num, Tree.pl, Tree.names, Tree.kids] at hN hN' hM hM' R1 R2 HC hR ⊢
  have up : ∀ {v : Option Addr} {ns : List By}, NR w v ns → ∀ {W : World}, Below w.heap.size w W → NR W v ns := fun {v ns} h {W} hb => h.imp id (fun ⟨b, o, e, hl, hc⟩ => ⟨b, o, e, Nat.lt_of_lt_of_le hl hb.size, fun j hj => (hb.cell (p := ⟨b, o + j, none⟩) hl).trans (hc j hj)⟩)
  clear hN hN' hM hM' h5 h6
  have BW := Lib.hid (((Below.refl w.heap.size w).alloc (Nat.le_refl _) (.cells #[.int .i64 (k : Int), .string ⟨x.toArray⟩, .int .i64 (nu : Int), .int .i64 (p : Int), .slice v1 N c1, .slice v3 M c3] 25)).alloc (by simp) (.cells #[.int .i64 (k' : Int), .string ⟨x'.toArray⟩, .int .i64 (nu' : Int), .int .i64 (p' : Int), .slice v2 N' c2, .slice v4 M' c4] 25))
  by_cases hk : k = k'
  · subst hk
    by_cases hx : x = x'
    · subst hx
      by_cases hn : nu = nu'
      · subst hn
        have HC := Lib.hid (HC _ (up R1 BW.out) (up R2 BW.out))
        have KA := Lib.hid ((Bk.new w #[.int .i64 (k : Int), .string ⟨x.toArray⟩, .int .i64 (nu : Int), .int .i64 (p : Int), .slice v1 N c1, .slice v3 M c3] 25).alloc (.cells #[.int .i64 (k : Int), .string ⟨x.toArray⟩, .int .i64 (nu : Int), .int .i64 (p' : Int), .slice v2 N' c2, .slice v4 M' c4] 25))
        have KB := Lib.hid (Bk.new (w.alloc (.cells #[.int .i64 (k : Int), .string ⟨x.toArray⟩, .int .i64 (nu : Int), .int .i64 (p : Int), .slice v1 N c1, .slice v3 M c3] 25)) #[.int .i64 (k : Int), .string ⟨x.toArray⟩, .int .i64 (nu : Int), .int .i64 (p' : Int), .slice v2 N' c2, .slice v4 M' c4] 25)
        have HR := Lib.hid hR
        obtain ⟨X, hX⟩ : ∃ X : ByteArray, ⟨x.toArray⟩ = X := ⟨_, rfl⟩
        rw [hX] at HC KA KB BW ⊢
        clear R1 R2 up hX hR
        go_enter Tryz.func38, Tryz.ntmps38
        go_wp2_with fail
        refine HC.out.mono ?_
        rintro e w3 ⟨rfl, hb3⟩
        have k5 := (KA.out.below hb3 (by simp; omega)).cell 5 _ rfl
        have q5 := (KB.out.below hb3 (by simp)).cell 5 _ rfl
        have kl := (KA.out.below hb3 (by simp; omega)).lt
        have ql := (KB.out.below hb3 (by simp)).lt
        rw [show (w.alloc (.cells #[.int .i64 (k : Int), .string X, .int .i64 (nu : Int), .int .i64 (p : Int), .slice v1 N c1, .slice v3 M c3] 25)).heap.size = w.heap.size + 1 by simp] at q5 ql
        have HB3 := Lib.hid (BW.out.trans (hb3.mono BW.out.size))
        clear hb3 KA KB HC BW
        cases D with
        | true =>
          by_cases hm : M = M'
          · subst hm
            go_wp2
            go_ret
            exact ⟨by rw [← HR.out]; simp, HB3.out⟩
          · have hy := PD.i_ne hm
            go_wp2
            go_ret
            exact ⟨by rw [← HR.out]; simp [hm], HB3.out⟩
        | false =>
          go_wp2
          go_ret
          exact ⟨by rw [← HR.out]; simp, HB3.out⟩
      · have hy := i_nf hn
        have hR : R = false := by rw [← hR]; simp [hn]
        subst hR
        clear R1 R2 up HC
        go_enter Tryz.func38, Tryz.ntmps38
        go_wp2
        go_ret
        exact ⟨rfl, BW.out⟩
    · have hy := str_ne hx
      have hR : R = false := by rw [← hR]; simp [hx]
      subst hR
      clear R1 R2 up HC
      go_enter Tryz.func38, Tryz.ntmps38
      go_wp2
      go_ret
      exact ⟨rfl, BW.out⟩
  · have hy := i_nf hk
    have hR : R = false := by rw [← hR]; simp [hk]
    subst hR
    clear R1 R2 up HC
    go_enter Tryz.func38, Tryz.ntmps38
    go_wp2
    go_ret
    exact ⟨rfl, BW.out⟩
end Go.Proofs.YtlcapkgbbgpdmaaGreatDoor.SB

/- parse.Same plainly: rows that are left, and rows that were gone through. -/
namespace Go.Proofs.YtlcapkgbbgpdmaaGreatDoor.SC
open Go.RowKit Go.Proofs.YtlcapkgbbgpdmaaGreatDoor.P Go.Proofs.YtlcapkgbbgpdmaaGreatDoor.A Go.Proofs.YtlcapkgbbgpdmaaGreatDoor.GR Go.Proofs.YtlcapkgbbgpdmaaGreatDoor.PN Go.Proofs.YtlcapkgbbgpdmaaGreatDoor.PS Go.Proofs.YtlcapkgbbgpdmaaGreatDoor.PC Go.Proofs.YtlcapkgbbgpdmaaGreatDoor.QE Go.Proofs.YtlcapkgbbgpdmaaGreatDoor.QH Go.Proofs.YtlcapkgbbgpdmaaGreatDoor.QI Go.Proofs.YtlcapkgbbgpdmaaGreatDoor.RZ Go.Proofs.YtlcapkgbbgpdmaaGreatDoor.SA Go.Proofs.YtlcapkgbbgpdmaaGreatDoor.SB
set_option linter.unusedVariables false
set_option maxRecDepth 100000

/-- Two rows of nodes, as they lie. -/
structure Pr where
  xs : List Tree
  ys : List Tree
  px : Addr
  py : Addr
  cx : Nat
  cy : Nat
def Pr.a (r : Pr) : Value := .slice (some r.px) r.xs.length r.cx
def Pr.b (r : Pr) : Value := .slice (some r.py) r.ys.length r.cy
def flat : List Pr → List Value
  | [] => []
  | r :: L => r.a :: r.b :: flat L
theorem flat_append : ∀ (L M : List Pr), flat (L ++ M) = flat L ++ flat M
  | [], M => rfl
  | r :: L, M => by show r.a :: r.b :: flat (L ++ M) = _; rw [flat_append L M]; rfl
theorem flat_len : ∀ L : List Pr, (flat L).length = L.length * 2
  | [] => rfl
  | r :: L => by show (flat L).length + 1 + 1 = _; rw [flat_len L, List.length_cons]; omega
def total : List Pr → Nat
  | [] => 0
  | r :: L => tsizes r.xs + total L
theorem total_append : ∀ (L M : List Pr), total (L ++ M) = total L + total M
  | [], M => by simp [total]
  | r :: L, M => by show tsizes r.xs + total (L ++ M) = _; rw [total_append L M]; simp only [total]; omega
/-- It lies so, below a block. -/
structure Pr.ok (W : World) (B : Nat) (r : Pr) : Prop where
  pos : 0 < r.xs.length
  s : r.xs.length = r.ys.length
  sx : tsizes r.xs ≤ 5000
  sy : tsizes r.ys ≤ 5000
  bx : r.px.block < B
  by_ : r.py.block < B
  ex : r.px = ⟨r.px.block, r.px.off, none⟩
  ey : r.py = ⟨r.py.block, r.py.off, none⟩
  plx : Pl W r.px
  ply : Pl W r.py
  kx : ∀ j (h : j < r.xs.length), ∃ q, Kid W (fun b => b < B) r.px.block (r.px.off + j * 6) r.xs[j] q
  ky : ∀ j (h : j < r.ys.length), ∃ q, Kid W (fun b => b < B) r.py.block (r.py.off + j * 6) r.ys[j] q
theorem total_len {W : World} {B : Nat} : ∀ {L : List Pr}, (∀ r ∈ L, r.ok W B) → L.length ≤ total L
  | [], _ => Nat.le_refl _
  | r :: L, h => by
    have h1 := (h r List.mem_cons_self).pos
    have h2 := tsizes_len r.xs
    have h3 := total_len (L := L) fun r hr => h r (List.mem_cons_of_mem _ hr)
    simp only [List.length_cons, total]
    omega
/-- The last one is taken away. -/
theorem own_cut {w : World} {base : Nat} {e : TypeId} {size : Nat} {g cap n : Nat} {xs ys : List Value} (h : w.ownsRow base e size (.slice (some ⟨g, 0, none⟩) (n + 1) cap) (n + 1) (xs ++ ys)) (hx : xs.length = n * size) :
    w.ownsRow base e size (.slice (some ⟨g, 0, none⟩) n cap) n xs := by
  obtain ⟨h1, h2⟩ := h
  refine ⟨hx, .inr ?_⟩
  rcases h2 with ⟨h2, _⟩ | ⟨g', cap', cur, hv, hb, hg, hn, hcm, hcs, ht⟩
  · cases h2
  · injection hv with e1 e2 e3
    injection e1 with e1
    injection e1 with e1
    subst e1; subst e3
    refine ⟨g, cap, cur, rfl, hb, hg, by omega, hcm, hcs, ?_⟩
    have := congrArg (List.take (n * size)) ht
    rw [List.take_take, List.take_left' hx] at this
    rw [← this, Nat.min_eq_left (Nat.mul_le_mul_right _ (by omega))]

-- what is the same, and what is alike
theorem same_iff (a b : Tree) : same a b = true ↔ alike a b = true ∧ sames a.kids b.kids = true := by
  cases a with
  | node k x ns ks n p =>
    cases b with
    | node k' x' ns' ks' n' p' =>
      have e : alike (.node k x ns ks n p) (.node k' x' ns' ks' n' p') = (decide (k = k') && (decide (x = x') && (decide (n = n') && (decide (ns = ns') && decide (ks.length = ks'.length))))) := rfl
      rw [e]
      show same _ _ = true ↔ _ ∧ sames ks ks' = true
      simp only [same, Bool.and_eq_true, decide_eq_true_eq]
      constructor
      · rintro ⟨h1, h2, h3, h4, h5⟩
        exact ⟨⟨h1, h2, h3, h4, (sames_at _ _ h5).1⟩, h5⟩
      · rintro ⟨⟨h1, h2, h3, h4, _⟩, h5⟩
        exact ⟨h1, h2, h3, h4, h5⟩
theorem sames_of : ∀ (xs ys : List Tree), xs.length = ys.length → (∀ j (h : j < xs.length) (h2 : j < ys.length), same xs[j] ys[j] = true) → sames xs ys = true
  | [], [], _, _ => rfl
  | a :: xs, b :: ys, h, hs => by
    show (same a b && sames xs ys) = true
    rw [Bool.and_eq_true]
    exact ⟨hs 0 (by simp) (by simp), sames_of xs ys (by simpa using h) fun j h1 h2 => hs (j + 1) (by simpa using h1) (by simpa using h2)⟩
  | [], _ :: _, h, _ => by simp at h
  | _ :: _, [], h, _ => by simp at h
/-- The same pair is gone through, or left, or both are one. -/
def Cov (D L : List Pr) (xs ys : List Tree) : Prop := xs = ys ∨ ∃ r, (r ∈ D ∨ r ∈ L) ∧ r.xs = xs ∧ r.ys = ys
def Gone (D L : List Pr) (r : Pr) (i : Nat) : Prop := ∀ j, j < i → ∀ (h : j < r.xs.length) (h2 : j < r.ys.length), alike r.xs[j] r.ys[j] = true ∧ Cov D L r.xs[j].kids r.ys[j].kids
theorem Cov.mono {D L D' L' : List Pr} {xs ys : List Tree} (h : Cov D L xs ys) (hm : ∀ r, r ∈ D ∨ r ∈ L → Cov D' L' r.xs r.ys) : Cov D' L' xs ys := by
  rcases h with h | ⟨r, h, rfl, rfl⟩
  · exact .inl h
  · exact hm r h
theorem Gone.mono {D L D' L' : List Pr} {r : Pr} {i : Nat} (h : Gone D L r i) (hm : ∀ r, r ∈ D ∨ r ∈ L → Cov D' L' r.xs r.ys) : Gone D' L' r i := fun j hj h1 h2 => ⟨(h j hj h1 h2).1, (h j hj h1 h2).2.mono hm⟩
theorem same_refl1 : ∀ n, (∀ a, tsize a ≤ n → same a a = true) ∧ (∀ l, tsizes l ≤ n → sames l l = true)
  | 0 => ⟨fun a h => absurd (tsize_pos a) (by omega), fun l h => by
      cases l with
      | nil => rfl
      | cons a l => simp only [tsizes] at h; have := tsize_pos a; omega⟩
  | n + 1 => by
    have ih := same_refl1 n
    have h1 : ∀ a, tsize a ≤ n + 1 → same a a = true := fun a h => (same_iff a a).2 ⟨by simp [alike], ih.2 _ (by rw [kids_size] at h; omega)⟩
    exact ⟨h1, fun l h => sames_of l l rfl fun j hj _ => h1 _ (Nat.le_trans (kid_size l j hj) h)⟩
theorem closed (D : List Pr) (hD : ∀ r ∈ D, r.xs.length = r.ys.length ∧ Gone D [] r r.xs.length) : ∀ (n : Nat) (xs ys : List Tree), tsizes xs ≤ n → Cov D [] xs ys → sames xs ys = true
  | 0, xs, ys, hn, hc => by
    have := tsizes_len xs
    rcases hc with rfl | ⟨r, hr, rfl, rfl⟩
    · exact (same_refl1 0).2 _ hn
    · have := (hD r (hr.resolve_right (by simp))).1
      exact sames_of _ _ this fun j h => absurd h (by omega)
  | n + 1, xs, ys, hn, hc => by
    rcases hc with rfl | ⟨r, hr, rfl, rfl⟩
    · exact (same_refl1 (n + 1)).2 _ hn
    · obtain ⟨hl, hg⟩ := hD r (hr.resolve_right (by simp))
      refine sames_of _ _ hl fun j h h2 => (same_iff _ _).2 ⟨(hg j h h h2).1, closed D hD n _ _ ?_ (hg j h h h2).2⟩
      have h3 := kid_size r.xs j h
      have h4 := kids_size r.xs[j]
      omega

-- what lies in memory is one tree
theorem cast_inj {a b : Nat} (h : (Value.int .i64 (a : Int)) = .int .i64 (b : Int)) : a = b := by injection h with _ h; exact Int.ofNat.inj h
theorem str_inj {a b : By} (h : (Value.string ⟨a.toArray⟩) = .string ⟨b.toArray⟩) : a = b := by
  injection h with h
  have h : a.toArray = b.toArray := congrArg ByteArray.data h
  simpa using h
theorem names_det {w : World} {S S' : Nat → Prop} {v : Value} {ns ms : List By} (h : Rw w S v ns.length (ns.map sv)) (h' : Rw w S' v ms.length (ms.map sv)) : ns = ms := by
  obtain ⟨ao, cap, rfl, -, h1⟩ := name_row h
  obtain ⟨ao', cap', e, -, h2⟩ := name_row h'
  injection e with e1 e2 e3
  subst e1
  refine List.ext_getElem (by exact_mod_cast e2) fun j hj hj' => ?_
  obtain ⟨b, o, e, -, c⟩ := h1.resolve_left (by omega)
  obtain ⟨b', o', e', -, c'⟩ := h2.resolve_left (by omega)
  rw [e] at e'
  injection e' with e'
  injection e' with eb eo
  subst eb; subst eo
  have := (c j hj).symm.trans (c' j hj')
  exact str_inj (Option.some.inj this)
theorem det : ∀ (n : Nat) (s t : Tree) (q : Value × Value) (S S' : Nat → Prop) (w : World), tsize s ≤ n → HasN w S s q → HasN w S' t q → s.kind = t.kind → s.text = t.text → s.num = t.num → s.pl = t.pl → s = t
  | 0, s, _, _, _, _, _, h, _, _, _, _, _, _ => absurd (tsize_pos s) (by omega)
  | n + 1, .node k x ns ks m p, .node k' x' ns' ks' m' p', q, S, S', w, hn, ⟨a1, qs, a2, a3⟩, ⟨b1, rs, b2, b3⟩, h1, h2, h3, h4 => by
    have h1 : k = k' := h1
    have h2 : x = x' := h2
    have h3 : m = m' := h3
    have h4 : p = p' := h4
    have h5 := names_det a1 b1
    have h6 : ks = ks' := by
      obtain ⟨ao, cap, e0, -, c1⟩ := kid_row a2 a3
      obtain ⟨ao', cap', e, -, c2⟩ := kid_row b2 b3
      rw [e0] at e
      injection e with e1 e2 e3
      subst e1
      refine List.ext_getElem (by exact_mod_cast e2) fun j hj hj' => ?_
      obtain ⟨b, o, f, e, -, c⟩ := c1.resolve_left (by omega)
      obtain ⟨b', o', f', e', -, c'⟩ := c2.resolve_left (by omega)
      rw [e] at e'
      injection e' with e'
      injection e' with eb eo
      subst eb; subst eo
      have K := c j hj
      have K' := c' j hj'
      have hq : f j = f' j := Prod.ext (Option.some.inj (K.c4.symm.trans K'.c4)) (Option.some.inj (K.c5.symm.trans K'.c5))
      have hs : tsize ks[j] ≤ n := by rw [size_mk] at hn; have := kid_size ks j hj; omega
      have K2 := K'.n
      rw [← hq] at K2
      exact det n _ _ _ _ _ w hs K.n K2 (cast_inj (Option.some.inj (K.c0.symm.trans K'.c0))) (str_inj (Option.some.inj (K.c1.symm.trans K'.c1))) (cast_inj (Option.some.inj (K.c2.symm.trans K'.c2))) (cast_inj (Option.some.inj (K.c3.symm.trans K'.c3)))
    rw [h1, h2, h3, h4, h5, h6]
theorem kid_det {w : World} {S S' : Nat → Prop} {b o : Nat} {s t : Tree} {q r : Value × Value} (K : Kid w S b o s q) (K' : Kid w S' b o t r) : s = t := by
  have hq : q = r := Prod.ext (Option.some.inj (K.c4.symm.trans K'.c4)) (Option.some.inj (K.c5.symm.trans K'.c5))
  subst hq
  exact det _ _ _ _ _ _ w (Nat.le_refl _) K.n K'.n (cast_inj (Option.some.inj (K.c0.symm.trans K'.c0))) (str_inj (Option.some.inj (K.c1.symm.trans K'.c1))) (cast_inj (Option.some.inj (K.c2.symm.trans K'.c2))) (cast_inj (Option.some.inj (K.c3.symm.trans K'.c3)))
theorem row_det {w : World} {S S' : Nat → Prop} {b o : Nat} {xs ys : List Tree} (hl : xs.length = ys.length) (h : ∀ j (h : j < xs.length), ∃ q, Kid w S b (o + j * 6) xs[j] q) (h' : ∀ j (h : j < ys.length), ∃ q, Kid w S' b (o + j * 6) ys[j] q) : xs = ys :=
  List.ext_getElem hl fun j hj hj' => by
    obtain ⟨q, K⟩ := h j hj
    obtain ⟨r, K'⟩ := h' j hj'
    exact kid_det K K'
/-- A node's kids as a pair that is left. -/
theorem Pr.ok.same {W : World} {B : Nat} {r s : Pr} (h : r.ok W B) (h' : s.ok W B) (ha : r.px = s.px) (hb : r.py = s.py) (hn : r.xs.length = s.xs.length) : r.xs = s.xs ∧ r.ys = s.ys := by
  refine ⟨row_det (S' := fun b => b < B) hn h.kx ?_, row_det (S' := fun b => b < B) (by rw [← h.s, hn, h'.s]) h.ky ?_⟩
  · rw [ha]; exact h'.kx
  · rw [hb]; exact h'.ky
theorem Pr.ok.one {W : World} {B : Nat} {r : Pr} (h : r.ok W B) (ha : r.px = r.py) : r.xs = r.ys := row_det h.s h.kx (by rw [ha]; exact h.ky)
/-- A row of names, below a block. -/
def NB (W : World) (B : Nat) (v : Option Addr) (ns : List By) : Prop := ns.length = 0 ∨ ∃ b off, v = some ⟨b, off, none⟩ ∧ b < B ∧ b < W.heap.size ∧ ∀ j (hj : j < ns.length), W.cell? ⟨b, off + j, none⟩ = some (sv ns[j])
theorem NB.up {W w : World} {B : Nat} {v : Option Addr} {ns : List By} (h : NB W B v ns) (hb : Below B W w) : NR w v ns := by
  rcases h with h | ⟨b, o, e, hB, hl, hc⟩
  · exact .inl h
  · exact .inr ⟨b, o, e, Nat.lt_of_lt_of_le hl hb.size, fun j hj => (hb.cell (p := ⟨b, o + j, none⟩) hB).trans (hc j hj)⟩
/-- Names and kids of a node that lies so. -/
theorem node_parts {W : World} {B : Nat} {t : Tree} {q : Value × Value} (h : HasN W (fun b => b < B) t q) : ∃ v1 c1 v3 c3, q.1 = .slice v1 t.names.length c1 ∧ q.2 = .slice v3 t.kids.length c3 ∧ t.names.length ≤ c1 ∧ t.kids.length ≤ c3 ∧ NB W B v1 t.names ∧
    (0 < t.kids.length → ∃ b off, v3 = some ⟨b, off, none⟩ ∧ b < B ∧ b < W.heap.size ∧ Pl W ⟨b, off, none⟩ ∧ ∀ j (hj : j < t.kids.length), ∃ r, Kid W (fun b => b < B) b (off + j * 6) t.kids[j] r) := by
  cases t with
  | node k x ns ks n p =>
    obtain ⟨a1, qs, a2, a3⟩ := h
    obtain ⟨v1, c1, e1, l1, R0⟩ := a1
    have R1 : NB W B v1 ns := R0.imp id fun ⟨b, off, ha, hS, hlt, _, hcell⟩ => ⟨b, off, ha, hS, hlt, fun j hj => hcell j _ (by simp [hj])⟩
    obtain ⟨ao, cap, e2, l2, h2⟩ := a2
    refine ⟨v1, c1, ao, cap, e1, e2, l1, l2, R1, fun h0 => ?_⟩
    have h0 : 0 < ks.length := h0
    rcases h2 with h2 | ⟨b, off, rfl, hS, hlt, ⟨c, t, hblk⟩, hcell⟩
    · omega
    · have a2 : Rw W (fun b => b < B) q.2 ks.length (nrow ks qs) := ⟨_, cap, e2, l2, .inr ⟨b, off, rfl, hS, hlt, ⟨c, t, hblk⟩, hcell⟩⟩
      obtain ⟨ao', cap', e3, -, h3⟩ := kid_row a2 a3
      rw [e2] at e3
      injection e3 with e3 _ _
      obtain ⟨b', off', f, e4, -, hk⟩ := h3.resolve_left (by omega)
      rw [← e3] at e4
      injection e4 with e4
      injection e4 with e5 e6
      subst e5; subst e6
      exact ⟨b, off, rfl, hS, hlt, ⟨c, t, hblk⟩, fun j hj => ⟨f j, hk j hj⟩⟩
structure Inv (W : World) (B : Nat) (a b : Tree) (L D : List Pr) : Prop where
  okL : ∀ r ∈ L, r.ok W B
  okD : ∀ r ∈ D, r.ok W B
  gone : ∀ r ∈ D, Gone D L r r.xs.length
  root : Cov D L [a] [b]
  yes : same a b = true → ∀ r ∈ L, sames r.xs r.ys = true
theorem Inv.done {W : World} {B : Nat} {a b : Tree} {D : List Pr} (h : Inv W B a b [] D) : same a b = true := by
  have := closed D (fun r hr => ⟨(h.okD r hr).s, h.gone r hr⟩) _ [a] [b] (Nat.le_refl _) h.root
  simpa [sames] using this
theorem Inv.skip {W : World} {B : Nat} {a b : Tree} {L D : List Pr} {r : Pr} (h : Inv W B a b (L ++ [r]) D) (hc : Cov D L r.xs r.ys) : Inv W B a b L D := by
  have hm : ∀ s, s ∈ D ∨ s ∈ L ++ [r] → Cov D L s.xs s.ys := fun s hs => by
    rcases hs with hs | hs
    · exact .inr ⟨s, .inl hs, rfl, rfl⟩
    · rcases List.mem_append.1 hs with hs | hs
      · exact .inr ⟨s, .inr hs, rfl, rfl⟩
      · rw [List.mem_singleton.1 hs]; exact hc
  exact ⟨fun s hs => h.okL s (List.mem_append_left _ hs), h.okD, fun s hs => (h.gone s hs).mono hm, h.root.mono hm, fun e s hs => h.yes e s (List.mem_append_left _ hs)⟩
/-- In the midst of the pair r. -/
structure Mid (W : World) (B : Nat) (a b : Tree) (L D : List Pr) (r : Pr) (L1 : List Pr) (j : Nat) : Prop where
  ok1 : ∀ s ∈ L1, s.ok W B
  gone : Gone (r :: D) (L ++ L1) r j
  tot : total L1 + j + tsizes (r.xs.drop j) ≤ tsizes r.xs
  yes : same a b = true → ∀ s ∈ L1, sames s.xs s.ys = true
theorem Mid.start (W : World) (B : Nat) (a b : Tree) (L D : List Pr) (r : Pr) : Mid W B a b L D r [] 0 :=
  ⟨fun s hs => by simp at hs, fun j hj => by omega, by simp [total], fun _ s hs => by simp at hs⟩
theorem Mid.done {W : World} {B : Nat} {a b : Tree} {L D L1 : List Pr} {r : Pr} (h : Inv W B a b (L ++ [r]) D) (m : Mid W B a b L D r L1 r.xs.length) : Inv W B a b (L ++ L1) (r :: D) ∧ total L1 + r.xs.length ≤ tsizes r.xs := by
  have hm : ∀ s, s ∈ D ∨ s ∈ L ++ [r] → Cov (r :: D) (L ++ L1) s.xs s.ys := fun s hs => by
    rcases hs with hs | hs
    · exact .inr ⟨s, .inl (List.mem_cons_of_mem _ hs), rfl, rfl⟩
    · rcases List.mem_append.1 hs with hs | hs
      · exact .inr ⟨s, .inr (List.mem_append_left _ hs), rfl, rfl⟩
      · rw [List.mem_singleton.1 hs]; exact .inr ⟨r, .inl List.mem_cons_self, rfl, rfl⟩
  refine ⟨⟨fun s hs => ?_, fun s hs => ?_, fun s hs => ?_, h.root.mono hm, fun e s hs => ?_⟩, by have := m.tot; omega⟩
  · rcases List.mem_append.1 hs with hs | hs
    · exact h.okL s (List.mem_append_left _ hs)
    · exact m.ok1 s hs
  · rcases List.mem_cons.1 hs with rfl | hs
    · exact h.okL s (by simp)
    · exact h.okD s hs
  · rcases List.mem_cons.1 hs with rfl | hs
    · exact m.gone
    · exact (h.gone s hs).mono hm
  · rcases List.mem_append.1 hs with hs | hs
    · exact h.yes e s (List.mem_append_left _ hs)
    · exact m.yes e s hs
theorem drop_at {xs : List Tree} {j : Nat} (h : j < xs.length) : tsizes (xs.drop j) = tsize xs[j] + tsizes (xs.drop (j + 1)) := by
  rw [List.drop_eq_getElem_cons h]; rfl
theorem all_same {W : World} {B : Nat} {a b : Tree} {L D : List Pr} {r : Pr} (h : Inv W B a b (L ++ [r]) D) (e : same a b = true) (j : Nat) (h1 : j < r.xs.length) (h2 : j < r.ys.length) : same r.xs[j] r.ys[j] = true := (sames_at _ _ (h.yes e r (by simp))).2 j h1 h2
/-- One more of them, which is alike, and has no kids. -/
theorem Mid.none {W : World} {B : Nat} {a b : Tree} {L D L1 : List Pr} {r : Pr} {j : Nat} (m : Mid W B a b L D r L1 j) (h1 : j < r.xs.length) (h2 : j < r.ys.length) (ha : alike r.xs[j] r.ys[j] = true) (h0 : r.xs[j].kids.length = 0) : Mid W B a b L D r L1 (j + 1) := by
  refine ⟨m.ok1, fun i hi h3 h4 => ?_, ?_, m.yes⟩
  · by_cases hij : i = j
    · subst hij
      refine ⟨ha, .inl ?_⟩
      have hl : r.xs[i].kids.length = r.ys[i].kids.length := by simp only [alike, Bool.and_eq_true, decide_eq_true_eq] at ha; exact ha.2.2.2.2
      rw [List.eq_nil_of_length_eq_zero h0, List.eq_nil_of_length_eq_zero (by omega : r.ys[i].kids.length = 0)]
    · exact m.gone i (by omega) h3 h4
  · have := m.tot
    have := drop_at h1
    have := tsize_pos r.xs[j]
    omega
/-- One more of them, which is alike; its kids are left. -/
theorem Mid.more {W : World} {B : Nat} {a b : Tree} {L D L1 : List Pr} {r s : Pr} {j : Nat} (h : Inv W B a b (L ++ [r]) D) (m : Mid W B a b L D r L1 j) (h1 : j < r.xs.length) (h2 : j < r.ys.length) (ha : alike r.xs[j] r.ys[j] = true) (hs : s.ok W B) (hx : s.xs = r.xs[j].kids) (hy : s.ys = r.ys[j].kids) : Mid W B a b L D r (L1 ++ [s]) (j + 1) := by
  have hm : ∀ q, q ∈ r :: D ∨ q ∈ L ++ L1 → Cov (r :: D) (L ++ (L1 ++ [s])) q.xs q.ys := fun q hq => .inr ⟨q, hq.imp id (fun h => by rw [← List.append_assoc]; exact List.mem_append_left _ h), rfl, rfl⟩
  refine ⟨fun q hq => ?_, fun i hi h3 h4 => ?_, ?_, fun e q hq => ?_⟩
  · rcases List.mem_append.1 hq with hq | hq
    · exact m.ok1 q hq
    · rw [List.mem_singleton.1 hq]; exact hs
  · by_cases hij : i = j
    · subst hij
      exact ⟨ha, .inr ⟨s, .inr (by simp), hx, hy⟩⟩
    · exact (m.gone.mono hm) i (by omega) h3 h4
  · rw [total_append]
    have := m.tot
    have := drop_at h1
    have := kids_size r.xs[j]
    simp only [total, hx]
    omega
  · rcases List.mem_append.1 hq with hq | hq
    · exact m.yes e q hq
    · rw [List.mem_singleton.1 hq, hx, hy]
      exact ((same_iff _ _).1 (all_same h e j h1 h2)).2

-- the stack in memory
theorem own_at {w : World} {base : Nat} {e : TypeId} {g cap n : Nat} {xs : List Value} {u v : Value} (h : w.ownsRow base e 2 (.slice (some ⟨g, 0, none⟩) (n + 1) cap) (n + 1) (xs ++ [u, v])) (hx : xs.length = n * 2) :
    w.cell? ⟨g, n * 2, none⟩ = some u ∧ w.cell? ⟨g, n * 2 + 1, none⟩ = some v ∧ base ≤ g ∧ g < w.heap.size ∧ n + 1 ≤ cap := by
  obtain ⟨h1, h2⟩ := h
  rcases h2 with ⟨h2, _⟩ | ⟨g', cap', cur, hv, hb, hg, hn, hcm, hcs, ht⟩
  · cases h2
  · injection hv with e1 e2 e3
    injection e1 with e1
    injection e1 with e1
    subst e1; subst e3
    have at_ : ∀ j v', (xs ++ [u, v])[j]? = some v' → w.cell? ⟨g, j, none⟩ = some v' := fun j v' hj => by
      rw [cell_of_row w g j cur e (0, 0) hg]
      rw [← ht, List.getElem?_take] at hj
      split at hj
      · simpa using hj
      · simp at hj
    refine ⟨at_ _ _ ?_, at_ _ _ ?_, hb, (Array.getElem?_eq_some_iff.1 hg).1, hn⟩
    · rw [List.getElem?_append_right (by omega), hx]; simp
    · rw [List.getElem?_append_right (by omega), hx]; simp
theorem infoP : (Tryz.prog.info? 61).map (fun i => (i.zero, i.size, i.bytes)) = some (some (.agg #[.slice none 0 0, .slice none 0 0]), 2, 48) := by kernel_rfl
theorem cell_two_at (w : World) (a b : Value) (t : TypeId) (n : Nat) (hn : w.heap.size = n) : ∀ j u, [a, b][j]? = some u → (w.alloc (.cells #[a, b] t)).cell? ((⟨n, 0, none⟩ : Addr).add j) = some u := by
  subst hn
  intro j u hj
  have hl : j < 2 := by
    rcases Nat.lt_or_ge j 2 with h | h
    · exact h
    · rw [List.getElem?_eq_none (by simpa using h)] at hj; cases hj
  have e : (⟨w.heap.size, 0, none⟩ : Addr).add j = ⟨w.heap.size, j, none⟩ := by unfold Addr.add; split <;> simp_all
  rw [e, World.cell?_alloc_mark]
  simpa using hj
theorem wpList_pair {ops : Array Oper} {rest : List Oper} {o : Oper} {a : Act} {Q : Exit → Act → World → Prop} (w : World) (s x : Operand) (base n : Nat) (v : Value) (xs : List Value) (ao bo : Option Addr) (k1 k2 k3 k4 : Nat)
    (hgd : o.guard = none) (ho : o.op = .call { callee := .builtin .append, args := #[s, x], argTypes := #[62, 62] }) (hs : a.eval s = v) (hx : a.eval x = .slice (some ⟨w.heap.size, 0, none⟩) 1 1)
    (hk : w.ownsRow base 61 2 v n xs) (hn4 : n ≤ 5000) (hbase : base ≤ w.heap.size)
    (h : ∀ g cap w', w'.ownsRow base 61 2 (.slice (some ⟨g, 0, none⟩) (n + 1) cap) (n + 1) (xs ++ [.slice ao k1 k2, .slice bo k3 k4]) → (w.alloc (.cells #[.slice ao k1 k2, .slice bo k3 k4] 61)).grownBy w' v.ownBlock → (v.ownBlock = some g ∨ g = w.heap.size + 1) → wpList Tryz.prog ops Q rest (a.put o.dst (.slice (some ⟨g, 0, none⟩) (n + 1) cap)) w') :
    wpList Tryz.prog ops Q (o :: rest) a (w.alloc (.cells #[.slice ao k1 k2, .slice bo k3 k4] 61)) := by
  obtain ⟨i0, hi0, hz0, hz1, hz2⟩ := info_parts infoP
  refine wpList_append_lies _ hgd s x 62 ho base 61 i0 _ 2 48 Tryz.underlying62 hi0 hz0 hz1 hz2 rfl (by decide) v n xs hs (hk.kept (grown_alloc w _) ?_) ⟨w.heap.size, 0, none⟩ 1 1 [.slice ao k1 k2, .slice bo k3 k4] hx rfl (fun j u hj => cell_two_at _ _ _ _ _ rfl j u hj) ?_ (by decide) (by unfold maxLen; omega) (by omega) (by simp; omega) (w.heap.size + 1) (by simp) ?_
  · cases hv : v.ownBlock with
    | none => exact .inl rfl
    | some b => exact .inr (by simp)
  · intro u hu
    simp only [List.mem_cons, List.not_mem_nil, or_false] at hu
    rcases hu with rfl | rfl <;> rfl
  · intro g cap w' hown hg hat _
    exact h g cap w' hown hg hat
theorem infoN' : ∃ j : TypeInfo, Tryz.prog.info? 25 = some j ∧ j.size ≠ 0 := by
  obtain ⟨i0, hi0, _, hz1, _⟩ := info_parts infoN
  exact ⟨i0, hi0, by rw [hz1]; decide⟩
theorem under_ptr : Tryz.prog.underlying 64 = some (.pointer 25) := by kernel_rfl
theorem peq_yes (a : Addr) (w : World) : (binOp .eql 64 (.pointer (some a)) (.pointer (some a))).run Tryz.prog w = .ok (.bool true) w := by
  obtain ⟨j, h1, _⟩ := infoN'
  exact run_eql_ptr_same w a under_ptr h1
theorem peq_no {a b : Addr} {w : World} (hne : a ≠ b) (ha : Pl w a) (hb : Pl w b) : (binOp .eql 64 (.pointer (some a)) (.pointer (some b))).run Tryz.prog w = .ok (.bool false) w := by
  obtain ⟨j, h1, h2⟩ := infoN'
  obtain ⟨ca, ta, ha⟩ := ha
  obtain ⟨cb, tb, hb⟩ := hb
  exact run_eql_ptr_other w under_ptr h1 h2 hne ha hb
theorem wpList_upd {P : Program} (w : World) {ops : Array Oper} {rest : List Oper} {o : Oper} {a : Act} {Q : Exit → Act → World → Prop}
    (hg : o.guard = none) (m x v : Operand) (t : TypeId) (hop : o.op = Op.mapUpdate t m x v) (b : Nat) (key val : Value) {w' : World}
    (hm : a.eval m = .map (some b)) (hx : a.eval x = key) (hv : a.eval v = val) (hrun : (Instr.mapUpdate t (.map (some b)) key val).run P w = .ok () w')
    (hK : wpList P ops Q rest (a.put o.dst undef) w') : wpList P ops Q (o :: rest) a w := by
  refine wpList_plain hg fun K' hK' => ?_
  unfold Oper.wp
  simp [execOp, hop, hm, hx, hv, hrun, Result.andThen]
  exact hK' _ _ hK
end Go.Proofs.YtlcapkgbbgpdmaaGreatDoor.SC

/- parse.Same of any two nodes. -/
namespace Go.Proofs.YtlcapkgbbgpdmaaGreatDoor.SE
open Go.RowKit Go.Proofs.YtlcapkgbbgpdmaaGreatDoor.P Go.Proofs.YtlcapkgbbgpdmaaGreatDoor.A Go.Proofs.YtlcapkgbbgpdmaaGreatDoor.GR Go.Proofs.YtlcapkgbbgpdmaaGreatDoor.PN Go.Proofs.YtlcapkgbbgpdmaaGreatDoor.PS Go.Proofs.YtlcapkgbbgpdmaaGreatDoor.PC Go.Proofs.YtlcapkgbbgpdmaaGreatDoor.QE Go.Proofs.YtlcapkgbbgpdmaaGreatDoor.QH Go.Proofs.YtlcapkgbbgpdmaaGreatDoor.QI Go.Proofs.YtlcapkgbbgpdmaaGreatDoor.RZ Go.Proofs.YtlcapkgbbgpdmaaGreatDoor.SA Go.Proofs.YtlcapkgbbgpdmaaGreatDoor.SB Go.Proofs.YtlcapkgbbgpdmaaGreatDoor.SC
set_option linter.unusedVariables false
set_option maxRecDepth 100000

theorem Mp_up {w w' : World} {b : Nat} {ks : List SA.K} (h : Mp w b ks) (hb : w'.heap[b]? = w.heap[b]?) : Mp w' b ks := by
  obtain ⟨es, c, h1, h2⟩ := h
  exact ⟨es, c, hb.trans h1, h2⟩
theorem Mp_lt {w : World} {b : Nat} {ks : List SA.K} (h : Mp w b ks) : b < w.heap.size := by
  obtain ⟨es, c, h1, h2⟩ := h
  exact lt_of_block h1
theorem Pl_up {w w' : World} {B : Nat} {a : Addr} (h : Pl w a) (hb : Below B w w') (hlt : a.block < B) : Pl w' a := by
  obtain ⟨c, t, h⟩ := h
  exact ⟨c, t, (hb.block a.block hlt).trans h⟩
theorem zero_unit : ∀ w : World, (zeroValue 67).run Tryz.prog w = .ok (.agg #[]) w := fun w => by kernel_rfl
/-- A row that is owned is no map. -/
theorem own_ne {w : World} {base : Nat} {e : TypeId} {size n cap g b : Nat} {xs : List Value} {ks : List SA.K} (h : w.ownsRow base e size (.slice (some ⟨g, 0, none⟩) n cap) n xs) (hm : Mp w b ks) : g ≠ b := by
  rintro rfl
  obtain ⟨es, c, h1, _⟩ := hm
  rcases h.2 with ⟨h2, _⟩ | ⟨g', cap', cur, hv, hb, hg, _⟩
  · cases h2
  · injection hv with e1
    injection e1 with e1
    injection e1 with e1
    subst e1
    rw [hg] at h1; cases h1
theorem keep_alloc {w : World} {base : Nat} {e : TypeId} {size n : Nat} {v : Value} {xs : List Value} (h : w.ownsRow base e size v n xs) (o : Obj) : (w.alloc o).ownsRow base e size v n xs := h.kept (grown_alloc w o) (by cases hv : v.ownBlock with | none => exact .inl rfl | some b => exact .inr (by simp))

/-- The world at the loop's begin. -/
def W6 (w : World) (ca cb : Array Value) (H : Nat) : World := ((((((w.alloc (.cells ca 25)).alloc (.cells cb 25)).alloc (.cells ca 25)).alloc (.cells cb 25)).alloc
    (.cells #[.slice (some ⟨H + 1 + 1, 0, none⟩) 1 1, .slice (some ⟨H + 1 + 1 + 1, 0, none⟩) 1 1] 61)).alloc (.map #[] 0))
theorem kid_at {W : World} {B b : Nat} {t : Tree} {q : Value × Value} {ty : TypeId} (h : W.heap[b]? = some (.cells (ncells t q).toArray ty (0, 0))) (hn : HasN W (fun b => b < B) t q) : ∀ j (hj : j < [t].length), ∃ q, Kid W (fun b => b < B) b (0 + j * 6) [t][j] q := by
  intro j hj
  obtain rfl : j = 0 := by simp at hj; exact hj
  have c : ∀ k u, (ncells t q)[k]? = some u → W.cell? ⟨b, 0 + k, none⟩ = some u := fun k u hk => rows_cells h k u (by simpa using hk)
  exact ⟨q, hn, c 0 _ rfl, c 1 _ rfl, c 2 _ rfl, c 3 _ rfl, c 4 _ rfl, c 5 _ rfl⟩
theorem start_all (a b : Tree) (qa qb : Value × Value) (w : World) (H : Nat) (hH : w.heap.size = H) (ha : HasN w (fun _ => True) a qa) (hb : HasN w (fun _ => True) b qb) (h1 : tsize a ≤ 5000) (h2 : tsize b ≤ 5000) (W : World) (hW : W6 w (ncells a qa).toArray (ncells b qb).toArray H = W) :
    Inv W (H + 4) a b [⟨[a], [b], ⟨H + 1 + 1, 0, none⟩, ⟨H + 1 + 1 + 1, 0, none⟩, 1, 1⟩] [] ∧ W.ownsRow (H + 4) 61 2 (.slice (some ⟨H + 1 + 1 + 1 + 1, 0, none⟩) 1 1) 1 [.slice (some ⟨H + 1 + 1, 0, none⟩) 1 1, .slice (some ⟨H + 1 + 1 + 1, 0, none⟩) 1 1] ∧
    Mp W (H + 1 + 1 + 1 + 1 + 1) [] ∧ Below H w W := by
  unfold W6 at hW
  subst hW
  subst hH
  have B0 := Below.refl w.heap.size w
  have B1 := B0.alloc (Nat.le_refl _) (.cells (ncells a qa).toArray 25)
  have B2 := B1.alloc (by simp) (.cells (ncells b qb).toArray 25)
  have B3 := B2.alloc (by simp; omega) (.cells (ncells a qa).toArray 25)
  have B4 := B3.alloc (by simp; omega) (.cells (ncells b qb).toArray 25)
  have B5 := B4.alloc (by simp; omega) (.cells #[.slice (some ⟨w.heap.size + 1 + 1, 0, none⟩) 1 1, .slice (some ⟨w.heap.size + 1 + 1 + 1, 0, none⟩) 1 1] 61)
  have B6 := B5.alloc (by simp; omega) (.map #[] 0)
  have K1 : Bk _ (w.heap.size + 1 + 1) _ _ := heap_at ((w.alloc (.cells (ncells a qa).toArray 25)).alloc (.cells (ncells b qb).toArray 25)) (.cells (ncells a qa).toArray 25) _ (by simp)
  have K1 := ((K1.alloc (.cells (ncells b qb).toArray 25)).alloc (.cells #[.slice (some ⟨w.heap.size + 1 + 1, 0, none⟩) 1 1, .slice (some ⟨w.heap.size + 1 + 1 + 1, 0, none⟩) 1 1] 61)).alloc (.map #[] 0)
  have K2 : Bk _ (w.heap.size + 1 + 1 + 1) _ _ := heap_at (((w.alloc (.cells (ncells a qa).toArray 25)).alloc (.cells (ncells b qb).toArray 25)).alloc (.cells (ncells a qa).toArray 25)) (.cells (ncells b qb).toArray 25) _ (by simp)
  have K2 := (K2.alloc (.cells #[.slice (some ⟨w.heap.size + 1 + 1, 0, none⟩) 1 1, .slice (some ⟨w.heap.size + 1 + 1 + 1, 0, none⟩) 1 1] 61)).alloc (.map #[] 0)
  have na := HasN.keep (S' := fun b => b < w.heap.size + 4) B6.size (fun b _ hlt => ⟨by omega, B6.block b hlt⟩) a qa ha
  have nb := HasN.keep (S' := fun b => b < w.heap.size + 4) B6.size (fun b _ hlt => ⟨by omega, B6.block b hlt⟩) b qb hb
  refine ⟨⟨fun r hr => ?_, fun r hr => by simp at hr, fun r hr => by simp at hr, .inr ⟨_, .inr List.mem_cons_self, rfl, rfl⟩, fun e r hr => ?_⟩, ?_, ?_, B6⟩
  · obtain rfl := List.mem_singleton.1 hr
    refine ⟨by simp, rfl, by simp only [tsizes]; omega, by simp only [tsizes]; omega, by show w.heap.size + 1 + 1 < _; omega, by show w.heap.size + 1 + 1 + 1 < _; omega, rfl, rfl, ⟨_, _, K1⟩, ⟨_, _, K2⟩, kid_at K1 na, kid_at K2 nb⟩
  · obtain rfl := List.mem_singleton.1 hr
    show (same a b && true) = true
    rw [e]; rfl
  · have hh := heap_at ((((w.alloc (.cells (ncells a qa).toArray 25)).alloc (.cells (ncells b qb).toArray 25)).alloc (.cells (ncells a qa).toArray 25)).alloc (.cells (ncells b qb).toArray 25))
      (.cells #[.slice (some ⟨w.heap.size + 1 + 1, 0, none⟩) 1 1, .slice (some ⟨w.heap.size + 1 + 1 + 1, 0, none⟩) 1 1] 61) (w.heap.size + 1 + 1 + 1 + 1) (by simp)
    have hh : Bk _ _ _ _ := hh
    exact ⟨rfl, .inr ⟨w.heap.size + 1 + 1 + 1 + 1, 1, _, rfl, by omega, hh.alloc _, Nat.le_refl _, by decide, rfl, rfl⟩⟩
  · exact ⟨#[], 0, heap_at _ _ _ (by simp), rfl⟩

/-- What the loop's world has at its begin. -/
structure Lo (W : World) (B kb : Nat) (a b : Tree) (wr : World) (L D : List Pr) (ks : List SA.K) (G cap : Nat) : Prop where
  inv : Inv W B a b L D
  own : wr.ownsRow B 61 2 (.slice (some ⟨G, 0, none⟩) L.length cap) L.length (flat L)
  map : Mp wr kb ks
  keys : ∀ k ∈ ks, ∃ r ∈ D, k = ⟨r.px, r.py, (r.xs.length : Int)⟩
  out : Below B W wr
theorem key_in {W : World} {B : Nat} {D : List Pr} {ks : List SA.K} {r : Pr} (hk : ∀ k ∈ ks, ∃ r ∈ D, k = ⟨r.px, r.py, (r.xs.length : Int)⟩) (hD : ∀ r ∈ D, r.ok W B) (hr : r.ok W B) (L : List Pr) (hf : SA.found ⟨r.px, r.py, (r.xs.length : Int)⟩ ks = true) : Cov D L r.xs r.ys := by
  unfold SA.found at hf
  rw [List.any_eq_true] at hf
  obtain ⟨k, hk1, hk2⟩ := hf
  obtain ⟨s, hs, rfl⟩ := hk k hk1
  simp only [SA.K.eq, Bool.and_eq_true, decide_eq_true_eq] at hk2
  obtain ⟨h1, h2, h3⟩ := hk2
  obtain ⟨e1, e2⟩ := hr.same (hD s hs) h1 h2 (by exact_mod_cast h3)
  exact .inr ⟨s, .inl hs, e1.symm, e2.symm⟩
theorem keys_ok {W w : World} {B : Nat} {D : List Pr} {ks : List SA.K} (hk : ∀ k ∈ ks, ∃ r ∈ D, k = ⟨r.px, r.py, (r.xs.length : Int)⟩) (hD : ∀ r ∈ D, r.ok W B) (hb : Below B W w) : ∀ k ∈ ks, k.ok w := fun k hk1 => by
  obtain ⟨r, hr, rfl⟩ := hk k hk1
  have := hD r hr
  exact ⟨Pl_up this.plx hb this.bx, Pl_up this.ply hb this.by_⟩
end Go.Proofs.YtlcapkgbbgpdmaaGreatDoor.SE

/- parse.Same of any two nodes: the walk. -/
namespace Go.Proofs.YtlcapkgbbgpdmaaGreatDoor.SF
open Go.RowKit Go.Proofs.YtlcapkgbbgpdmaaGreatDoor.P Go.Proofs.YtlcapkgbbgpdmaaGreatDoor.A Go.Proofs.YtlcapkgbbgpdmaaGreatDoor.GR Go.Proofs.YtlcapkgbbgpdmaaGreatDoor.PN Go.Proofs.YtlcapkgbbgpdmaaGreatDoor.PS Go.Proofs.YtlcapkgbbgpdmaaGreatDoor.PC Go.Proofs.YtlcapkgbbgpdmaaGreatDoor.QE Go.Proofs.YtlcapkgbbgpdmaaGreatDoor.QH Go.Proofs.YtlcapkgbbgpdmaaGreatDoor.QI Go.Proofs.YtlcapkgbbgpdmaaGreatDoor.RZ Go.Proofs.YtlcapkgbbgpdmaaGreatDoor.SA Go.Proofs.YtlcapkgbbgpdmaaGreatDoor.SB Go.Proofs.YtlcapkgbbgpdmaaGreatDoor.SC Go.Proofs.YtlcapkgbbgpdmaaGreatDoor.SE
set_option linter.unusedVariables false
set_option maxRecDepth 100000

theorem own_below {w w' : World} {base : Nat} {e : TypeId} {size n : Nat} {v : Value} {xs : List Value} (h : w.ownsRow base e size v n xs) (hb : Below w.heap.size w w') : w'.ownsRow base e size v n xs := by
  refine ⟨h.1, ?_⟩
  rcases h.2 with h2 | ⟨g, cap, cur, hv, hg, hblk, rest⟩
  · exact .inl h2
  · exact .inr ⟨g, cap, cur, hv, hg, (hb.block g (lt_of_block hblk)).trans hblk, rest⟩
set_option maxHeartbeats 8000000 in
theorem psame (a b : Tree) (ao bo ao' bo' : Option Addr) (an ac bn bc an' ac' bn' bc' : Nat) (w : World) (h1 : tsize a ≤ 5000) (h2 : tsize b ≤ 5000)
    (ha : HasN w (fun _ => True) a (.slice ao an ac, .slice bo bn bc)) (hb : HasN w (fun _ => True) b (.slice ao' an' ac', .slice bo' bn' bc')) :
    Calls Tryz.prog 17 #[nval a (.slice ao an ac, .slice bo bn bc), nval b (.slice ao' an' ac', .slice bo' bn' bc')] w fun e w' => e = .returned (.bool (same a b)) ∧ Below w.heap.size w w' := by
  have hmm := @run_makeMap Tryz.prog
  obtain ⟨H, hH⟩ : ∃ H, w.heap.size = H := ⟨_, rfl⟩
  have ST := start_all a b _ _ w H hH ha hb h1 h2 _ rfl
  have HTa := Lib.hid (show tsizes [a] ≤ 5000 by simp only [tsizes]; omega)
  obtain ⟨SM, hSM⟩ : ∃ SM, same a b = SM := ⟨_, rfl⟩
  rw [hSM]
  have HSM := Lib.hid hSM
  unfold nval
  unfold W6 ncells at ST
  generalize (a.kind : Int) = a0 at ST ⊢
  generalize (⟨a.text.toArray⟩ : ByteArray) = a1 at ST ⊢
  generalize (a.num : Int) = a2 at ST ⊢
  generalize (a.pl : Int) = a3 at ST ⊢
  generalize (b.kind : Int) = b0 at ST ⊢
  generalize (⟨b.text.toArray⟩ : ByteArray) = b1 at ST ⊢
  generalize (b.num : Int) = b2 at ST ⊢
  generalize (b.pl : Int) = b3 at ST ⊢
  have STh := Lib.hid ST
  clear ST ha hb h1 h2 hSM
  go_enter Tryz.func17, Tryz.ntmps17
  go_wp2
  try rw [hH]
  obtain ⟨W, hW⟩ : ∃ W, ((((((w.alloc (.cells #[.int .i64 a0, .string a1, .int .i64 a2, .int .i64 a3, .slice ao an ac, .slice bo bn bc] 25)).alloc (.cells #[.int .i64 b0, .string b1, .int .i64 b2, .int .i64 b3, .slice ao' an' ac', .slice bo' bn' bc'] 25)).alloc (.cells #[.int .i64 a0, .string a1, .int .i64 a2, .int .i64 a3, .slice ao an ac, .slice bo bn bc] 25)).alloc (.cells #[.int .i64 b0, .string b1, .int .i64 b2, .int .i64 b3, .slice ao' an' ac', .slice bo' bn' bc'] 25)).alloc
    (.cells #[.slice (some ⟨H + 1 + 1, 0, none⟩) 1 1, .slice (some ⟨H + 1 + 1 + 1, 0, none⟩) 1 1] 61)).alloc (.map #[] 0)) = W := ⟨_, rfl⟩
  have ST2 : Hid (Inv W (H + 4) a b [⟨[a], [b], ⟨H + 1 + 1, 0, none⟩, ⟨H + 1 + 1 + 1, 0, none⟩, 1, 1⟩] [] ∧ W.ownsRow (H + 4) 61 2 (.slice (some ⟨H + 1 + 1 + 1 + 1, 0, none⟩) 1 1) 1 [.slice (some ⟨H + 1 + 1, 0, none⟩) 1 1, .slice (some ⟨H + 1 + 1 + 1, 0, none⟩) 1 1] ∧
      Mp W (H + 1 + 1 + 1 + 1 + 1) [] ∧ Below H w W) := by rw [← hW]; exact STh.out
  rw [hW]
  have HWs : H + 6 ≤ W.heap.size := by have := Mp_lt ST2.out.2.2.1; omega
  clear hW STh hmm
  go_loopg [5, 7] 5000 (fun g l c wr => ∃ (L D : List Pr) (ks : List SA.K) (cap G : Nat) (c0 : Nat), total L ≤ g ∧ c0 + g ≤ 5000 ∧ l = .slice (some ⟨G, 0, none⟩) L.length cap ∧ c = .int .i64 (c0 : Int) ∧ Hid (Lo W (H + 4) (H + 1 + 1 + 1 + 1 + 1) a b wr L D ks G cap))
  case atStart => exact ⟨_, [], [], 1, _, 0, by simpa [total] using HTa.out, Nat.le_refl _, rfl, rfl, ⟨ST2.out.1, ST2.out.2.1, ST2.out.2.2.1, fun k hk => by simp at hk, Below.refl _ _⟩⟩
  case round =>
    obtain ⟨L, D, ks, cap, G, c0, hg, hc, rfl, rfl, HL⟩ := hrel
    by_cases hne : L = []
    · subst hne
      have e : SM = true := HSM.out.symm.trans HL.out.inv.done
      subst e
      go_wp2
      go_ret
      exact ⟨rfl, by rw [hH]; exact ST2.out.2.2.2.trans (HL.out.out.mono (by omega))⟩
    · obtain ⟨L0, r, rfl⟩ : ∃ L0 r, L = L0 ++ [r] := by
        obtain ⟨l, b, e⟩ := (List.eq_nil_or_concat L).resolve_left hne
        exact ⟨l, b, by rw [e, List.concat_eq_append]⟩
      have hr := HL.out.inv.okL r (by simp)
      have hlen : (L0 ++ [r]).length = L0.length + 1 := by simp
      obtain ⟨n, hn⟩ : ∃ n, L0.length = n := ⟨_, rfl⟩
      have hpos := tsizes_len r.xs
      have htot : total L0 + tsizes r.xs ≤ gk := by rw [total_append] at hg; simpa [total] using hg
      have hp0 := hr.pos
      obtain ⟨g, rfl⟩ : ∃ g, gk = g + 1 := ⟨gk - 1, by omega⟩
      obtain ⟨xs, ys, ⟨bx, ox, sx⟩, ⟨by', oy, sy⟩, cx, cy⟩ := r
      obtain rfl : sx = none := by have := hr.ex; injection this
      obtain rfl : sy = none := by have := hr.ey; injection this
      obtain ⟨N, hN⟩ : ∃ N, xs.length = N := ⟨_, rfl⟩
      have hN2 : ys.length = N := by rw [← hr.s]; exact hN
      have hNp : 0 < N := by simp only at hp0; omega
      have hN5 : N ≤ 5000 := by have h5 := tsizes_len xs; have h6 := hr.sx; simp only at h6; omega
      have hn5 : n ≤ 5000 := by have := total_len HL.out.inv.okL; rw [hlen] at this; omega
      have hbx : bx < H + 4 := hr.bx
      have hby : by' < H + 4 := hr.by_
      have Hr := Lib.hid hr
      have HOw := Lib.hid (show wr.ownsRow (H + 4) 61 2 (.slice (some ⟨G, 0, none⟩) (n + 1) cap) (n + 1) (flat L0 ++ [.slice (some ⟨bx, ox, none⟩) N cx, .slice (some ⟨by', oy, none⟩) N cy]) from by
        have := HL.out.own
        rw [hlen, hn, flat_append] at this
        simpa [flat, Pr.a, Pr.b, hN, hN2] using this)
      have hfl : (flat L0).length = n * 2 := by rw [flat_len, hn]
      obtain ⟨e1, e2, hG, gl, hcap⟩ := own_at HOw.out hfl
      have HOc := Lib.hid (own_cut HOw.out hfl)
      have HM := Lib.hid HL.out.map
      have hGk := own_ne HOc.out HM.out
      have HTot := Lib.hid htot
      have HIn := Lib.hid HL.out.inv
      have HKy := Lib.hid HL.out.keys
      have HX := Lib.hid HL.out.out
      have i0 : (0 : Int) < (n : Int) + 1 := by omega
      have i1 : (0 : Int) ≤ (n : Int) := by omega
      have i2 : (n : Int) < (n : Int) + 1 := by omega
      have hsz := HX.out.size
      have zx : bx < wr.heap.size := by omega
      have zy : by' < wr.heap.size := by omega
      have HNs := Lib.hid (And.intro hn (And.intro hN hN2))
      simp only [hlen, hn]
      clear hr hlen hpos htot hp0 HL hg hfl hn hN hN2 hne
      go_wp2_with fail
      have KN := Lib.hid (Bk.new wr #[.slice (some ⟨bx, ox, none⟩) N cx, .slice (some ⟨by', oy, none⟩) N cy] 61)
      have HX2 := Lib.hid (HX.out.alloc (by omega) (.cells #[.slice (some ⟨bx, ox, none⟩) N cx, .slice (some ⟨by', oy, none⟩) N cy] 61))
      have HM2 := Lib.hid (Mp_up (w' := wr.alloc (.cells #[.slice (some ⟨bx, ox, none⟩) N cx, .slice (some ⟨by', oy, none⟩) N cy] 61)) HM.out (Below.heap_alloc _ _ _ (Mp_lt HM.out)))
      have HO2 := Lib.hid (keep_alloc HOc.out (.cells #[.slice (some ⟨bx, ox, none⟩) N cx, .slice (some ⟨by', oy, none⟩) N cy] 61))
      have hB2 : G < wr.heap.size := gl
      have hB2k : H + 1 + 1 + 1 + 1 + 1 < wr.heap.size := Mp_lt HM.out
      generalize hs2 : wr.heap.size = B2 at KN hB2 hB2k ⊢
      obtain ⟨w2, hw2⟩ : ∃ w2, wr.alloc (.cells #[.slice (some ⟨bx, ox, none⟩) N cx, .slice (some ⟨by', oy, none⟩) N cy] 61) = w2 := ⟨_, rfl⟩
      rw [hw2] at KN HX2 HM2 HO2 ⊢
      have n0 := KN.out.cell 0 _ rfl
      have n1 := KN.out.cell 1 _ rfl
      have nl := KN.out.lt
      have p1 : (0 : Int) < (N : Int) := by omega
      clear e1 e2 HM HX HOw HOc hw2 zx zy hsz gl hs2
      have KD := Lib.hid (show Bk w2.drew B2 #[.slice (some ⟨bx, ox, none⟩) N cx, .slice (some ⟨by', oy, none⟩) N cy] 61 from KN.out)
      have d0 : w2.drew.cell? ⟨B2, 0, none⟩ = some (.slice (some ⟨bx, ox, none⟩) N cx) := KD.out.cell 0 _ rfl
      have d1 : w2.drew.cell? ⟨B2, 1, none⟩ = some (.slice (some ⟨by', oy, none⟩) N cy) := KD.out.cell 1 _ rfl
      go_region_held3 (fun w' => w'.cell? ⟨B2, 0, none⟩ = some (.slice (some ⟨bx, ox, none⟩) N cx) ∧ w'.cell? ⟨B2, 1, none⟩ = some (.slice (some ⟨by', oy, none⟩) N cy))
        (first | with_reducible exact ⟨d0, d1⟩ | with_reducible exact ⟨(Bk.drew (Bk.alloc KN.out _)).cell 0 _ rfl, (Bk.drew (Bk.alloc KN.out _)).cell 1 _ rfl⟩ | fail) (first | fail)
      have KL := Lib.hid ((Bk.new w2 #[.pointer (some ⟨bx, ox, none⟩), .pointer (some ⟨by', oy, none⟩), .int .i64 (N : Int)] 66).drew)
      have KN3 := Lib.hid ((KN.out.alloc (.cells #[.pointer (some ⟨bx, ox, none⟩), .pointer (some ⟨by', oy, none⟩), .int .i64 (N : Int)] 66)).drew)
      have HX3 := Lib.hid (below_drew (HX2.out.alloc (by have := HX2.out.size; omega) (.cells #[.pointer (some ⟨bx, ox, none⟩), .pointer (some ⟨by', oy, none⟩), .int .i64 (N : Int)] 66)))
      have HM3 : Hid (Mp (w2.alloc (.cells #[.pointer (some ⟨bx, ox, none⟩), .pointer (some ⟨by', oy, none⟩), .int .i64 (N : Int)] 66)).drew (H + 1 + 1 + 1 + 1 + 1) ks) := Mp_up HM2.out (Below.heap_alloc _ _ _ (Mp_lt HM2.out))
      have HO3 := Lib.hid ((keep_alloc HO2.out (.cells #[.pointer (some ⟨bx, ox, none⟩), .pointer (some ⟨by', oy, none⟩), .int .i64 (N : Int)] 66)).drew)
      generalize hs3 : w2.heap.size = B3 at KL nl ⊢
      obtain ⟨w3, hw3⟩ : ∃ w3, (w2.alloc (.cells #[.pointer (some ⟨bx, ox, none⟩), .pointer (some ⟨by', oy, none⟩), .int .i64 (N : Int)] 66)).drew = w3 := ⟨_, rfl⟩
      rw [hw3] at KL KN3 HX3 HM3 HO3 ⊢
      have l0 := KL.out.cell 0 _ rfl
      have l1 := KL.out.cell 1 _ rfl
      have l2 := KL.out.cell 2 _ rfl
      have ll := KL.out.lt
      clear n0 n1 d0 d1 KD KN HX2 HM2 HO2 hw3 hs3
      have hN := HNs.out.2.1
      have HKo : Hid ((⟨⟨bx, ox, none⟩, ⟨by', oy, none⟩, (N : Int)⟩ : SA.K).ok w3) := ⟨Pl_up Hr.out.plx HX3.out Hr.out.bx, Pl_up Hr.out.ply HX3.out Hr.out.by_⟩
      have HLo := Lib.hid (keys_ok HKy.out HIn.out.okD HX3.out)
      have RL := Lib.hid (look_any 63 67 Tryz.underlying63 zero_unit ⟨⟨bx, ox, none⟩, ⟨by', oy, none⟩, (N : Int)⟩ w3 _ ks HM3.out HKo.out HLo.out)
      obtain ⟨fk, hfk⟩ : ∃ fk, SA.found ⟨⟨bx, ox, none⟩, ⟨by', oy, none⟩, (N : Int)⟩ ks = fk := ⟨_, rfl⟩
      rw [hfk] at RL
      have HFk := Lib.hid hfk
      clear hfk hN
      cases fk with
      | true =>
        have hsk : Hid (Cov D L0 xs ys) := key_in HKy.out HIn.out.okD Hr.out L0 (by show SA.found ⟨⟨bx, ox, none⟩, ⟨by', oy, none⟩, (xs.length : Int)⟩ ks = true; rw [HNs.out.2.1]; exact HFk.out)
        go_wp2_with (first | (at_lookup; refine wpList_look _ rfl (.tmp 47) (.tmp 48) 63 rfl _ _ _ rfl rfl RL.out ?_))
        go_roundg g
        case rel => exact ⟨L0, D, ks, cap, G, c0, by have := HTot.out; have := tsizes_len xs; have := HNs.out.2.1; omega, by omega, by rw [HNs.out.1], rfl, ⟨HIn.out.skip hsk.out, by rw [HNs.out.1]; exact keep_alloc HO3.out _, Mp_up HM3.out (Below.heap_alloc _ _ _ (Mp_lt HM3.out)), HKy.out, HX3.out.alloc (by have := HX3.out.size; omega) _⟩⟩
        case measure => omega
      | false =>
        by_cases hp : (⟨bx, ox, none⟩ : Addr) = ⟨by', oy, none⟩
        · have hsk : Hid (Cov D L0 xs ys) := .inl (Hr.out.one hp)
          injection hp with e1 e2
          subst e1; subst e2
          have hpe := fun W => peq_yes ⟨bx, ox, none⟩ W
          go_wp2_with (first | (at_lookup; refine wpList_look _ rfl (.tmp 47) (.tmp 48) 63 rfl _ _ _ rfl rfl RL.out ?_))
          go_roundg g
          case rel => exact ⟨L0, D, ks, cap, G, c0, by have := HTot.out; have := tsizes_len xs; have := HNs.out.2.1; omega, by omega, by rw [HNs.out.1], rfl, ⟨HIn.out.skip hsk.out, by rw [HNs.out.1]; exact keep_alloc HO3.out _, Mp_up HM3.out (Below.heap_alloc _ _ _ (Mp_lt HM3.out)), HKy.out, HX3.out.alloc (by have := HX3.out.size; omega) _⟩⟩
          case measure => omega
        · have HX4 := Lib.hid (HX3.out.alloc (by have := HX3.out.size; omega) (.cells #[] 67))
          have hpe : (binOp .eql 64 (.pointer (some ⟨bx, ox, none⟩)) (.pointer (some ⟨by', oy, none⟩))).run Tryz.prog (w3.alloc (.cells #[] 67)) = .ok (.bool false) (w3.alloc (.cells #[] 67)) := peq_no hp (Pl_up Hr.out.plx HX4.out Hr.out.bx) (Pl_up Hr.out.ply HX4.out Hr.out.by_)
          have hc5 : c0 ≤ 5000 := by omega
          have HM4 := Lib.hid (Mp_up (w' := w3.alloc (.cells #[] 67)) HM3.out (Below.heap_alloc _ _ _ (Mp_lt HM3.out)))
          have HO4 := Lib.hid (keep_alloc HO3.out (.cells #[] 67))
          have KN4 := Lib.hid (KN3.out.alloc (.cells #[] 67))
          have KL4 := Lib.hid (KL.out.alloc (.cells #[] 67))
          have HKo4 : Hid ((⟨⟨bx, ox, none⟩, ⟨by', oy, none⟩, (N : Int)⟩ : SA.K).ok (w3.alloc (.cells #[] 67))) := ⟨Pl_up Hr.out.plx HX4.out Hr.out.bx, Pl_up Hr.out.ply HX4.out Hr.out.by_⟩
          obtain ⟨o, hput, hMp5⟩ := put_any 63 67 Tryz.underlying63 ⟨⟨bx, ox, none⟩, ⟨by', oy, none⟩, (N : Int)⟩ _ _ ks HM4.out HKo4.out (keys_ok HKy.out HIn.out.okD HX4.out) HFk.out
          have HPut := Lib.hid hput
          have HM5 := Lib.hid hMp5
          have HG5 := setMap_grown (w := w3.alloc (.cells #[] 67)) (H + 1 + 1 + 1 + 1 + 1) o
          have KN5 := Lib.hid (KN4.out.grown HG5 (by intro e; have := Option.some.inj e; omega))
          have HO5 := Lib.hid (HO4.out.kept HG5 (.inr (fun e => hGk (by first | exact Option.some.inj e | exact (Option.some.inj e).symm))))
          have HX5 := Lib.hid (HX4.out.grown HG5 (by have := HX4.out.size; omega) (fun k hk => by have := Option.some.inj hk; omega))
          have HK4 : Hid (∀ k ∈ ks, ∃ s ∈ (⟨xs, ys, ⟨bx, ox, none⟩, ⟨by', oy, none⟩, cx, cy⟩ : Pr) :: D, k = ⟨s.px, s.py, (s.xs.length : Int)⟩) := fun k hk => by
            obtain ⟨s, hs, e⟩ := HKy.out k hk
            exact ⟨s, List.mem_cons_of_mem _ hs, e⟩
          have HK5 : Hid (∀ k ∈ ks ++ [⟨⟨bx, ox, none⟩, ⟨by', oy, none⟩, (N : Int)⟩], ∃ s ∈ (⟨xs, ys, ⟨bx, ox, none⟩, ⟨by', oy, none⟩, cx, cy⟩ : Pr) :: D, k = ⟨s.px, s.py, (s.xs.length : Int)⟩) := fun k hk => by
            rcases List.mem_append.1 hk with hk | hk
            · exact HK4.out k hk
            · exact ⟨_, List.mem_cons_self, by rw [List.mem_singleton.1 hk]; simp only [HNs.out.2.1]⟩
          have m0 := KN4.out.cell 0 _ rfl
          have m1 := KN4.out.cell 1 _ rfl
          have ml := KN4.out.lt
          have u0 := KN5.out.cell 0 _ rfl
          have u1 := KN5.out.cell 1 _ rfl
          have ul := KN5.out.lt
          clear hput hMp5 HG5 HM3 HO3 KN3 KL HX3 HFk HLo HKo HKo4
          cases hmod : (((c0 : Int) + 1) % 64 == 0)
          all_goals
            go_wp2_with (first
              | (at_lookup; refine wpList_look _ rfl (.tmp 47) (.tmp 48) 63 rfl _ _ _ rfl rfl RL.out ?_)
              | (at_mapUpdate; refine wpList_upd _ rfl (.tmp 65) (.tmp 66) (.tmp 67) 63 rfl _ _ _ rfl rfl rfl HPut.out ?_))
            clear l0 l1 l2 m0 m1 ml u0 u1 ul HPut RL hmod
            go_loopg [71, 5] N (fun g2 i l wi => ∃ (j : Nat) (L1 : List Pr) (cap1 G1 : Nat) (ks5 : List SA.K), j + g2 = N ∧ i = .int .i64 (j : Int) ∧ l = .slice (some ⟨G1, 0, none⟩) (L0 ++ L1).length cap1 ∧ G1 ≠ B2 ∧ Hid (Mid W (H + 4) a b L0 D ⟨xs, ys, ⟨bx, ox, none⟩, ⟨by', oy, none⟩, cx, cy⟩ L1 j) ∧ Hid (Bk wi B2 #[.slice (some ⟨bx, ox, none⟩) N cx, .slice (some ⟨by', oy, none⟩) N cy] 61) ∧
              Hid (wi.ownsRow (H + 4) 61 2 (.slice (some ⟨G1, 0, none⟩) (L0 ++ L1).length cap1) (L0 ++ L1).length (flat (L0 ++ L1))) ∧ Hid (Mp wi (H + 1 + 1 + 1 + 1 + 1) ks5) ∧ Hid (∀ k ∈ ks5, ∃ s ∈ (⟨xs, ys, ⟨bx, ox, none⟩, ⟨by', oy, none⟩, cx, cy⟩ : Pr) :: D, k = ⟨s.px, s.py, (s.xs.length : Int)⟩) ∧ Hid (Below (H + 4) W wi))
            case atStart => first
              | exact ⟨0, [], cap, G, _, by omega, rfl, by rw [List.append_nil, HNs.out.1], by omega, Mid.start _ _ _ _ _ _ _, KN5.out, by rw [List.append_nil, HNs.out.1]; exact HO5.out, HM5.out, HK5.out, HX5.out⟩
              | exact ⟨0, [], cap, G, _, by omega, rfl, by rw [List.append_nil, HNs.out.1], by omega, Mid.start _ _ _ _ _ _ _, KN4.out, by rw [List.append_nil, HNs.out.1]; exact HO4.out, HM4.out, HK4.out, HX4.out⟩
            case round =>
              clear KN4 KN5 KL4 HO4 HO5 HM4 HM5 HK4 HK5 HX4 HX5 hpe
              obtain ⟨j, L1, cap1, G1, ks5, hj, rfl, rfl, hGB, HMid, HKN, HOi, HMi, HKi, HXi⟩ := hrel
              obtain ⟨q, hq⟩ : ∃ q, (L0 ++ L1).length = q := ⟨_, rfl⟩
              have HQ := Lib.hid hq
              rw [hq] at HOi ⊢
              have n0 := HKN.out.cell 0 _ rfl
              have n1 := HKN.out.cell 1 _ rfl
              have nl := HKN.out.lt
              by_cases hlt : j < N
              · obtain ⟨g3, hg3⟩ : ∃ g3, gk = g3 + 1 := ⟨gk - 1, by omega⟩
                subst hg3
                have hjx : j < xs.length := by rw [HNs.out.2.1]; exact hlt
                have hjy : j < ys.length := by rw [HNs.out.2.2]; exact hlt
                obtain ⟨qx, Kx⟩ := Hr.out.kx j hjx
                obtain ⟨qy, Ky⟩ := Hr.out.ky j hjy
                obtain ⟨v1, c1, v3, c3, e1, e2, k1, k2, NB1, KD1⟩ := node_parts Kx.n
                obtain ⟨v2, c2, v4, c4, f1, f2, k3, k4, NB2, KD2⟩ := node_parts Ky.n
                have x0 := (HXi.out.cell (p := ⟨bx, ox + j * 6, none⟩) hbx).trans Kx.c0
                have x1 := (HXi.out.cell (p := ⟨bx, ox + j * 6 + 1, none⟩) hbx).trans Kx.c1
                have x2 := (HXi.out.cell (p := ⟨bx, ox + j * 6 + 2, none⟩) hbx).trans Kx.c2
                have x3 := (HXi.out.cell (p := ⟨bx, ox + j * 6 + 3, none⟩) hbx).trans Kx.c3
                have x4 := (HXi.out.cell (p := ⟨bx, ox + j * 6 + 4, none⟩) hbx).trans Kx.c4
                have x5 := (HXi.out.cell (p := ⟨bx, ox + j * 6 + 5, none⟩) hbx).trans Kx.c5
                have y0 := (HXi.out.cell (p := ⟨by', oy + j * 6, none⟩) hby).trans Ky.c0
                have y1 := (HXi.out.cell (p := ⟨by', oy + j * 6 + 1, none⟩) hby).trans Ky.c1
                have y2 := (HXi.out.cell (p := ⟨by', oy + j * 6 + 2, none⟩) hby).trans Ky.c2
                have y3 := (HXi.out.cell (p := ⟨by', oy + j * 6 + 3, none⟩) hby).trans Ky.c3
                have y4 := (HXi.out.cell (p := ⟨by', oy + j * 6 + 4, none⟩) hby).trans Ky.c4
                have y5 := (HXi.out.cell (p := ⟨by', oy + j * 6 + 5, none⟩) hby).trans Ky.c5
                rw [e1] at x4
                rw [e2] at x5
                rw [f1] at y4
                rw [f2] at y5
                have HKx := Lib.hid KD1
                have HKy2 := Lib.hid KD2
                have szx : tsize xs[j] ≤ 5000 := Nat.le_trans (kid_size xs j hjx) Hr.out.sx
                have szy : tsize ys[j] ≤ 5000 := Nat.le_trans (kid_size ys j hjy) Hr.out.sy
                have sx2 := kids_size xs[j]
                have sy2 := kids_size ys[j]
                have bl := tsizes_len xs[j].kids
                have bl2 := tsizes_len ys[j].kids
                have HAl := Lib.hid (fun W' (hW : Below (H + 4) W W') => alike_any xs[j] ys[j] _ _ _ _ v1 v2 v3 v4 c1 c2 c3 c4 W' rfl rfl rfl rfl (by omega) (by omega) (NB1.up hW) (NB2.up hW))
                obtain ⟨x, hx⟩ : ∃ x, xs[j] = x := ⟨_, rfl⟩
                obtain ⟨y, hy⟩ : ∃ y, ys[j] = y := ⟨_, rfl⟩
                rw [hx] at x0 x1 x2 x3 x4 x5 szx sx2 bl HAl HKx
                rw [hy] at y0 y1 y2 y3 y4 y5 szy sy2 bl2 HAl HKy2
                have HAs := Lib.hid (fun e => all_same HIn.out e j hjx hjy)
                have HNo := Lib.hid (fun ha h0 => Mid.none HMid.out hjx hjy ha h0)
                have HMo := Lib.hid (fun s ha hs hx hy => Mid.more (s := s) HIn.out HMid.out hjx hjy ha hs hx hy)
                simp only [hx, hy] at HAs HNo HMo
                obtain ⟨M, hM⟩ : ∃ M, x.kids.length = M := ⟨_, rfl⟩
                obtain ⟨M2, hM2⟩ : ∃ M2, y.kids.length = M2 := ⟨_, rfl⟩
                obtain ⟨P1, hP1⟩ : ∃ P1, x.names.length = P1 := ⟨_, rfl⟩
                obtain ⟨P2, hP2⟩ : ∃ P2, y.names.length = P2 := ⟨_, rfl⟩
                rw [hP1] at x4 HAl
                rw [hP2] at y4 HAl
                rw [hM] at x5 HAl bl
                rw [hM2] at y5 HAl bl2
                have hM5 : M ≤ 5000 := by omega
                have hM6 : M2 ≤ 5000 := by omega
                have HMs := Lib.hid (And.intro hM (And.intro hM2 (And.intro sx2 (And.intro sy2 (And.intro szx szy)))))
                have zx : bx < wr.heap.size := by have := HXi.out.size; omega
                have zy : by' < wr.heap.size := by have := HXi.out.size; omega
                have i0' : (0 : Int) ≤ (j : Int) := by omega
                have i1' : (j : Int) < (N : Int) := by omega
                obtain ⟨AL, hAL⟩ : ∃ AL, alike x y = AL := ⟨_, rfl⟩
                rw [hAL] at HAl
                have HAL := Lib.hid hAL
                clear Kx Ky NB1 NB2 KD1 KD2 e1 e2 f1 f2 k1 k2 k3 k4 szx szy sx2 sy2 bl bl2 hx hy hM hM2 hP1 hP2 hAL HMid hjx hjy hq
                go_wp2_with fail
                have HXa := Lib.hid ((HXi.out.alloc (by have := HXi.out.size; omega) (.cells #[.int .i64 (x.kind : Int), .string ⟨x.text.toArray⟩, .int .i64 (x.num : Int), .int .i64 (x.pl : Int), .slice v1 P1 c1, .slice v3 M c3] 25)).alloc (by have := HXi.out.size; simp; omega) (.cells #[.int .i64 (y.kind : Int), .string ⟨y.text.toArray⟩, .int .i64 (y.num : Int), .int .i64 (y.pl : Int), .slice v2 P2 c2, .slice v4 M2 c4] 25))
                have KX := Lib.hid ((Bk.new wr #[.int .i64 (x.kind : Int), .string ⟨x.text.toArray⟩, .int .i64 (x.num : Int), .int .i64 (x.pl : Int), .slice v1 P1 c1, .slice v3 M c3] 25).alloc (.cells #[.int .i64 (y.kind : Int), .string ⟨y.text.toArray⟩, .int .i64 (y.num : Int), .int .i64 (y.pl : Int), .slice v2 P2 c2, .slice v4 M2 c4] 25))
                have KY := Lib.hid (show Bk ((wr.alloc (.cells #[.int .i64 (x.kind : Int), .string ⟨x.text.toArray⟩, .int .i64 (x.num : Int), .int .i64 (x.pl : Int), .slice v1 P1 c1, .slice v3 M c3] 25)).alloc (.cells #[.int .i64 (y.kind : Int), .string ⟨y.text.toArray⟩, .int .i64 (y.num : Int), .int .i64 (y.pl : Int), .slice v2 P2 c2, .slice v4 M2 c4] 25)) (wr.heap.size + 1) #[.int .i64 (y.kind : Int), .string ⟨y.text.toArray⟩, .int .i64 (y.num : Int), .int .i64 (y.pl : Int), .slice v2 P2 c2, .slice v4 M2 c4] 25 from heap_at _ _ _ (by simp))
                have KNa := Lib.hid ((HKN.out.alloc (.cells #[.int .i64 (x.kind : Int), .string ⟨x.text.toArray⟩, .int .i64 (x.num : Int), .int .i64 (x.pl : Int), .slice v1 P1 c1, .slice v3 M c3] 25)).alloc (.cells #[.int .i64 (y.kind : Int), .string ⟨y.text.toArray⟩, .int .i64 (y.num : Int), .int .i64 (y.pl : Int), .slice v2 P2 c2, .slice v4 M2 c4] 25))
                have HMa := Lib.hid (show Mp ((wr.alloc (.cells #[.int .i64 (x.kind : Int), .string ⟨x.text.toArray⟩, .int .i64 (x.num : Int), .int .i64 (x.pl : Int), .slice v1 P1 c1, .slice v3 M c3] 25)).alloc (.cells #[.int .i64 (y.kind : Int), .string ⟨y.text.toArray⟩, .int .i64 (y.num : Int), .int .i64 (y.pl : Int), .slice v2 P2 c2, .slice v4 M2 c4] 25)) (H + 1 + 1 + 1 + 1 + 1) ks5 from Mp_up (Mp_up HMi.out (Below.heap_alloc _ _ _ (Mp_lt HMi.out))) (Below.heap_alloc _ _ _ (by have := Mp_lt HMi.out; simp; omega)))
                have HOa := Lib.hid (keep_alloc (keep_alloc HOi.out (.cells #[.int .i64 (x.kind : Int), .string ⟨x.text.toArray⟩, .int .i64 (x.num : Int), .int .i64 (x.pl : Int), .slice v1 P1 c1, .slice v3 M c3] 25)) (.cells #[.int .i64 (y.kind : Int), .string ⟨y.text.toArray⟩, .int .i64 (y.num : Int), .int .i64 (y.pl : Int), .slice v2 P2 c2, .slice v4 M2 c4] 25))
                have hws : wr.heap.size < ((wr.alloc (.cells #[.int .i64 (x.kind : Int), .string ⟨x.text.toArray⟩, .int .i64 (x.num : Int), .int .i64 (x.pl : Int), .slice v1 P1 c1, .slice v3 M c3] 25)).alloc (.cells #[.int .i64 (y.kind : Int), .string ⟨y.text.toArray⟩, .int .i64 (y.num : Int), .int .i64 (y.pl : Int), .slice v2 P2 c2, .slice v4 M2 c4] 25)).heap.size := by simp; omega
                refine (HAl.out _ HXa.out).mono ?_
                rintro e w7 ⟨rfl, hb7⟩
                have HX7 := Lib.hid (HXa.out.trans (hb7.mono (by have := HXa.out.size; omega)))
                have KX7 := KX.out.below hb7 KX.out.lt
                have KY7 := KY.out.below hb7 KY.out.lt
                have KN7 := Lib.hid (KNa.out.below hb7 KNa.out.lt)
                have HM7 := Lib.hid (Mp_up HMa.out (hb7.block _ (Mp_lt HMa.out)))
                have HO7 := Lib.hid (own_below HOa.out hb7)
                have p5 := KX7.cell 5 _ rfl
                have q5 := KY7.cell 5 _ rfl
                have pl := KX7.lt
                have ql := KY7.lt
                have hs7 : wr.heap.size < w7.heap.size := Nat.lt_of_lt_of_le hws hb7.size
                clear hb7 KX KY KX7 KY7 KNa HMa HOa hws HXa HAl x0 x1 x2 x3 x4 x5 y0 y1 y2 y3 y4 y5 HXi HMi HOi HKN
                cases AL with
                | false =>
                  have e : SM = false := by
                    cases hsm : SM with
                    | false => rfl
                    | true =>
                      have h1 := HAs.out (by rw [HSM.out, hsm])
                      have h2 := ((same_iff _ _).1 h1).1
                      rw [HAL.out] at h2
                      cases h2
                  subst e
                  go_wp2
                  go_ret
                  exact ⟨rfl, by rw [hH]; exact ST2.out.2.2.2.trans (HX7.out.mono (by omega))⟩
                | true =>
                  have hMM : M = M2 := by
                    have h2 := HAL.out
                    simp only [alike, Bool.and_eq_true, decide_eq_true_eq] at h2
                    rw [← HMs.out.1, ← HMs.out.2.1]
                    exact h2.2.2.2.2
                  subst hMM
                  by_cases hM0 : M = 0
                  · have HMid2 := Lib.hid (HNo.out HAL.out (by rw [HMs.out.1]; exact hM0))
                    subst hM0
                    go_wp2
                    go_roundg g3
                    case rel => exact ⟨j + 1, L1, cap1, G1, ks5, by omega, by go_num, by rw [HQ.out], hGB, HMid2.out, KN7.out, by rw [HQ.out]; exact HO7.out, HM7.out, HKi.out, HX7.out⟩
                    case measure => omega
                  · obtain ⟨b3, o3, rfl, lb3, lw3, P3, KK3⟩ := HKx.out (by rw [HMs.out.1]; omega)
                    obtain ⟨b4, o4, rfl, lb4, lw4, P4, KK4⟩ := HKy2.out (by rw [HMs.out.2.1]; omega)
                    have hMi : (0 : Int) < (M : Int) := by omega
                    have HMid2 := Lib.hid (HMo.out ⟨x.kids, y.kids, ⟨b3, o3, none⟩, ⟨b4, o4, none⟩, c3, c4⟩ HAL.out
                      ⟨by show 0 < x.kids.length; rw [HMs.out.1]; omega, by show x.kids.length = y.kids.length; rw [HMs.out.1, HMs.out.2.1], by have := HMs.out.2.2.1; have := HMs.out.2.2.2.2.1; show tsizes x.kids ≤ 5000; omega, by have := HMs.out.2.2.2.1; have := HMs.out.2.2.2.2.2; show tsizes y.kids ≤ 5000; omega, lb3, lb4, rfl, rfl, P3, P4, KK3, KK4⟩ rfl rfl)
                    have hMi : (0 : Int) < (M : Int) := by omega
                    have hq5 : q ≤ 5000 := by
                      have h5 := total_len HMid2.out.ok1
                      have h6 := HMid2.out.tot
                      have h7 := HTot.out
                      have h8 := total_len (fun s hs => HIn.out.okL s (List.mem_append_left _ hs))
                      have h9 := HQ.out
                      simp only [List.length_append, List.length_cons, List.length_nil] at h5 h9
                      simp only at h6
                      omega
                    have hb7 : H + 4 ≤ w7.heap.size := by omega
                    have hGk7 := own_ne HO7.out HM7.out
                    clear HKx HKy2 lb3 lw3 P3 KK3 lb4 lw4 P4 KK4 HAs HNo HMo
                    go_wp2_with (first
                      | (refine wpList_pair w7 (.tmp 89) (.tmp 95) (H + 4) q _ _ _ _ M c3 M c4 rfl rfl rfl rfl HO7.out hq5 hb7 ?_; intro g cap8 w8 hown hgrow hat
                         have HO8 := Lib.hid hown
                         have KN8 := Lib.hid ((KN7.out.alloc (.cells #[.slice (some ⟨b3, o3, none⟩) M c3, .slice (some ⟨b4, o4, none⟩) M c4] 61)).grown hgrow (by intro e; exact hGB (Option.some.inj e)))
                         have HM8 := Lib.hid (Mp_up HM7.out ((hgrow.block (H + 1 + 1 + 1 + 1 + 1) (by have := Mp_lt HM7.out; simp; omega) (by intro e; first | exact hGk7 (Option.some.inj e) | exact hGk7 (Option.some.inj e).symm)).trans (Below.heap_alloc _ _ _ (Mp_lt HM7.out))))
                         have HX8 := Lib.hid ((HX7.out.alloc hb7 (.cells #[.slice (some ⟨b3, o3, none⟩) M c3, .slice (some ⟨b4, o4, none⟩) M c4] 61)).grown hgrow (by simp; omega) (fun k hk => by have h1 := (HO7.out.lt k hk.symm.symm).1; exact h1))
                         have hg8 : g ≠ B2 := by
                           rcases hat with h | h
                           · have h := Option.some.inj h
                             exact fun e => hGB (by rw [← e]; exact h)
                           · have := KN7.out.lt; omega
                         clear hown hgrow hat))
                    have hl9 : (L0 ++ (L1 ++ [(⟨x.kids, y.kids, ⟨b3, o3, none⟩, ⟨b4, o4, none⟩, c3, c4⟩ : Pr)])).length = q + 1 := by rw [← List.append_assoc, List.length_append, HQ.out]; rfl
                    have hf9 : flat (L0 ++ (L1 ++ [(⟨x.kids, y.kids, ⟨b3, o3, none⟩, ⟨b4, o4, none⟩, c3, c4⟩ : Pr)])) = flat (L0 ++ L1) ++ [.slice (some ⟨b3, o3, none⟩) M c3, .slice (some ⟨b4, o4, none⟩) M c4] := by
                      rw [← List.append_assoc, flat_append]
                      simp only [flat, Pr.a, Pr.b, HMs.out.1, HMs.out.2.1]
                    go_roundg g3
                    case rel => exact ⟨j + 1, L1 ++ [(⟨x.kids, y.kids, ⟨b3, o3, none⟩, ⟨b4, o4, none⟩, c3, c4⟩ : Pr)], cap8, g, ks5, by omega, by go_num, by rw [hl9], hg8, HMid2.out, KN8.out, by rw [hl9, hf9]; exact HO8.out, HM8.out, HKi.out, HX8.out⟩
                    case measure => omega
              · have hjN : j = N := by omega
                subst hjN
                have hdn := HMid.out
                rw [← HNs.out.2.1] at hdn
                obtain ⟨hiv, htt⟩ := Mid.done HIn.out hdn
                have HIv := Lib.hid hiv
                have hxl : xs.length = j := HNs.out.2.1
                have htl : total (L0 ++ L1) ≤ g := by
                  rw [total_append]
                  have := HTot.out
                  simp only at htt
                  omega
                clear hdn hiv htt hxl HMid
                go_wp2
                go_roundg g
                case rel => exact ⟨L0 ++ L1, _ :: D, ks5, cap1, G1, c0 + 1, htl, by omega, by rw [HQ.out], by go_num, ⟨HIv.out, by rw [HQ.out]; exact HOi.out, HMi.out, HKi.out, HXi.out⟩⟩
                case measure => omega
end Go.Proofs.YtlcapkgbbgpdmaaGreatDoor.SF

/- ParseBrackets: the walk. -/
namespace Go.Proofs.YtlcapkgbbgpdmaaGreatDoor.parseBrackets
open Go.RowKit Go.Maps
open Go.Proofs.YtlcapkgbbgpdmaaGreatDoor.P Go.Proofs.YtlcapkgbbgpdmaaGreatDoor.A Go.Proofs.YtlcapkgbbgpdmaaGreatDoor.PS Go.Proofs.YtlcapkgbbgpdmaaGreatDoor.PN Go.Proofs.YtlcapkgbbgpdmaaGreatDoor.QE Go.Proofs.YtlcapkgbbgpdmaaGreatDoor.QH Go.Proofs.YtlcapkgbbgpdmaaGreatDoor.QI Go.Proofs.YtlcapkgbbgpdmaaGreatDoor.QJ Go.Proofs.YtlcapkgbbgpdmaaGreatDoor.GR Go.Proofs.YtlcapkgbbgpdmaaGreatDoor.TK Go.Proofs.YtlcapkgbbgpdmaaGreatDoor.TL Go.Proofs.YtlcapkgbbgpdmaaGreatDoor.TO Go.Proofs.YtlcapkgbbgpdmaaGreatDoor.RZ Go.Proofs.YtlcapkgbbgpdmaaGreatDoor.SF
set_option linter.unusedVariables false
set_option maxRecDepth 100000

theorem ahead_do (t : ByteArray) : ((⟨#[100, 111, 32]⟩ : ByteArray) ++ t).data.toList = DP.ahead3 ++ t.data.toList := by
  rw [ByteArray.data_append, Array.toList_append]; rfl
theorem ahead_in (t : ByteArray) : ((⟨#[100, 111, 32, 40]⟩ : ByteArray) ++ t ++ (⟨#[10, 41]⟩ : ByteArray)).data.toList = LC.ahead4 ++ (t.data.toList ++ [10, 41]) := by
  rw [ByteArray.data_append, ByteArray.data_append, Array.toList_append, Array.toList_append, List.append_assoc]; rfl

set_option maxRecDepth 100000 in
set_option maxHeartbeats 8000000 in
theorem walk (w : World) (a0 : ByteArray) (w0 : a0.size ≤ maxLen) (hd : Dig w) :
    Calls Tryz.prog 6 #[.string a0] w fun e w' => e = .returned (.bool true) ∧ Below w.heap.size w w' := by
  have HD := Lib.hid hd
  clear hd
  go_enter Tryz.func6, Tryz.ntmps6
  by_cases hbig : 300 < a0.size
  · have hT : (a0.extract 0 300).size ≤ 300 := by simp; omega
    obtain ⟨t, ht⟩ : ∃ t, a0.extract 0 300 = t := ⟨_, rfl⟩
    rw [ht] at hT
    have PA := fun W (hW : Dig W) => QG.program_is (⟨#[100, 111, 32]⟩ ++ t) W (by rw [ByteArray.size_append]; show 3 + _ ≤ _; unfold maxLen; omega) hW
    have PB := fun W (hW : Dig W) => QG.program_is (⟨#[100, 111, 32, 40]⟩ ++ t ++ ⟨#[10, 41]⟩) W (by rw [ByteArray.size_append, ByteArray.size_append]; show 4 + _ + 2 ≤ _; unfold maxLen; omega) hW
    have hbr := LD.brackets (s := t.data.toList) (by simp; omega)
    have za := gparsed_size (DP.ahead3 ++ t.data.toList)
    have zb := gparsed_size (LC.ahead4 ++ (t.data.toList ++ [10, 41]))
    rw [ahead_do] at PA
    rw [ahead_in] at PB
    obtain ⟨RA, hRA⟩ : ∃ R, MB.gparsed (DP.ahead3 ++ t.data.toList) = R := ⟨_, rfl⟩
    obtain ⟨RB, hRB⟩ : ∃ R, MB.gparsed (LC.ahead4 ++ (t.data.toList ++ [10, 41])) = R := ⟨_, rfl⟩
    rw [hRA] at PA hbr za
    rw [hRB] at PB hbr zb
    obtain ⟨tA, pA, eA⟩ := RA
    obtain ⟨tB, pB, eB⟩ := RB
    have HB := Lib.hid hbr
    have ZA := Lib.hid za
    have ZB := Lib.hid zb
    have PB := Lib.hid PB
    clear hbr za zb hRA hRB
    go_wp2_with fail
    refine (PA _ HD.out).mono ?_
    intro x w3 h3
    obtain ⟨ao, an, ac, bo, bn, bc, rfl, B3, N3⟩ := out_any h3
    have B3 := Lib.hid B3
    have N3 := Lib.hid N3
    clear h3 PA
    have HW3a := Lib.hid (B3.out.alloc B3.out.size (.cells #[.int .i64 (tA.kind : Int), .string ⟨tA.text.toArray⟩, .int .i64 (tA.num : Int), .int .i64 (tA.pl : Int), .slice ao an ac, .slice bo bn bc] 25))
    have HD3 := Lib.hid (HD.out.below HW3a.out)
    have KA := Lib.hid (Bk.new w3 #[.int .i64 (tA.kind : Int), .string ⟨tA.text.toArray⟩, .int .i64 (tA.num : Int), .int .i64 (tA.pl : Int), .slice ao an ac, .slice bo bn bc] 25)
    have N3a := Lib.hid (HasN_below N3.out ((Below.refl w3.heap.size w3).alloc (Nat.le_refl _) (.cells #[.int .i64 (tA.kind : Int), .string ⟨tA.text.toArray⟩, .int .i64 (tA.num : Int), .int .i64 (tA.pl : Int), .slice ao an ac, .slice bo bn bc] 25)))
    go_wp2_with fail
    refine (PB.out _ HD3.out).mono ?_
    intro x w4 h4
    obtain ⟨ao', an', ac', bo', bn', bc', rfl, B4, N4⟩ := out_any h4
    have KA4 := KA.out.below B4 KA.out.lt
    obtain ⟨g0, g1, g2, g3, g4, g5⟩ := KA4.c6
    have gl := KA4.lt
    have HW4 := Lib.hid (HW3a.out.trans (B4.mono HW3a.out.size))
    have HW4a := Lib.hid (HW4.out.alloc HW4.out.size (.cells #[.int .i64 (tB.kind : Int), .string ⟨tB.text.toArray⟩, .int .i64 (tB.num : Int), .int .i64 (tB.pl : Int), .slice ao' an' ac', .slice bo' bn' bc'] 25))
    have HD4 := Lib.hid (HD.out.below HW4a.out)
    have RS := psame tA tB ao bo ao' bo' an ac bn bc an' ac' bn' bc' (w4.alloc (.cells #[.int .i64 (tB.kind : Int), .string ⟨tB.text.toArray⟩, .int .i64 (tB.num : Int), .int .i64 (tB.pl : Int), .slice ao' an' ac', .slice bo' bn' bc'] 25)) (by have := ZA.out; omega) (by have := ZB.out; omega)
      (HasN_below (HasN_below N3a.out B4) ((Below.refl w4.heap.size w4).alloc (Nat.le_refl _) _)) (HasN_below N4 ((Below.refl w4.heap.size w4).alloc (Nat.le_refl _) _))
    unfold nval at RS
    clear h4 B4 N4 N3 N3a KA KA4 HD3 PB B3
    by_cases hA : eA = 0
    · subst hA
      by_cases hB : eB = 0
      · subst hB
        rw [HB.out rfl rfl] at RS
        have RS := Lib.hid RS
        go_wp2_with (first
          | (go_at_call 17; refine RS.out.mono ?_; rintro e w5 ⟨rfl, hb5⟩; have HB5 := Lib.hid (HW4a.out.trans (hb5.mono HW4a.out.size)); have HD5 := Lib.hid (HD.out.below HB5.out); clear hb5)
          | (go_at_call 19; refine (QH.lives_any _ HD5.out).mono ?_; rintro e w6 ⟨rfl, hb6⟩; have HB6 := Lib.hid hb6; clear hb6))
        go_ret
        exact ⟨rfl, HB5.out.trans (HB6.out.mono HB5.out.size)⟩
      · have hx : ((eB : Int) != 0) = true := QE.i_nf (b := 0) hB
        clear RS hB
        go_wp2_with (first | (go_at_call 19; refine (QH.lives_any _ HD4.out).mono ?_; rintro e w6 ⟨rfl, hb6⟩; have HB6 := Lib.hid hb6; clear hb6))
        go_ret
        exact ⟨rfl, HW4a.out.trans (HB6.out.mono HW4a.out.size)⟩
    · have hx : ((eA : Int) != 0) = true := QE.i_nf (b := 0) hA
      by_cases hB : eB = 0
      · subst hB
        clear RS hA
        go_wp2_with (first | (go_at_call 19; refine (QH.lives_any _ HD4.out).mono ?_; rintro e w6 ⟨rfl, hb6⟩; have HB6 := Lib.hid hb6; clear hb6))
        go_ret
        exact ⟨rfl, HW4a.out.trans (HB6.out.mono HW4a.out.size)⟩
      · have hy : ((eB : Int) != 0) = true := QE.i_nf (b := 0) hB
        clear RS hA hB
        go_wp2_with (first | (go_at_call 19; refine (QH.lives_any _ HD4.out).mono ?_; rintro e w6 ⟨rfl, hb6⟩; have HB6 := Lib.hid hb6; clear hb6))
        go_ret
        exact ⟨rfl, HW4a.out.trans (HB6.out.mono HW4a.out.size)⟩
  · have hT : a0.size ≤ 300 := by omega
    have PA := fun W (hW : Dig W) => QG.program_is (⟨#[100, 111, 32]⟩ ++ a0) W (by rw [ByteArray.size_append]; show 3 + _ ≤ _; unfold maxLen; omega) hW
    have PB := fun W (hW : Dig W) => QG.program_is (⟨#[100, 111, 32, 40]⟩ ++ a0 ++ ⟨#[10, 41]⟩) W (by rw [ByteArray.size_append, ByteArray.size_append]; show 4 + _ + 2 ≤ _; unfold maxLen; omega) hW
    have hbr := LD.brackets (s := a0.data.toList) (by simp; omega)
    have za := gparsed_size (DP.ahead3 ++ a0.data.toList)
    have zb := gparsed_size (LC.ahead4 ++ (a0.data.toList ++ [10, 41]))
    rw [ahead_do] at PA
    rw [ahead_in] at PB
    obtain ⟨RA, hRA⟩ : ∃ R, MB.gparsed (DP.ahead3 ++ a0.data.toList) = R := ⟨_, rfl⟩
    obtain ⟨RB, hRB⟩ : ∃ R, MB.gparsed (LC.ahead4 ++ (a0.data.toList ++ [10, 41])) = R := ⟨_, rfl⟩
    rw [hRA] at PA hbr za
    rw [hRB] at PB hbr zb
    obtain ⟨tA, pA, eA⟩ := RA
    obtain ⟨tB, pB, eB⟩ := RB
    have HB := Lib.hid hbr
    have ZA := Lib.hid za
    have ZB := Lib.hid zb
    have PB := Lib.hid PB
    clear hbr za zb hRA hRB
    go_wp2_with fail
    refine (PA _ HD.out).mono ?_
    intro x w3 h3
    obtain ⟨ao, an, ac, bo, bn, bc, rfl, B3, N3⟩ := out_any h3
    have B3 := Lib.hid B3
    have N3 := Lib.hid N3
    clear h3 PA
    have HW3a := Lib.hid (B3.out.alloc B3.out.size (.cells #[.int .i64 (tA.kind : Int), .string ⟨tA.text.toArray⟩, .int .i64 (tA.num : Int), .int .i64 (tA.pl : Int), .slice ao an ac, .slice bo bn bc] 25))
    have HD3 := Lib.hid (HD.out.below HW3a.out)
    have KA := Lib.hid (Bk.new w3 #[.int .i64 (tA.kind : Int), .string ⟨tA.text.toArray⟩, .int .i64 (tA.num : Int), .int .i64 (tA.pl : Int), .slice ao an ac, .slice bo bn bc] 25)
    have N3a := Lib.hid (HasN_below N3.out ((Below.refl w3.heap.size w3).alloc (Nat.le_refl _) (.cells #[.int .i64 (tA.kind : Int), .string ⟨tA.text.toArray⟩, .int .i64 (tA.num : Int), .int .i64 (tA.pl : Int), .slice ao an ac, .slice bo bn bc] 25)))
    go_wp2_with fail
    refine (PB.out _ HD3.out).mono ?_
    intro x w4 h4
    obtain ⟨ao', an', ac', bo', bn', bc', rfl, B4, N4⟩ := out_any h4
    have KA4 := KA.out.below B4 KA.out.lt
    obtain ⟨g0, g1, g2, g3, g4, g5⟩ := KA4.c6
    have gl := KA4.lt
    have HW4 := Lib.hid (HW3a.out.trans (B4.mono HW3a.out.size))
    have HW4a := Lib.hid (HW4.out.alloc HW4.out.size (.cells #[.int .i64 (tB.kind : Int), .string ⟨tB.text.toArray⟩, .int .i64 (tB.num : Int), .int .i64 (tB.pl : Int), .slice ao' an' ac', .slice bo' bn' bc'] 25))
    have HD4 := Lib.hid (HD.out.below HW4a.out)
    have RS := psame tA tB ao bo ao' bo' an ac bn bc an' ac' bn' bc' (w4.alloc (.cells #[.int .i64 (tB.kind : Int), .string ⟨tB.text.toArray⟩, .int .i64 (tB.num : Int), .int .i64 (tB.pl : Int), .slice ao' an' ac', .slice bo' bn' bc'] 25)) (by have := ZA.out; omega) (by have := ZB.out; omega)
      (HasN_below (HasN_below N3a.out B4) ((Below.refl w4.heap.size w4).alloc (Nat.le_refl _) _)) (HasN_below N4 ((Below.refl w4.heap.size w4).alloc (Nat.le_refl _) _))
    unfold nval at RS
    clear h4 B4 N4 N3 N3a KA KA4 HD3 PB B3
    by_cases hA : eA = 0
    · subst hA
      by_cases hB : eB = 0
      · subst hB
        rw [HB.out rfl rfl] at RS
        have RS := Lib.hid RS
        go_wp2_with (first
          | (go_at_call 17; refine RS.out.mono ?_; rintro e w5 ⟨rfl, hb5⟩; have HB5 := Lib.hid (HW4a.out.trans (hb5.mono HW4a.out.size)); have HD5 := Lib.hid (HD.out.below HB5.out); clear hb5)
          | (go_at_call 19; refine (QH.lives_any _ HD5.out).mono ?_; rintro e w6 ⟨rfl, hb6⟩; have HB6 := Lib.hid hb6; clear hb6))
        go_ret
        exact ⟨rfl, HB5.out.trans (HB6.out.mono HB5.out.size)⟩
      · have hx : ((eB : Int) != 0) = true := QE.i_nf (b := 0) hB
        clear RS hB
        go_wp2_with (first | (go_at_call 19; refine (QH.lives_any _ HD4.out).mono ?_; rintro e w6 ⟨rfl, hb6⟩; have HB6 := Lib.hid hb6; clear hb6))
        go_ret
        exact ⟨rfl, HW4a.out.trans (HB6.out.mono HW4a.out.size)⟩
    · have hx : ((eA : Int) != 0) = true := QE.i_nf (b := 0) hA
      by_cases hB : eB = 0
      · subst hB
        clear RS hA
        go_wp2_with (first | (go_at_call 19; refine (QH.lives_any _ HD4.out).mono ?_; rintro e w6 ⟨rfl, hb6⟩; have HB6 := Lib.hid hb6; clear hb6))
        go_ret
        exact ⟨rfl, HW4a.out.trans (HB6.out.mono HW4a.out.size)⟩
      · have hy : ((eB : Int) != 0) = true := QE.i_nf (b := 0) hB
        clear RS hA hB
        go_wp2_with (first | (go_at_call 19; refine (QH.lives_any _ HD4.out).mono ?_; rintro e w6 ⟨rfl, hb6⟩; have HB6 := Lib.hid hb6; clear hb6))
        go_ret
        exact ⟨rfl, HW4a.out.trans (HB6.out.mono HW4a.out.size)⟩

end Go.Proofs.YtlcapkgbbgpdmaaGreatDoor.parseBrackets

/- ParseBrackets: whatever the input, the law answers true, and writes nothing that was there; the listed variables are tied to the program's text, one of them by a pinned table. No condition. -/
namespace Go.Proofs.YtlcapkgbbgpdmaaGreatDoor.parseBrackets
open Go.ChangeShapes Go.WideShapes Go.ChangeAt Go.RowKit Go.Maps
open Go.ChangeMaps (open_string shut_string)
open Go.Proofs.YtlcapkgbbgpdmaaGreatDoor.P Go.Proofs.YtlcapkgbbgpdmaaGreatDoor.A Go.Proofs.YtlcapkgbbgpdmaaGreatDoor.T
set_option linter.unusedVariables false
set_option maxRecDepth 100000

set_option maxRecDepth 100000 in
theorem lifted (os : Os) (started : os.Started) (H : Type) (enc : TypeId × Value → H) :
    ReturnsInHanded {} Tryz.checked os 6 .any (fun w args => (Rows.parseBracketsSpec.pre enc Tryz.prog Tryz.f6 [] false w args ∧ laidMetH Tryz.prog laid3 w) ∧ sizedMet enc Tryz.prog Tryz.f6 (OpenSpec.ofChange Rows.parseBracketsSpec) false w args)
      (Rows.parseBracketsSpec.post enc Tryz.prog Tryz.f6 false true false false) := by
  refine returnsInHanded_of_change_and (C := Tryz.checked) (X := fun w _ => laidMetH Tryz.prog laid3 w) (fun _ _ _ hh h => h.of_heap hh) own started (by kernel_rfl) Tryz.func6
    (ChangeSpec.witness_shaped (enc := enc) (C := Tryz.checked) (os := os) (X := fun w _ => laidMetH Tryz.prog laid3 w) false (World.laidAll Tryz.prog os laid3) #[.string ByteArray.empty] 8 (World.laidAll_os _ _ _) (laidShape os) (by kernel_rfl) (by kernel_rfl) (by kernel_rfl)
      (by rw [MakeChecks.laidMetH_plain _ _ _ (by kernel_rfl)]; exact laidMet_laidAll _ (by kernel_rfl) (by kernel_rfl))) ?_
  intro W base args ds gs before hval0 hW _ _ hL _
  have hval : ∀ (j : Nat) t v, Tryz.f6.params[j]? = some t → args[j]? = some v → Value.okWide Tryz.prog W .any base t v := hval0
  have hW' := hW
  obtain ⟨p, q, hA0, hV, rfl, hfz, hnd⟩ := hW
  have hA : DataW.TrodAll enc Tryz.prog W 0 (fun _ => true) true Tryz.f6.params.toList args.toList ds p := hA0
  rw [Tryz.params6] at hA hval
  obtain ⟨v0, vs0, d0, ds0, p0, q0, hargs, rfl, rfl, h0, r0⟩ := trodAll_cons hA
  obtain ⟨rfl, rfl, rfl⟩ := trodAll_nil r0
  obtain rfl : args = #[v0] := by cases args; simp_all
  obtain ⟨rfl, rfl⟩ := trodVars_none hV
  obtain ⟨a0, rfl, rfl, rfl, w0⟩ := open_string Tryz.underlying9 (hval 0 9 v0 rfl rfl) h0
  have hdig := of_laid hL
  clear hA0 hval0 hL
  refine (walk W a0 w0 hdig).mono fun e W' ⟨he, bel⟩ => ?_
  subst he
  exact ⟨_, rfl, _, _, _, [], _, [], hW', trodAll_mk1 (shut_bool Tryz.underlying4 _), (trodAll_cons_mk (shut_string Tryz.underlying9 w0) trodAll_mk0), rfl, bel.frame _, fun h => by cases h⟩

theorem over : Rows.parseBracketsRow.holds Tryz.pinned (OpenSpec.ofChange Rows.parseBracketsSpec) :=
  OpenClaim.holds_of_wide 6 Tryz.f6 rfl rfl rfl rfl rfl rfl rfl ⟨rfl, rfl, rfl, rfl, rfl⟩ rfl rfl rfl rfl rfl (by kernel_rfl) Tryz.func6 (by kernel_rfl)
    (of_decide_eq_true (by kernel_rfl)) (by unfold Func.isWrapper; first | (rw [if_pos (by decide +kernel)]; kernel_rfl) | (rw [if_neg (by decide +kernel)]; exact ⟨rfl, rfl⟩))
    (fun os started H enc _ => lifted os started H enc)

theorem proved : Rows.ParseBracketsCardSaid :=
  Claim7.holds_tied_plain_at .later [] [.data, .data, .pinned] true _ false
    over (fun _ h => by cases h) (by kernel_rfl) (fun _ h => by cases h) parseBrackets_row_tie rfl ⟨rfl, rfl⟩ (by kernel_rfl) rfl
    (fun f fn hf hfn => by
      obtain rfl : f = 6 := Option.some.inj ((show Tryz.prog.funcNamed "selvage/selvagelaw05.ParseBrackets" = some 6 by kernel_rfl).symm.trans hf) |>.symm
      obtain rfl : fn = Tryz.f6 := (Option.some.inj (Tryz.func6.symm.trans hfn)).symm
      exact ⟨by kernel_rfl, fun j t ht => by
        rw [Tryz.params6] at ht
        have hm : t ∈ [9] := by simpa using Array.mem_of_getElem? ht
        have hall : ([9].all fun u => !Tryz.prog.wantsStandIn u) = true := by kernel_rfl
        exact (show Tryz.prog.wantsStandIn t = false by simpa using List.all_eq_true.1 hall t hm)⟩)
    (by kernel_rfl)
end Go.Proofs.YtlcapkgbbgpdmaaGreatDoor.parseBrackets
