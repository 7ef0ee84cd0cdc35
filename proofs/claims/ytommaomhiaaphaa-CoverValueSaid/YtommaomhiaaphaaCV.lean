/- Whether constructors are sound: the walk. -/
import Derived.Test.YtommaomhiaaphaaCU
namespace Go.Proofs.Ytommaomhiaaphaa.CV
open Go.RowKit Go.Maps Go.Proofs.Ytommaomhiaaphaa.CA Go.Proofs.Ytommaomhiaaphaa.CB Go.Proofs.Ytommaomhiaaphaa.CC Go.Proofs.Ytommaomhiaaphaa.CD Go.Proofs.Ytommaomhiaaphaa.CE Go.Proofs.Ytommaomhiaaphaa.CF Go.Proofs.Ytommaomhiaaphaa.CG Go.Proofs.Ytommaomhiaaphaa.CH Go.Proofs.Ytommaomhiaaphaa.CK Go.Proofs.Ytommaomhiaaphaa.CU
set_option linter.unusedVariables false
set_option maxRecDepth 100000

abbrev MN (w : World) (b n : Nat) (D : DataW Unit) : Prop := w.ownsMap Try.prog 9 unitElem b n D
abbrev MT (w : World) (b n : Nat) (D : DataW Unit) : Prop := w.ownsMap Try.prog 103 unitElem b n D
abbrev MM (w : World) (b n : Nat) (D : DataW Unit) : Prop := w.ownsMap Try.prog 9 (plainElem Try.prog 3) b n D
/-- Three maps that were made now. -/
theorem made3 (w : World) : ∃ W, W = ((w.alloc (.map #[] 0)).alloc (.map #[] 0)).alloc (.map #[] 0) ∧ MN W w.heap.size 0 (.map []) ∧ MT W (w.heap.size + 1) 0 (.map []) ∧ MM W (w.heap.size + 1 + 1) 0 (.map []) ∧ Below w.heap.size w W ∧ w.heap.size + 1 + 1 < W.heap.size := by
  have a0 := World.ownsMap_made (H := Unit) w Try.prog 9 unitElem
  have a1 := World.ownsMap_made (H := Unit) (w.alloc (.map #[] 0)) Try.prog 103 unitElem
  have a2 := World.ownsMap_made (H := Unit) ((w.alloc (.map #[] 0)).alloc (.map #[] 0)) Try.prog 9 (plainElem Try.prog 3)
  rw [World.size_alloc] at a1 a2
  rw [World.size_alloc] at a2
  exact ⟨_, rfl, (a0.alloc _).alloc _, a1.alloc _, a2, (balloc w _).trans (((Below.refl _ _).alloc (by simp) _).trans ((Below.refl _ _).alloc (by simp; omega) _)), by simp⟩
theorem sound_nil (ao : Option Addr) (cap : Nat) (w : World) :
    Calls Try.prog 21 #[.slice ao 0 cap] w fun e w' => e = .returned (.bool true) ∧ Below w.heap.size w w' := by
  have hmm := @run_makeMap Try.prog
  obtain ⟨W, hW, m0, m1, m2, hb, _⟩ := made3 w
  have M0 := Lib.hid m0
  have M1 := Lib.hid m1
  have HB := Lib.hid hb
  have hz : Maps.size (DataW.map [] : DataW Unit) = 0 := rfl
  have HWW := Lib.hid hW
  clear m0 m1 m2 hb hW
  go_enter Try.func21, Try.ntmps21
  go_wp2
  refine wp_loop_rounds 1 ?_
  rw [rounds_succ]
  rw [← HWW.out]
  go_wp2
  refine wp_loop_rounds 1 ?_
  rw [rounds_succ]
  have l0 := M0.out.len Try.underlying98 3
  have l1 := M1.out.len Try.underlying99 3
  rw [hz] at l0 l1
  go_wp2
  go_ret
  exact ⟨rfl, HB.out⟩
/-- A constructor's cells in a block of its own. -/
structure B5 (w : World) (B : Nat) (c : Cn) : Prop where
  lt : B < w.heap.size
  c0 : w.cell? ⟨B, 0, none⟩ = some (.string ⟨c.nm.toArray⟩)
  c1 : w.cell? ⟨B, 1, none⟩ = some (.string ⟨c.of.toArray⟩)
  c2 : w.cell? ⟨B, 2, none⟩ = some (.int .i64 (c.tag : Int))
  c3 : w.cell? ⟨B, 3, none⟩ = some (.int .i64 (c.ar : Int))
  c4 : w.cell? ⟨B, 4, none⟩ = some (.int .i64 (c.many : Int))
theorem B5.new (w : World) (c : Cn) (t : TypeId) : B5 (w.alloc (.cells #[.string ⟨c.nm.toArray⟩, .string ⟨c.of.toArray⟩, .int .i64 (c.tag : Int), .int .i64 (c.ar : Int), .int .i64 (c.many : Int)] t)) w.heap.size c := by
  have h := heap_alloc_new w (.cells #[.string ⟨c.nm.toArray⟩, .string ⟨c.of.toArray⟩, .int .i64 (c.tag : Int), .int .i64 (c.ar : Int), .int .i64 (c.many : Int)] t)
  refine ⟨by simp, ?_, ?_, ?_, ?_, ?_⟩ <;> (rw [cell_of_row _ _ _ _ _ (0, 0) h]; rfl)
theorem B5.far {w w' : World} {row : Option Nat} {B : Nat} {c : Cn} (h : B5 w B c) (hg : w.grownBy w' row) (hr : row ≠ some B) : B5 w' B c := by
  have e := hg.block B h.lt (fun e => hr e.symm)
  have hc : ∀ j, w'.cell? ⟨B, j, none⟩ = w.cell? ⟨B, j, none⟩ := fun j => World.cell?_of_block (w := w) (a := ⟨B, j, none⟩) e
  exact ⟨Nat.lt_of_lt_of_le h.lt hg.size, (hc 0).trans h.c0, (hc 1).trans h.c1, (hc 2).trans h.c2, (hc 3).trans h.c3, (hc 4).trans h.c4⟩
theorem MN.far {w w' : World} {b n : Nat} {D : DataW Unit} {row : Option Nat} (h : MN w b n D) (hg : w.grownBy w' row) (hne : row ≠ some b) : MN w' b n D := h.kept hg fun e => hne e.symm
theorem MT.far {w w' : World} {b n : Nat} {D : DataW Unit} {row : Option Nat} (h : MT w b n D) (hg : w.grownBy w' row) (hne : row ≠ some b) : MT w' b n D := h.kept hg fun e => hne e.symm
theorem MM.far {w w' : World} {b n : Nat} {D : DataW Unit} {row : Option Nat} (h : MM w b n D) (hg : w.grownBy w' row) (hne : row ≠ some b) : MM w' b n D := h.kept hg fun e => hne e.symm
theorem map_keep {k : TypeId} {R : Value → Option (DataW Unit × List MemPlace)} {w w' : World} {b n : Nat} {D : DataW Unit} (h : w.ownsMap Try.prog k R b n D) (hb : Below w.heap.size w w') : w'.ownsMap Try.prog k R b n D :=
  h.kept (row := none) ⟨hb.os, hb.tape, hb.output, hb.size, fun k hk _ => hb.block k hk⟩ (by simp)
theorem MN.keep {w w' : World} {b n : Nat} {D : DataW Unit} (h : MN w b n D) (hb : Below w.heap.size w w') : MN w' b n D := map_keep h hb
theorem MT.keep {w w' : World} {b n : Nat} {D : DataW Unit} (h : MT w b n D) (hb : Below w.heap.size w w') : MT w' b n D := map_keep h hb
theorem MM.keep {w w' : World} {b n : Nat} {D : DataW Unit} (h : MM w b n D) (hb : Below w.heap.size w w') : MM w' b n D := map_keep h hb
theorem int_wf {n : Int} (h0 : 0 ≤ n) (h1 : n ≤ 1000) : (Lit.int .i64 n).wf = true := by
  show (decide (IntKind.i64.min ≤ n) && decide (n ≤ IntKind.i64.max)) = true
  have a : IntKind.i64.min = -9223372036854775808 := by decide
  have b : IntKind.i64.max = 9223372036854775807 := by decide
  rw [a, b]
  simp; omega
theorem galloc (w : World) (o : Obj) : w.grownBy (w.alloc o) none := World.grownBy_alloc w o none
set_option maxRecDepth 100000 in
set_option maxHeartbeats 4000000 in
theorem sound_c8 (v : Value) (w : World) (hv : RowC w v C8) :
    Calls Try.prog 21 #[v] w fun e w' => e = .returned (.bool true) ∧ Below w.heap.size w w' := by
  have hmm := @run_makeMap Try.prog
  obtain ⟨W, hW, m0, m1, m2, hb, hz⟩ := made3 w
  obtain ⟨b, off, cap, rfl, hcap, hlt, hop⟩ := hv.open_ (by decide)
  have HOP := Lib.hid hop
  have M0 := Lib.hid m0
  have M1 := Lib.hid m1
  have M2 := Lib.hid m2
  have HB := Lib.hid hb
  have HZ := Lib.hid hz
  have HWW := Lib.hid hW
  have hlen : C8.length = 8 := rfl
  rw [hlen] at hcap ⊢
  clear m0 m1 m2 hb hW hz hop hv hlen
  go_enter Try.func21, Try.ntmps21
  go_wp2
  rw [← HWW.out]
  obtain ⟨B, hB⟩ : ∃ B, Hid (w.heap.size = B) := ⟨_, Lib.hid rfl⟩
  rw [hB.out] at M0 M1 M2 HZ ⊢
  go_loopg [15] 8 (fun g jv wr => ∃ j : Nat, j + g = 8 ∧ jv = .int .i64 (j : Int) ∧ Hid (MN wr B j (dn (C8.take j))) ∧ Hid (MT wr (B + 1) j (dt (C8.take j))) ∧ Hid (MM wr (B + 1 + 1) j (dm (C8.take j))) ∧ Hid (B + 1 + 1 < wr.heap.size) ∧ Hid (Below w.heap.size w wr))
  case atStart => exact ⟨0, Nat.zero_add _, rfl, M0, M1, M2, HZ, HB⟩
  case round =>
    obtain ⟨j, hj, rfl, HN, HT, HM, HS, HX⟩ := hrel
    clear M0 M1 M2 HZ HB
    by_cases hlt2 : j < 8
    · obtain ⟨g, rfl⟩ : ∃ g, gk = g + 1 := ⟨gk - 1, by omega⟩
      obtain ⟨c, hc⟩ := getElem?_of_lt (l := C8) (k := j) hlt2
      have hmem := List.mem_of_getElem? hc
      obtain ⟨x0, x1, x2, x3, x4⟩ := HOP.out j c hc
      replace x0 := (HX.out.cell (p := ⟨b, off + j * 5, none⟩) hlt).trans x0
      replace x1 := (HX.out.cell (p := ⟨b, off + j * 5 + 1, none⟩) hlt).trans x1
      replace x2 := (HX.out.cell (p := ⟨b, off + j * 5 + 2, none⟩) hlt).trans x2
      replace x3 := (HX.out.cell (p := ⟨b, off + j * 5 + 3, none⟩) hlt).trans x3
      replace x4 := (HX.out.cell (p := ⟨b, off + j * 5 + 4, none⟩) hlt).trans x4
      have SN := Lib.hid (dn_snoc hc)
      have ST := Lib.hid (dt_snoc hc)
      have SM := Lib.hid (dm_snoc hc)
      have KT := Lib.hid (kt_ok c hmem)
      have KS := Lib.hid (str_ok c hmem)
      have KM := Lib.hid (many_ok j hlt2 c hc)
      have BX := Lib.hid (B5.new wr c 54)
      have GA := Lib.hid (galloc wr (.cells #[.string ⟨c.nm.toArray⟩, .string ⟨c.of.toArray⟩, .int .i64 (c.tag : Int), .int .i64 (c.ar : Int), .int .i64 (c.many : Int)] 54))
      have N1 := Lib.hid (HN.out.far GA.out (by simp))
      have T1 := Lib.hid (HT.out.far GA.out (by simp))
      have MM1 := Lib.hid (HM.out.far GA.out (by simp))
      have hsz := HS.out
      have i0 : (0 : Int) ≤ (j : Int) := by omega
      have i1 : (j : Int) < 8 := by omega
      clear hmem hc
      go_wp2_with (first | (at_mapUpdate; (refine wpList_mapUpdate_own _ rfl (.tmp 19) (.tmp 21) (.tmp 22) 98 rfl 9 101 lawStr Try.underlying98 unitElem B j (dn (C8.take j)) rfl N1.out (by unfold maxLen; omega) _ (.agg #[]) (.string c.nm) rfl rfl KS.out.1 (.agg []) [] unitElem_mk ?_); intro w1 n1 g1; have N2 := Lib.hid n1; have G1 := Lib.hid g1; have T2 := Lib.hid (MT.far T1.out g1 (fun e => by have := Option.some.inj e; omega)); have MM2 := Lib.hid (MM.far MM1.out g1 (fun e => by have := Option.some.inj e; omega)); have BX1 := Lib.hid (BX.out.far g1 (fun e => by have := Option.some.inj e; omega)); obtain ⟨hl1, y0, y1, y2, y3, y4⟩ := BX1.out; clear n1 g1) | (at_mapUpdate; (refine wpList_mapUpdate_own _ rfl (.tmp 23) (.tmp 28) (.tmp 29) 99 rfl 103 101 lawTag Try.underlying99 unitElem (B + 1) j (dt (C8.take j)) rfl T2.out (by unfold maxLen; omega) (tagV c) (.agg #[]) (kt c) rfl rfl KT.out (.agg []) [] unitElem_mk ?_); intro w2 n2 g2; have T3 := Lib.hid n2; have G2 := Lib.hid g2; have N3 := Lib.hid (MN.far N2.out g2 (fun e => by have := Option.some.inj e; omega)); have MM3 := Lib.hid (MM.far MM2.out g2 (fun e => by have := Option.some.inj e; omega)); have BX2 := Lib.hid (BX1.out.far g2 (fun e => by have := Option.some.inj e; omega)); clear hl1 y0 y1 y2 y3 y4; obtain ⟨hl1, y0, y1, y2, y3, y4⟩ := BX2.out; clear n2 g2) | (at_lookup; (refine wpList_lookup_own_int _ rfl (.tmp 30) (.tmp 32) 100 rfl 9 3 .i64 lawStr Try.underlying100 Try.underlying3 (zeroI _) (B + 1 + 1) j (dm (C8.take j)) rfl MM3.out _ _ rfl KS.out.2 ?_); intro cc hat hwc; have HAT := Lib.hid hat; have hcc := KM.out; rw [hat] at hcc; obtain ⟨hc0, hc1⟩ := hcc; simp only [val] at hc0 hc1; clear hat hwc) | (at_mapUpdate; (refine wpList_mapUpdate_own _ rfl (.tmp 30) (.tmp 32) (.tmp 34) 100 rfl 9 3 lawStr Try.underlying100 (plainElem Try.prog 3) (B + 1 + 1) j (dm (C8.take j)) rfl MM3.out (by unfold maxLen; omega) _ (.int .i64 (cc + 1)) (.string c.of) rfl rfl KS.out.2 (.lit (.int .i64 (cc + 1))) [] (plainElem_int Try.underlying3 (int_wf (by omega) (by omega))) ?_); intro w3 n3 g3; have MM4 := Lib.hid n3; have G3 := Lib.hid g3; clear n3 g3 hl1 y0 y1 y2 y3 y4))
      have N4 := Lib.hid (MN.far N3.out G3.out (fun e => by have := Option.some.inj e; omega))
      have T4 := Lib.hid (MT.far T3.out G3.out (fun e => by have := Option.some.inj e; omega))
      have E1 := GA.out.size
      have E2 := G1.out.size
      have E3 := G2.out.size
      have E4 := G3.out.size
      have HXX := Lib.hid (show Below w.heap.size w w3 from (((bnext HX.out (balloc wr _)).trans (bgrown G1.out (fun x hx => by cases hx; rw [hB.out]; omega) (by rw [hB.out]; omega))).trans (bgrown G2.out (fun x hx => by cases hx; rw [hB.out]; omega) (by rw [hB.out]; omega))).trans (bgrown G3.out (fun x hx => by cases hx; rw [hB.out]; omega) (by rw [hB.out]; omega)))
      have E5 : B + 1 + 1 < w3.heap.size := by omega
      have HE5 := Lib.hid E5
      have QN := Lib.hid (show MN w3 B (j + 1) (dn (C8.take (j + 1))) from by rw [SN.out]; exact N4.out)
      have QT := Lib.hid (show MT w3 (B + 1) (j + 1) (dt (C8.take (j + 1))) from by rw [ST.out]; exact T4.out)
      have QM := Lib.hid (show MM w3 (B + 1 + 1) (j + 1) (dm (C8.take (j + 1))) from by rw [SM.out, HAT.out]; exact MM4.out)
      clear E1 E2 E3 E4 E5
      go_roundg g
      case rel => exact ⟨j + 1, by omega, by go_num, QN, QT, QM, HE5, HXX⟩
      case measure => omega
    · have hj8 : j = 8 := by omega
      subst hj8
      have HN8 := Lib.hid (show MN wr B 8 (dn C8) from HN.out)
      have HT8 := Lib.hid (show MT wr (B + 1) 8 (dt C8) from HT.out)
      have HM8 := Lib.hid (show MM wr (B + 1 + 1) 8 (dm C8) from HM.out)
      clear HN HT HM
      go_wp2
      obtain ⟨wo, rfl⟩ : ∃ wo : World, wo = wr := ⟨_, rfl⟩
      go_loopg [38] 8 (fun g jv w2 => ∃ j : Nat, j + g = 8 ∧ jv = .int .i64 (j : Int) ∧ Hid (Below wo.heap.size wo w2))
      case atStart => exact ⟨0, Nat.zero_add _, rfl, Lib.hid (Below.refl _ _)⟩
      case round =>
        obtain ⟨j, hj, rfl, HY⟩ := hrel
        by_cases hlt3 : j < 8
        · obtain ⟨g, rfl⟩ : ∃ g, gk = g + 1 := ⟨gk - 1, by omega⟩
          obtain ⟨c, hc⟩ := getElem?_of_lt (l := C8) (k := j) hlt3
          have hmem := List.mem_of_getElem? hc
          obtain ⟨x0, x1, x2, x3, x4⟩ := HOP.out j c hc
          have HZ := bnext HX.out HY.out
          replace x0 := (HZ.cell (p := ⟨b, off + j * 5, none⟩) hlt).trans x0
          replace x1 := (HZ.cell (p := ⟨b, off + j * 5 + 1, none⟩) hlt).trans x1
          replace x2 := (HZ.cell (p := ⟨b, off + j * 5 + 2, none⟩) hlt).trans x2
          replace x3 := (HZ.cell (p := ⟨b, off + j * 5 + 3, none⟩) hlt).trans x3
          replace x4 := (HZ.cell (p := ⟨b, off + j * 5 + 4, none⟩) hlt).trans x4
          have HZ' := Lib.hid HZ
          clear HZ
          have KS := Lib.hid (str_ok c hmem)
          have KE := Lib.hid (many_end c hmem)
          obtain ⟨r1, r2⟩ := rest_ok c hmem
          have q0 : decide ((c.tag : Int) < 0) = false := decide_eq_false (by omega)
          have q1 : decide ((c.many : Int) ≤ (c.tag : Int)) = false := decide_eq_false (by omega)
          have q1n : decide (c.many ≤ c.tag) = false := decide_eq_false (by omega)
          have q2 : decide ((c.ar : Int) < 0) = false := decide_eq_false (by omega)
          have q3 : decide ((4 : Int) < (c.ar : Int)) = false := decide_eq_false (by omega)
          have q3n : decide (4 < c.ar) = false := decide_eq_false (by omega)
          have p1 : (0 : Int) ≤ (c.tag : Int) := by omega
          have p2 : (0 : Int) ≤ (c.ar : Int) := by omega
          have p3 : (c.tag : Int) < (c.many : Int) := by omega
          have p4 : (c.ar : Int) ≤ 4 := by omega
          have M9 := Lib.hid ((HM8.out.keep HY.out).keep (balloc wr (.cells #[.string ⟨c.nm.toArray⟩, .string ⟨c.of.toArray⟩, .int .i64 (c.tag : Int), .int .i64 (c.ar : Int), .int .i64 (c.many : Int)] 54)))
          have i0 : (0 : Int) ≤ (j : Int) := by omega
          have i1 : (j : Int) < 8 := by omega
          clear hmem hc
          go_wp2_with (first | (at_lookup; (refine wpList_lookup_own_int _ rfl (.tmp 44) (.tmp 46) 100 rfl 9 3 .i64 lawStr Try.underlying100 Try.underlying3 (zeroI _) (B + 1 + 1) 8 (dm C8) rfl M9.out _ _ rfl KS.out.2 ?_); intro cc hat hwc; rw [KE.out] at hat; obtain rfl : (c.many : Int) = cc := (by injection hat with h; injection h); clear hat hwc))
          go_roundg g
          case rel => exact ⟨j + 1, by omega, by go_num, Lib.hid (bnext HY.out (balloc _ _))⟩
          case measure => omega
        · have l0 := (HN8.out.keep HY.out).len Try.underlying98 3
          have l1 := (HT8.out.keep HY.out).len Try.underlying99 3
          rw [size_dn] at l0
          rw [size_dt] at l1
          go_wp2
          go_ret
          exact ⟨rfl, bnext HX.out HY.out⟩
end Go.Proofs.Ytommaomhiaaphaa.CV
