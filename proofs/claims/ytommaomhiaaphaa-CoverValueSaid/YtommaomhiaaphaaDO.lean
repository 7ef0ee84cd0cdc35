/- Whether constructors may be, by the document: the walk, at the eight. -/
import Derived.Test.YtommaomhiaaphaaDN
namespace Go.Proofs.Ytommaomhiaaphaa.DO
open Go.RowKit Go.Proofs.Ytommaomhiaaphaa.CA Go.Proofs.Ytommaomhiaaphaa.CB Go.Proofs.Ytommaomhiaaphaa.CC Go.Proofs.Ytommaomhiaaphaa.CD Go.Proofs.Ytommaomhiaaphaa.CE Go.Proofs.Ytommaomhiaaphaa.CF Go.Proofs.Ytommaomhiaaphaa.CG Go.Proofs.Ytommaomhiaaphaa.CH Go.Proofs.Ytommaomhiaaphaa.CK Go.Proofs.Ytommaomhiaaphaa.CI Go.Proofs.Ytommaomhiaaphaa.CO Go.Proofs.Ytommaomhiaaphaa.CU Go.Proofs.Ytommaomhiaaphaa.DE Go.Proofs.Ytommaomhiaaphaa.DF Go.Proofs.Ytommaomhiaaphaa.DI Go.Proofs.Ytommaomhiaaphaa.DL Go.Proofs.Ytommaomhiaaphaa.DM Go.Proofs.Ytommaomhiaaphaa.DN
open Go.Proofs.Ytommaomhiaaphaa.CV (B5 B5.new)
set_option linter.unusedVariables false
set_option maxRecDepth 100000

theorem apart_all : ((List.range 8).all fun i => (List.range i).all fun j => match C8[i]?, C8[j]? with | some c, some d => d.nm != c.nm && (d.of != c.of || d.tag != c.tag) | _, _ => true) = true := by decide
theorem apart8 {i j : Nat} {c d : Cn} (hc : C8[i]? = some c) (hd : C8[j]? = some d) (h : j < i) : (d.nm == c.nm) = false ∧ ((d.of == c.of) = true → ((d.tag : Int) == (c.tag : Int)) = false) := by
  have hi : i < 8 := (List.getElem?_eq_some_iff.1 hc).1
  have := List.all_eq_true.1 (List.all_eq_true.1 apart_all i (List.mem_range.2 hi)) j (List.mem_range.2 h)
  rw [hc, hd] at this
  simp only [Bool.and_eq_true, Bool.or_eq_true, bne_iff_ne, ne_eq] at this
  refine ⟨by simpa using this.1, fun ho => ?_⟩
  have ho : d.of = c.of := by simpa using ho
  rcases this.2 with h | h
  · exact absurd ho h
  · simp; omega
theorem flt_snoc {C : List Cn} {j : Nat} {d : Cn} (h : C[j]? = some d) (o : By) : ((C.take (j + 1)).filter fun d => d.of == o).length = ((C.take j).filter fun d => d.of == o).length + (if d.of == o then 1 else 0) := by
  have e : C.take (j + 1) = C.take j ++ [d] := by rw [List.take_add_one, h]; rfl
  rw [e, List.filter_append, List.length_append, List.filter_cons, List.filter_nil]
  split <;> rfl
theorem B5.keep {w w' : World} {B : Nat} {c : Cn} (h : B5 w B c) (hb : Below w.heap.size w w') : B5 w' B c :=
  ⟨Nat.lt_of_lt_of_le h.lt hb.size, (hb.cell (p := ⟨B, 0, none⟩) h.lt).trans h.c0, (hb.cell (p := ⟨B, 1, none⟩) h.lt).trans h.c1, (hb.cell (p := ⟨B, 2, none⟩) h.lt).trans h.c2, (hb.cell (p := ⟨B, 3, none⟩) h.lt).trans h.c3, (hb.cell (p := ⟨B, 4, none⟩) h.lt).trans h.c4⟩
theorem B5.dN {w : World} {B : Nat} {c : Cn} (h : B5 w B c) (n : Nat) : B5 (w.drewN n) B c := ⟨h.lt, h.c0, h.c1, h.c2, h.c3, h.c4⟩
set_option maxHeartbeats 8000000 in
theorem rsound_c (v : Value) (w : World) (hv : RowC w v C8) :
    Calls Try.prog 25 #[v] w fun e w' => e = .returned (.bool true) ∧ Below w.heap.size w w' := by
  obtain ⟨b, off, cap, rfl, hcap, hlt, hop⟩ := hv.open_ (by decide)
  have HOP := Lib.hid hop
  have hlen : C8.length = 8 := rfl
  rw [hlen] at hcap ⊢
  clear hop hv hlen
  go_enter Try.func25, Try.ntmps25
  go_wp2_with fail
  have HB := Lib.hid (Below.refl w.heap.size w)
  go_loopg [3, 4, 5, 6] 8 (fun g iv cv mv jv wr => ∃ i : Nat, i + g = 8 ∧ iv = .int .i64 (i : Int) ∧ Hid (Below w.heap.size w wr))
  case atStart => exact ⟨0, Nat.zero_add _, rfl, HB⟩
  case round =>
    obtain ⟨i, hi, rfl, HX⟩ := hrel
    clear HB
    by_cases hlt2 : i < 8
    · obtain ⟨g, rfl⟩ : ∃ g, gk = g + 1 := ⟨gk - 1, by omega⟩
      obtain ⟨c, hc⟩ := getElem?_of_lt (l := C8) (k := i) hlt2
      have hmem := List.mem_of_getElem? hc
      obtain ⟨x0, x1, x2, x3, x4⟩ := HOP.out i c hc
      replace x0 := (HX.out.cell (p := ⟨b, off + i * 5, none⟩) hlt).trans x0
      replace x1 := (HX.out.cell (p := ⟨b, off + i * 5 + 1, none⟩) hlt).trans x1
      replace x2 := (HX.out.cell (p := ⟨b, off + i * 5 + 2, none⟩) hlt).trans x2
      replace x3 := (HX.out.cell (p := ⟨b, off + i * 5 + 3, none⟩) hlt).trans x3
      replace x4 := (HX.out.cell (p := ⟨b, off + i * 5 + 4, none⟩) hlt).trans x4
      have BX := Lib.hid (B5.new wr c 54)
      have HX1 := Lib.hid (bnext HX.out (balloc wr (.cells #[.string ⟨c.nm.toArray⟩, .string ⟨c.of.toArray⟩, .int .i64 (c.tag : Int), .int .i64 (c.ar : Int), .int .i64 (c.many : Int)] 54)))
      have HM := Lib.hid (sound8.many c hmem)
      have HR := Lib.hid (rest_ok c hmem)
      have HC := Lib.hid hc
      have i0 : (0 : Int) ≤ (i : Int) := by omega
      have i1 : (i : Int) < 8 := by omega
      clear hc hmem
      go_wp2_with fail
      obtain ⟨B, hB⟩ : ∃ B, Hid (wr.heap.size = B) := ⟨_, Lib.hid rfl⟩
      rw [hB.out] at BX ⊢
      generalize wr.alloc _ = W at BX HX1 ⊢
      clear x0 x1 x2 x3 x4 hB HX
      go_loopg [5, 6] 8 (fun g2 mv jv wq => ∃ j m : Nat, j + g2 = 8 ∧ m ≤ j ∧ jv = .int .i64 (j : Int) ∧ mv = .int .i64 (m : Int) ∧ Hid (m = ((C8.take j).filter fun d => d.of == c.of).length) ∧ Hid (Below w.heap.size w wq) ∧ Hid (B5 wq B c))
      case atStart => exact ⟨0, 0, Nat.zero_add _, Nat.le_refl _, rfl, rfl, Lib.hid rfl, HX1, BX⟩
      case round =>
        obtain ⟨j, m, hj, hm, rfl, rfl, HF, HXq, HBq⟩ := hrel
        clear BX HX1
        obtain ⟨hlq, y0, y1, y2, y3, y4⟩ := HBq.out
        by_cases hlt3 : j < 8
        · obtain ⟨g2, rfl⟩ : ∃ g, gk = g + 1 := ⟨gk - 1, by omega⟩
          obtain ⟨d, hd⟩ := getElem?_of_lt (l := C8) (k := j) hlt3
          obtain ⟨z0, z1, z2, z3, z4⟩ := HOP.out j d hd
          replace z0 := (HXq.out.cell (p := ⟨b, off + j * 5, none⟩) hlt).trans z0
          replace z1 := (HXq.out.cell (p := ⟨b, off + j * 5 + 1, none⟩) hlt).trans z1
          replace z2 := (HXq.out.cell (p := ⟨b, off + j * 5 + 2, none⟩) hlt).trans z2
          have HA := Lib.hid (fun h : j < i => apart8 HC.out hd h)
          have HS := Lib.hid (flt_snoc hd c.of)
          have j0 : (0 : Int) ≤ (j : Int) := by omega
          have j1 : (j : Int) < 8 := by omega
          have eo := str_eq d.of c.of
          clear hd z3 z4
          cases ho : (d.of == c.of)
          · rw [ho] at eo HS
            by_cases hji : j < i
            · have hji2 : (j : Int) < (i : Int) := by omega
              have en := str_eq d.nm c.nm
              have hnn := (HA.out hji).1
              rw [hnn] at en
              clear HA
              go_wp2_with fail
              go_quiet (fail)
              go_wp2_with fail
              go_quiet (fail)
              go_wp2_with fail
              go_roundg g2
              case rel => exact ⟨j + 1, m, by omega, by omega, by go_num, rfl, Lib.hid (by rw [HS.out, ← HF.out]; rfl), Lib.hid (below_dN HXq.out _), Lib.hid (B5.dN HBq.out _)⟩
              case measure => omega
            · have hji2 : decide ((j : Int) < (i : Int)) = false := by simp; omega
              clear HA
              go_wp2_with fail
              go_quiet (fail)
              go_wp2_with fail
              go_quiet (fail)
              go_wp2_with fail
              go_roundg g2
              case rel => exact ⟨j + 1, m, by omega, by omega, by go_num, rfl, Lib.hid (by rw [HS.out, ← HF.out]; rfl), Lib.hid (below_dN HXq.out _), Lib.hid (B5.dN HBq.out _)⟩
              case measure => omega
          · rw [ho] at eo HS
            by_cases hji : j < i
            · have hji2 : (j : Int) < (i : Int) := by omega
              have en := str_eq d.nm c.nm
              have hnn := (HA.out hji).1
              rw [hnn] at en
              have et := (HA.out hji).2 ho
              clear HA
              go_wp2_with fail
              go_quiet (fail)
              go_wp2_with fail
              go_quiet (fail)
              go_wp2_with fail
              go_roundg g2
              case rel => exact ⟨j + 1, m + 1, by omega, by omega, by go_num, by go_num, Lib.hid (by rw [HS.out, ← HF.out]; rfl), Lib.hid (below_dN HXq.out _), Lib.hid (B5.dN HBq.out _)⟩
              case measure => omega
            · have hji2 : decide ((j : Int) < (i : Int)) = false := by simp; omega
              clear HA
              go_wp2_with fail
              go_quiet (fail)
              go_wp2_with fail
              go_quiet (fail)
              go_wp2_with fail
              go_roundg g2
              case rel => exact ⟨j + 1, m + 1, by omega, by omega, by go_num, by go_num, Lib.hid (by rw [HS.out, ← HF.out]; rfl), Lib.hid (below_dN HXq.out _), Lib.hid (B5.dN HBq.out _)⟩
              case measure => omega
        · have hmm : m = c.many := by
            rw [HF.out, List.take_of_length_le (by show 8 ≤ j; omega)]
            exact HM.out.symm
          have e1 : ((c.many : Int) != (m : Int)) = false := by rw [hmm]; simp
          have e2 : ¬ (c.tag : Int) < 0 := by omega
          have e3 : ¬ (c.tag : Int) ≥ (m : Int) := by have := HR.out.1; omega
          have e4 : ¬ (c.ar : Int) < 0 := by omega
          have e5 : ¬ (c.ar : Int) > 4 := by have := HR.out.2; omega
          clear hmm
          go_wp2_with fail
          go_roundg g
          case rel => exact ⟨i + 1, by omega, by go_num, HXq⟩
          case measure => omega
    · go_wp2_with fail
      go_ret
      exact ⟨rfl, HX.out⟩
end Go.Proofs.Ytommaomhiaaphaa.DO
