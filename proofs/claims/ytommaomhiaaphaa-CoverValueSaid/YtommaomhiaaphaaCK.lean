/- Constructors found by a closure over a map. -/
import Derived.Test.YtommaomhiaaphaaCH
import Derived.WideMake
import Derived.OwnWalk
import Derived.Maps.OwnOps
namespace Go.Proofs.Ytommaomhiaaphaa.CK
open Go.RowKit Go.Proofs.Ytommaomhiaaphaa.CA Go.Proofs.Ytommaomhiaaphaa.CB Go.Proofs.Ytommaomhiaaphaa.CC Go.Proofs.Ytommaomhiaaphaa.CD Go.Proofs.Ytommaomhiaaphaa.CE Go.Proofs.Ytommaomhiaaphaa.CF Go.Proofs.Ytommaomhiaaphaa.CG Go.Proofs.Ytommaomhiaaphaa.CH
set_option linter.unusedVariables false
set_option maxRecDepth 100000
variable {S : Nat → Prop}

/-- A constructor's value. -/
def cv (c : Cn) : Value := .agg #[.string ⟨c.nm.toArray⟩, .string ⟨c.of.toArray⟩, .int .i64 (c.tag : Int), .int .i64 (c.ar : Int), .int .i64 (c.many : Int)]
def MapIs (es : List MapEntry) (C : List Cn) : Prop := es.map (fun e => (e.key, e.val)) = C.map fun c => (Value.string ⟨c.nm.toArray⟩, cv c)
def setMap (w : World) (r : Nat) (o : Obj) : World := { w with heap := w.heap.setIfInBounds r o }
theorem setMap_at {w : World} {r : Nat} {o o' : Obj} (h : w.heap[r]? = some o) : (setMap w r o').heap[r]? = some o' := by
  have := (Array.getElem?_eq_some_iff.1 h).1
  simp [setMap, Array.getElem?_setIfInBounds, this]
theorem setMap_grown {w : World} (r : Nat) (o : Obj) : w.grownBy (setMap w r o) (some r) :=
  ⟨rfl, rfl, rfl, by simp [setMap], fun k hk hn => by
    have : r ≠ k := fun e => hn (by rw [e])
    simp [setMap, Array.getElem?_setIfInBounds, this]⟩
theorem zeroC (w : World) : (zeroValue 54).run Try.prog w = .ok (cv zeroCn) w := by kernel_rfl
theorem bytes_eq (s t : By) : ((ByteArray.mk s.toArray) == (ByteArray.mk t.toArray)) = (s == t) := str_eq s t
/-- What the map's list answers. -/
theorem find_map (s : By) : ∀ (es : List MapEntry) (C : List Cn) (i : Nat), MapIs es C → ∃ r, Instr.findNow .string (.string ⟨s.toArray⟩) es i = some r ∧ (match r with | some (_, v) => conOf C s ≠ none ∧ v = cv ((conOf C s).getD zeroCn) | none => conOf C s = none)
  | [], [], i, _ => ⟨none, rfl, rfl⟩
  | e :: es, c :: C, i, h => by
    have h1 : e.key = .string ⟨c.nm.toArray⟩ ∧ e.val = cv c := by
      have := (List.cons.inj h).1
      exact ⟨congrArg Prod.fst this, congrArg Prod.snd this⟩
    have h2 : MapIs es C := (List.cons.inj h).2
    obtain ⟨r, a1, a2⟩ := find_map s es C (i + 1) h2
    unfold Instr.findNow Instr.sameNow
    rw [h1.1]
    simp only []
    have hb := bytes_eq s c.nm
    unfold conOf at a2 ⊢
    rw [List.find?_cons]
    by_cases he : s = c.nm
    · subst he
      have hb : ((ByteArray.mk c.nm.toArray) == (ByteArray.mk c.nm.toArray)) = true := by rw [hb]; simp
      rw [hb]
      refine ⟨some (i, e.val), rfl, ?_⟩
      simp [h1.2]
    · have hne : (s == c.nm) = false := by simpa using he
      have hne2 : (c.nm == s) = false := by simpa using fun e => he e.symm
      rw [hb, hne]
      rw [hne2]
      exact ⟨r, a1, a2⟩
  | [], _ :: _, _, h => by simp [MapIs] at h
  | _ :: _, [], _, h => by simp [MapIs] at h
theorem run_find (w : World) (r clock : Nat) (es : Array MapEntry) (C : List Cn) (s : By) (hb : w.heap[r]? = some (.map es clock)) (hm : MapIs es.toList C) :
    (Instr.lookup 96 (.map (some r)) (.string ⟨s.toArray⟩) true).run Try.prog w = .ok (.tuple #[cv ((conOf C s).getD zeroCn), .bool (conOf C s).isSome]) w := by
  have h1 : Try.prog.underlying 96 = some (.map 9 54) := Try.underlying96
  have h2 : Try.prog.underlying 9 = some .string := Try.underlying9
  have hc : ∀ b, (Instr.checkKey b 10000 9 (.string ⟨s.toArray⟩)).run Try.prog w = .ok () w := fun b => MapKept.run_checkKey (k := .string ⟨s.toArray⟩) h2 (by simp [MapKept.IsKey]) b 9999
  have hz := zeroC w
  obtain ⟨q, hq, hv⟩ := find_map s es.toList C 0 hm
  cases q with
  | none =>
    have hv : conOf C s = none := hv
    rw [hv]
    simp [Instr.lookup, run_underlying h1, MapKept.run_getObj_map hb, hc, MapKept.run_findKey h2 hq, Result.andThen, hz]
  | some p =>
    obtain ⟨i, v⟩ := p
    obtain ⟨hv1, hv2⟩ : conOf C s ≠ none ∧ v = cv ((conOf C s).getD zeroCn) := hv
    rw [← hv2]
    have : (conOf C s).isSome = true := by
      cases h : conOf C s with
      | none => exact absurd h hv1
      | some c => rfl
    rw [this]
    simp [Instr.lookup, run_underlying h1, MapKept.run_getObj_map hb, hc, MapKept.run_findKey h2 hq, Result.andThen]
theorem run_put (w : World) (r clock : Nat) (es : Array MapEntry) (s : By) (val : Value) (hb : w.heap[r]? = some (.map es clock)) (hf : Instr.findNow .string (.string ⟨s.toArray⟩) es.toList 0 = some none) :
    (Instr.mapUpdate 96 (.map (some r)) (.string ⟨s.toArray⟩) val).run Try.prog w = .ok () (setMap w r (.map (es.push { key := .string ⟨s.toArray⟩, val := val, born := clock }) (clock + 1))) := by
  have h1 : Try.prog.underlying 96 = some (.map 9 54) := Try.underlying96
  have h2 : Try.prog.underlying 9 = some .string := Try.underlying9
  have hc : (Instr.checkKey false 10000 9 (.string ⟨s.toArray⟩)).run Try.prog w = .ok () w := MapKept.run_checkKey (k := .string ⟨s.toArray⟩) h2 (by simp [MapKept.IsKey]) false 9999
  simp [Instr.mapUpdate, run_underlying h1, MapKept.run_getObj_map hb, hc, MapKept.run_findKey h2 hf, MapKept.run_setObj_map _ hb, Result.andThen, setMap]
/-- A function that finds the constructors C. -/
structure Fd (w : World) (f : Value) (C : List Cn) (c : Nat) : Prop where
  val : f = .func (.func 38) #[] #[.pointer (some ⟨c, 0, none⟩)]
  lt : c < w.heap.size
  map : ∃ m es clock, w.cell? ⟨c, 0, none⟩ = some (.map (some m)) ∧ w.heap[m]? = some (.map es clock) ∧ MapIs es.toList C
theorem Fd.keep {w w' : World} {f : Value} {C : List Cn} {c : Nat} (h : Fd w f C c) (hb : Below w.heap.size w w') : Fd w' f C c := by
  obtain ⟨m, es, clock, h1, h2, h3⟩ := h.map
  exact ⟨h.val, Nat.lt_of_lt_of_le h.lt hb.size, m, es, clock, (hb.cell (p := ⟨c, 0, none⟩) h.lt).trans h1, (hb.block m (Array.getElem?_eq_some_iff.1 h2).1).trans h2, h3⟩
set_option maxHeartbeats 1000000 in
theorem find_c (C : List Cn) (s : By) (c : Nat) (f : Value) (w : World) (h : Fd w f C c) :
    Calls Try.prog 38 #[.string ⟨s.toArray⟩, .pointer (some ⟨c, 0, none⟩)] w fun e w' => e = .returned (.tuple #[cv ((conOf C s).getD zeroCn), .bool (conOf C s).isSome]) ∧ Below w.heap.size w w' := by
  have HF := Lib.hid h
  clear h
  obtain ⟨K, hK⟩ : ∃ K, Hid ((conOf C s).getD zeroCn = K) := ⟨_, Lib.hid rfl⟩
  obtain ⟨X, hX⟩ : ∃ X, Hid ((conOf C s).isSome = X) := ⟨_, Lib.hid rfl⟩
  rw [hK.out, hX.out]
  have HB := Lib.hid (balloc w (.cells #[.string ⟨#[]⟩, .string ⟨#[]⟩, .int .i64 0, .int .i64 0, .int .i64 0] 54))
  obtain ⟨m, es, clock, h1, h2, h3⟩ := (HF.out.keep HB.out).map
  have hrun := run_find _ m clock es C s h2 h3
  rw [hK.out, hX.out] at hrun
  unfold cv at hrun ⊢
  obtain ⟨nm, of, tg, ar, mn⟩ := K
  simp only at hrun ⊢
  clear h2 h3
  go_enter Try.func38, Try.ntmps38
  go_wp2
  exact bodyPost_ret (v := .tuple #[.agg #[.string ⟨nm.toArray⟩, .string ⟨of.toArray⟩, .int .i64 (tg : Int), .int .i64 (ar : Int), .int .i64 (mn : Int)], .bool X]) (by simp [results, Try.results38, go_sem]) rfl ⟨rfl, ((Below.refl _ _).alloc (Nat.le_refl _) _).alloc (by simp) _⟩

/-! ## Making it -/
def crow (C : List Cn) : List Value := C.flatMap fun c => [.string ⟨c.nm.toArray⟩, .string ⟨c.of.toArray⟩, .int .i64 (c.tag : Int), .int .i64 (c.ar : Int), .int .i64 (c.many : Int)]
/-- A row of constructors. -/
def RowC (w : World) (v : Value) (C : List Cn) : Prop := Rw w (fun _ => True) v C.length (crow C)
theorem crow_at : ∀ (C : List Cn) (i : Nat) c, C[i]? = some c → ∀ (k : Nat) u, [Value.string ⟨c.nm.toArray⟩, .string ⟨c.of.toArray⟩, .int .i64 (c.tag : Int), .int .i64 (c.ar : Int), .int .i64 (c.many : Int)][k]? = some u → (crow C)[i * 5 + k]? = some u
  | d :: C, 0, c, h, k, u, hu => by
    simp at h; subst h
    show (_ ++ crow C)[0 * 5 + k]? = some u
    rw [Nat.zero_mul, Nat.zero_add, List.getElem?_append_left (List.getElem?_eq_some_iff.1 hu).1]
    exact hu
  | d :: C, i + 1, c, h, k, u, hu => by
    show (_ ++ crow C)[(i + 1) * 5 + k]? = some u
    rw [List.getElem?_append_right (by simp; omega)]
    have := crow_at C i c (by simpa using h) k u hu
    rw [show (i + 1) * 5 + k - ([Value.string ⟨d.nm.toArray⟩, .string ⟨d.of.toArray⟩, .int .i64 (d.tag : Int), .int .i64 (d.ar : Int), .int .i64 (d.many : Int)] : List Value).length = i * 5 + k from by simp; omega]
    exact this
  | [], i, c, h, _, _, _ => by simp at h
theorem RowC.open_ {w : World} {v : Value} {C : List Cn} (h : RowC w v C) (h0 : C ≠ []) : ∃ b off cap, v = .slice (some ⟨b, off, none⟩) C.length cap ∧ C.length ≤ cap ∧ b < w.heap.size ∧ ∀ (i : Nat) c, C[i]? = some c → w.cell? ⟨b, off + i * 5, none⟩ = some (.string ⟨c.nm.toArray⟩) ∧ w.cell? ⟨b, off + i * 5 + 1, none⟩ = some (.string ⟨c.of.toArray⟩) ∧ w.cell? ⟨b, off + i * 5 + 2, none⟩ = some (.int .i64 (c.tag : Int)) ∧ w.cell? ⟨b, off + i * 5 + 3, none⟩ = some (.int .i64 (c.ar : Int)) ∧ w.cell? ⟨b, off + i * 5 + 4, none⟩ = some (.int .i64 (c.many : Int)) := by
  obtain ⟨ao, cap, rfl, hc, hr⟩ := h
  rcases hr with hr | ⟨b, off, rfl, ⟨_, hlt⟩, hcell⟩
  · exact absurd (List.eq_nil_of_length_eq_zero hr) h0
  · refine ⟨b, off, cap, rfl, hc, hlt, fun i c hi => ?_⟩
    have hk := fun k u hu => hcell _ _ (crow_at C i c hi k u hu)
    simp only [← Nat.add_assoc] at hk
    exact ⟨hk 0 _ rfl, hk 1 _ rfl, hk 2 _ rfl, hk 3 _ rfl, hk 4 _ rfl⟩
theorem wpList_mput {P : Program} (w : World) {ops : Array Oper} {rest : List Oper} {o : Oper} {a : Act} {Q : Exit → Act → World → Prop}
    (hg : o.guard = none) (m x v : Operand) (t : TypeId) (hop : o.op = Op.mapUpdate t m x v) (b : Nat) (key val : Value) (w' : World)
    (hm : a.eval m = .map (some b)) (hx : a.eval x = key) (hv : a.eval v = val) (hrun : (Instr.mapUpdate t (.map (some b)) key val).run P w = .ok () w')
    (hK : wpList P ops Q rest (a.put o.dst undef) w') : wpList P ops Q (o :: rest) a w := by
  refine wpList_plain hg fun K' hK' => ?_
  unfold Oper.wp
  simp [execOp, hop, hm, hx, hv, hrun, Result.andThen]
  exact hK' _ _ hK
theorem find_none {C : List Cn} (hn : (C.map Cn.nm).Nodup) {k : Nat} {c : Cn} (hk : C[k]? = some c) {es : List MapEntry} (hm : MapIs es (C.take k)) : Instr.findNow .string (.string ⟨c.nm.toArray⟩) es 0 = some none := by
  obtain ⟨r, h1, h2⟩ := find_map c.nm es (C.take k) 0 hm
  rw [h1]
  cases r with
  | none => rfl
  | some p =>
    exfalso
    refine h2.1 ?_
    unfold conOf
    rw [List.find?_eq_none]
    intro d hd
    have hsp : C = C.take k ++ c :: C.drop (k + 1) := by
      have hlt := (List.getElem?_eq_some_iff.1 hk)
      obtain ⟨hlt, he⟩ := hlt
      rw [← he, ← List.drop_eq_getElem_cons hlt, List.take_append_drop]
    rw [hsp, List.map_append, List.nodup_append] at hn
    have := hn.2.2 d.nm (List.mem_map.2 ⟨d, hd, rfl⟩) c.nm (by simp)
    simpa using this
theorem map_push {es : Array MapEntry} {C : List Cn} {k : Nat} {c : Cn} (hm : MapIs es.toList (C.take k)) (hk : C[k]? = some c) (b : Nat) : MapIs (es.push { key := .string ⟨c.nm.toArray⟩, val := cv c, born := b }).toList (C.take (k + 1)) := by
  unfold MapIs at hm ⊢
  rw [List.take_add_one, hk, Array.toList_push, List.map_append, List.map_append, hm]
  rfl
theorem run_makeMap_hint (t kk ee : TypeId) (n : Int) (w : World) (ht : Try.prog.underlying t = some (.map kk ee)) : (Instr.makeMap t (some (.int .i64 n))).run Try.prog w = .ok (.map (some w.heap.size)) (w.alloc (.map #[] 0)) := by
  simp [Instr.makeMap, run_underlying ht, asInt, Result.andThen]
  rfl
theorem named_cell (w : World) : ((w.alloc (.map #[] 0)).alloc (.cells #[.map (some w.heap.size)] 96)).cell? ⟨w.heap.size + 1, 0, none⟩ = some (.map (some w.heap.size)) := by
  have h := cell_one (w.alloc (.map #[] 0)) (.map (some w.heap.size)) 96
  rw [World.size_alloc] at h
  exact h
theorem named_map (w : World) : ((w.alloc (.map #[] 0)).alloc (.cells #[.map (some w.heap.size)] 96)).heap[w.heap.size]? = some (.map #[] 0) := by
  rw [Below.heap_alloc _ _ _ (by simp)]; exact heap_alloc_new w _
def FdRes (w : World) (C : List Cn) (e : Ending) (w' : World) : Prop := ∃ f c, e = .returned f ∧ Fd w' f C c ∧ Below w.heap.size w w'
set_option maxHeartbeats 1000000 in
theorem finds_c (C : List Cn) (v : Value) (w : World) (hv : RowC w v C) (hn : (C.map Cn.nm).Nodup) (hl : C.length ≤ 1000) : Calls Try.prog 20 #[v] w (FdRes w C) := by
  have hmm := fun n w => run_makeMap_hint 96 _ _ n w Try.underlying96
  have h0 := heap_alloc_new w (.map #[] 0)
  by_cases hC : C = []
  · subst hC
    obtain ⟨ao, cap, rfl, _⟩ := hv
    go_enter Try.func20, Try.ntmps20
    go_wp2
    refine wp_loop_rounds 1 ?_
    rw [rounds_succ]
    go_wp2
    go_ret
    exact ⟨_, w.heap.size + 1, rfl, ⟨rfl, by simp, w.heap.size, #[], 0, named_cell w, named_map w, rfl⟩, (balloc w _).trans ((Below.refl _ _).alloc (by simp) _)⟩
  · obtain ⟨b, off, cap, rfl, hcap, hlt, hop⟩ := hv.open_ hC
    have HOP := Lib.hid hop
    have HN := Lib.hid hn
    obtain ⟨N, hN⟩ : ∃ N, Hid (C.length = N) := ⟨_, Lib.hid rfl⟩
    rw [hN.out] at hl hcap ⊢
    clear hv hop hn hC h0
    go_enter Try.func20, Try.ntmps20
    go_wp2
    have HX0 := Lib.hid (show Below w.heap.size w ((w.alloc (.map #[] 0)).alloc (.cells #[.map (some w.heap.size)] 96)) from (balloc w _).trans ((Below.refl _ _).alloc (by simp) _))
    have HM0 := Lib.hid (named_map w)
    have HC0 := Lib.hid (named_cell w)
    have hz0 : w.heap.size + 1 < ((w.alloc (.map #[] 0)).alloc (.cells #[.map (some w.heap.size)] 96)).heap.size := by simp
    have HZ0 := Lib.hid hz0
    clear hz0
    generalize (w.alloc _).alloc _ = W at HX0 HM0 HC0 HZ0 ⊢
    obtain ⟨B, hB⟩ : ∃ B, Hid (w.heap.size = B) := ⟨_, Lib.hid rfl⟩
    rw [hB.out] at HM0 HC0 HZ0 ⊢
    go_loopg [11] N (fun g jv wr => ∃ j : Nat, j + g = N ∧ jv = .int .i64 (j : Int) ∧ Hid (∃ (es : Array MapEntry) (clock : Nat), wr.heap[B]? = some (.map es clock) ∧ MapIs es.toList (C.take j)) ∧ Hid (wr.cell? ⟨B + 1, 0, none⟩ = some (.map (some B))) ∧ Hid (B + 1 < wr.heap.size) ∧ Hid (Below w.heap.size w wr))
    case atStart => exact ⟨0, Nat.zero_add _, rfl, Lib.hid ⟨#[], 0, HM0.out, rfl⟩, HC0, HZ0, HX0⟩
    case round =>
      obtain ⟨j, hj, rfl, HM, HC, HZ, HX⟩ := hrel
      clear HM0 HC0 HZ0 HX0
      by_cases hlt2 : j < N
      · obtain ⟨g, rfl⟩ : ∃ g, gk = g + 1 := ⟨gk - 1, by omega⟩
        obtain ⟨c, hc⟩ := getElem?_of_lt (l := C) (k := j) (by rw [hN.out]; exact hlt2)
        obtain ⟨x0, x1, x2, x3, x4⟩ := HOP.out j c hc
        have HCC := Lib.hid hc
        clear hc
        replace x0 := (HX.out.cell (p := ⟨b, off + j * 5, none⟩) hlt).trans x0
        replace x1 := (HX.out.cell (p := ⟨b, off + j * 5 + 1, none⟩) hlt).trans x1
        replace x2 := (HX.out.cell (p := ⟨b, off + j * 5 + 2, none⟩) hlt).trans x2
        replace x3 := (HX.out.cell (p := ⟨b, off + j * 5 + 3, none⟩) hlt).trans x3
        replace x4 := (HX.out.cell (p := ⟨b, off + j * 5 + 4, none⟩) hlt).trans x4
        obtain ⟨es, clock, hm1, hm2⟩ := HM.out
        have HM2 := Lib.hid hm2
        have hlc := HZ.out
        have HB1 := Lib.hid (balloc wr (.cells #[.string ⟨c.nm.toArray⟩, .string ⟨c.of.toArray⟩, .int .i64 (c.tag : Int), .int .i64 (c.ar : Int), .int .i64 (c.many : Int)] 54))
        have hrun := Lib.hid (run_put _ B clock es c.nm (cv c) ((HB1.out.block B (by omega)).trans hm1) (find_none HN.out HCC.out hm2))
        have hat := Lib.hid (setMap_at (o' := .map (es.push { key := .string ⟨c.nm.toArray⟩, val := cv c, born := clock }) (clock + 1)) ((HB1.out.block B (by omega)).trans hm1))
        have hgr := Lib.hid (setMap_grown (w := wr.alloc (.cells #[.string ⟨c.nm.toArray⟩, .string ⟨c.of.toArray⟩, .int .i64 (c.tag : Int), .int .i64 (c.ar : Int), .int .i64 (c.many : Int)] 54)) B (.map (es.push { key := .string ⟨c.nm.toArray⟩, val := cv c, born := clock }) (clock + 1)))
        have hc1 : wr.cell? ⟨B + 1, 0, none⟩ = some (.map (some B)) := HC.out
        have hc2 : (wr.alloc (.cells #[.string ⟨c.nm.toArray⟩, .string ⟨c.of.toArray⟩, .int .i64 (c.tag : Int), .int .i64 (c.ar : Int), .int .i64 (c.many : Int)] 54)).cell? ⟨B + 1, 0, none⟩ = some (.map (some B)) := (HB1.out.cell (p := ⟨B + 1, 0, none⟩) hlc).trans hc1
        have i0 : (0 : Int) ≤ (j : Int) := by omega
        have i1 : (j : Int) < (N : Int) := by omega
        clear hm1 hm2
        go_wp2_with (first | (at_mapUpdate; go_loud (refine wpList_mput _ rfl (.tmp 15) (.tmp 17) (.tmp 18) 96 rfl B (.string ⟨c.nm.toArray⟩) (cv c) _ rfl rfl rfl hrun.out ?_)))
        have HX2 := Lib.hid (show Below w.heap.size w (setMap (wr.alloc (.cells #[.string ⟨c.nm.toArray⟩, .string ⟨c.of.toArray⟩, .int .i64 (c.tag : Int), .int .i64 (c.ar : Int), .int .i64 (c.many : Int)] 54)) B (.map (es.push { key := .string ⟨c.nm.toArray⟩, val := cv c, born := clock }) (clock + 1))) from (bnext HX.out HB1.out).trans (bgrown hgr.out (fun x hx => by cases hx; rw [hB.out]; exact Nat.le_refl _) (bnext HX.out HB1.out).size))
        go_roundg g
        case rel => exact ⟨j + 1, by omega, by go_num, Lib.hid ⟨_, _, hat.out, map_push HM2.out HCC.out clock⟩, Lib.hid ((World.cell?_of_block (hgr.out.block (B + 1) (by have := HB1.out.size; omega) (by simp))).trans hc2), Lib.hid (by have := HB1.out.size; have := hgr.out.size; omega), HX2⟩
        case measure => omega
      · go_wp2
        go_ret
        have hjn : j = N := by omega
        obtain ⟨es, clock, h1, h2⟩ := HM.out
        rw [List.take_of_length_le (by rw [hN.out, hjn]; exact Nat.le_refl _)] at h2
        exact ⟨_, B + 1, rfl, ⟨rfl, HZ.out, B, es, clock, HC.out, h1, h2⟩, HX.out⟩
end Go.Proofs.Ytommaomhiaaphaa.CK
