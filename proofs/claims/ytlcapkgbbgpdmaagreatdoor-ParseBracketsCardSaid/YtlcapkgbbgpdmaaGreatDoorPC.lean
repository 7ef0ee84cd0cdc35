/- The parser's two maps of functions. -/
import Derived.Test.YtlcapkgbbgpdmaaGreatDoorPB
import Derived.WideMake
namespace Go.Proofs.YtlcapkgbbgpdmaaGreatDoor.PC
open Go.RowKit Go.Proofs.YtlcapkgbbgpdmaaGreatDoor.P Go.Proofs.YtlcapkgbbgpdmaaGreatDoor.A Go.Proofs.YtlcapkgbbgpdmaaGreatDoor.TK Go.Proofs.YtlcapkgbbgpdmaaGreatDoor.TO Go.Proofs.YtlcapkgbbgpdmaaGreatDoor.GR Go.Proofs.YtlcapkgbbgpdmaaGreatDoor.MP Go.Proofs.YtlcapkgbbgpdmaaGreatDoor.YR Go.Proofs.YtlcapkgbbgpdmaaGreatDoor.PN Go.Proofs.YtlcapkgbbgpdmaaGreatDoor.PS Go.Proofs.YtlcapkgbbgpdmaaGreatDoor.PA Go.Proofs.YtlcapkgbbgpdmaaGreatDoor.PB
set_option linter.unusedVariables false
set_option maxRecDepth 100000

/-- The block r is the map m now. -/
def setMap (w : World) (r : Nat) (o : Obj) : World := { w with heap := w.heap.setIfInBounds r o }
theorem setMap_at {w : World} {r : Nat} {o o' : Obj} (h : w.heap[r]? = some o) : (setMap w r o').heap[r]? = some o' := by
  have := lt_of_block h
  simp [setMap, this]
theorem setMap_grown {w : World} (r : Nat) (o : Obj) : w.grownBy (setMap w r o) (some r) :=
  ⟨rfl, rfl, rfl, by simp [setMap], fun k hk hn => by
    have : r ≠ k := fun e => hn (by rw [e])
    simp [setMap, this]⟩
theorem run_put (w : World) (r clock : Nat) (es : Array MapEntry) (s : ByteArray) (val : Value) (hb : w.heap[r]? = some (.map es clock)) (hf : Instr.findNow .string (.string s) es.toList 0 = some none) :
    (Instr.mapUpdate 72 (.map (some r)) (.string s) val).run Tryz.prog w = .ok () (setMap w r (.map (es.push { key := .string s, val := val, born := clock }) (clock + 1))) := by
  have h1 : Tryz.prog.underlying 72 = some (.map 9 120) := Tryz.underlying72
  have h2 : Tryz.prog.underlying 9 = some .string := Tryz.underlying9
  have hc : (Instr.checkKey false 10000 9 (.string s)).run Tryz.prog w = .ok () w := MapKept.run_checkKey (k := .string s) h2 (by simp [MapKept.IsKey]) false 9999
  simp [Instr.mapUpdate, run_underlying h1, MapKept.run_getObj_map hb, hc, MapKept.run_findKey h2 hf, MapKept.run_setObj_map _ hb, Result.andThen, setMap]
/-- What stands in a map at a word. -/
def atKey : List MapEntry → By → Value
  | [], _ => .nilFunc
  | e :: es, s =>
    match e.key with
    | .string u => if u.data.toList = s then e.val else atKey es s
    | _ => atKey es s
def Keyed (es : List MapEntry) : Prop := ∀ e ∈ es, ∃ s, e.key = .string s
theorem zero_part (w : World) : (zeroValue 120).run Tryz.prog w = .ok .nilFunc w := by kernel_rfl
theorem find_key (s : ByteArray) : ∀ (es : List MapEntry) (i : Nat), Keyed es → ∃ r, Instr.findNow .string (.string s) es i = some r ∧ (match r with | some (_, v) => v | none => .nilFunc) = atKey es s.data.toList
  | [], i, _ => ⟨none, rfl, rfl⟩
  | e :: es, i, h => by
    obtain ⟨u, hu⟩ := h e List.mem_cons_self
    obtain ⟨r, h1, h2⟩ := find_key s es (i + 1) (fun e he => h e (List.mem_cons_of_mem _ he))
    unfold Instr.findNow Instr.sameNow atKey
    rw [hu]
    simp only []
    by_cases he : u.data.toList = s.data.toList
    · have hb : (s == u) = true := by
        rw [MapKept.bytes_beq]
        apply ByteArray.ext
        rw [← Array.toList_inj]
        exact he.symm
      rw [hb, if_pos he]
      exact ⟨some (i, e.val), rfl, rfl⟩
    · have hb : (s == u) = false := by
        rw [Bool.eq_false_iff]
        intro h
        rw [MapKept.bytes_beq] at h
        exact he (by rw [h])
      rw [hb, if_neg he]
      exact ⟨r, h1, h2⟩
theorem run_look (w : World) (r clock : Nat) (es : Array MapEntry) (s : ByteArray) (hb : w.heap[r]? = some (.map es clock)) (hk : Keyed es.toList) :
    (Instr.lookup 72 (.map (some r)) (.string s) false).run Tryz.prog w = .ok (atKey es.toList s.data.toList) w := by
  have h1 : Tryz.prog.underlying 72 = some (.map 9 120) := Tryz.underlying72
  have h2 : Tryz.prog.underlying 9 = some .string := Tryz.underlying9
  have hc : ∀ b, (Instr.checkKey b 10000 9 (.string s)).run Tryz.prog w = .ok () w := fun b => MapKept.run_checkKey (k := .string s) h2 (by simp [MapKept.IsKey]) b 9999
  have hz := zero_part w
  obtain ⟨q, hq, hv⟩ := find_key s es.toList 0 hk
  rw [← hv]
  cases q with
  | none => simp [Instr.lookup, run_underlying h1, MapKept.run_getObj_map hb, hc, MapKept.run_findKey h2 hq, Result.andThen, hz]
  | some p => simp [Instr.lookup, run_underlying h1, MapKept.run_getObj_map hb, hc, MapKept.run_findKey h2 hq, Result.andThen]
theorem wpList_put {P : Program} (w : World) {ops : Array Oper} {rest : List Oper} {o : Oper} {a : Act} {Q : Exit → Act → World → Prop}
    (hg : o.guard = none) (m x v : Operand) (t : TypeId) (hop : o.op = Op.insert t m x v) (b : Nat) (key val : Value) (w' : World)
    (hm : a.eval m = .map (some b)) (hx : a.eval x = key) (hv : a.eval v = val) (hrun : (Instr.mapUpdate t (.map (some b)) key val).run P w = .ok () w')
    (hK : wpList P ops Q rest (a.put o.dst undef) w') : wpList P ops Q (o :: rest) a w := by
  refine wpList_plain hg fun K' hK' => ?_
  unfold Oper.wp
  simp [execOp, hop, hm, hx, hv, hrun, Result.andThen]
  exact hK' _ _ hK

theorem new_map (w : World) : (w.alloc (.map #[] 0)).heap[w.heap.size]? = some (.map #[] 0) := heap_alloc_new w _
theorem exps_any (w : World) :
    Calls Tryz.prog 41 #[] w fun x w' => x = .returned (.map (some w.heap.size)) ∧ w'.heap[w.heap.size]? = some (.map expMap 3) ∧ Below w.heap.size w w' := by
  have hmm := @run_makeMap Tryz.prog
  have h0 := new_map w
  have r1 := run_put (w.alloc (.map #[] 0)) w.heap.size 0 #[] ⟨#[108, 101, 116]⟩ (fv 63) h0 rfl
  have h1 := setMap_at (o' := .map (#[].push { key := .string ⟨#[108, 101, 116]⟩, val := fv 63, born := 0 }) (0 + 1)) h0
  have g1 := setMap_grown (w := w.alloc (.map #[] 0)) w.heap.size (.map (#[].push { key := .string ⟨#[108, 101, 116]⟩, val := fv 63, born := 0 }) (0 + 1))
  generalize setMap _ _ _ = w1 at r1 h1 g1
  have r2 := run_put w1 w.heap.size _ _ ⟨#[102, 117, 110]⟩ (fv 64) h1 rfl
  have h2 := setMap_at (o' := .map (#[{ key := .string ⟨#[108, 101, 116]⟩, val := fv 63, born := 0 }].push { key := .string ⟨#[102, 117, 110]⟩, val := fv 64, born := 1 }) 2) h1
  have g2 := setMap_grown (w := w1) w.heap.size (.map (#[{ key := .string ⟨#[108, 101, 116]⟩, val := fv 63, born := 0 }].push { key := .string ⟨#[102, 117, 110]⟩, val := fv 64, born := 1 }) 2)
  change _ = Result.ok () (setMap w1 w.heap.size (.map (#[{ key := .string ⟨#[108, 101, 116]⟩, val := fv 63, born := 0 }].push { key := .string ⟨#[102, 117, 110]⟩, val := fv 64, born := 1 }) 2)) at r2
  generalize setMap _ _ _ = w2 at r2 h2 g2
  have r3 := run_put w2 w.heap.size _ _ ⟨#[105, 102]⟩ (fv 65) h2 rfl
  have h3 := setMap_at (o' := .map expMap 3) h2
  have g3 := setMap_grown (w := w2) w.heap.size (.map expMap 3)
  change _ = Result.ok () (setMap w2 w.heap.size (.map expMap 3)) at r3
  generalize setMap _ _ _ = w3 at r3 h3 g3
  have hB : Below w.heap.size w w3 := ((((Below.refl _ _).alloc (Nat.le_refl _) _).grown g1 (by simp) (fun j hj => by cases hj; exact Nat.le_refl _)).grown g2 (by have := g1.size; simp at this; omega) (fun j hj => by cases hj; exact Nat.le_refl _)).grown g3 (by have := g1.size; have := g2.size; simp at *; omega) (fun j hj => by cases hj; exact Nat.le_refl _)
  have HB := Lib.hid hB
  have H3 := Lib.hid h3
  have R1 := Lib.hid r1
  have R2 := Lib.hid r2
  have R3 := Lib.hid r3
  clear g1 g2 g3 h0 h1 h2 h3 hB r1 r2 r3
  go_enter Tryz.func41, Tryz.ntmps41
  go_wp2_with (first
    | (refine wpList_put _ rfl (.tmp 1) (.const (.string ⟨#[108, 101, 116]⟩)) (.func 63) 72 rfl w.heap.size _ (fv 63) w1 rfl rfl rfl R1.out ?_)
    | (refine wpList_put _ rfl (.tmp 1) (.const (.string ⟨#[102, 117, 110]⟩)) (.func 64) 72 rfl w.heap.size _ (fv 64) w2 rfl rfl rfl R2.out ?_)
    | (refine wpList_put _ rfl (.tmp 1) (.const (.string ⟨#[105, 102]⟩)) (.func 65) 72 rfl w.heap.size _ (fv 65) w3 rfl rfl rfl R3.out ?_))
  go_ret
  exact ⟨rfl, H3.out, HB.out⟩
theorem atoms_any (w : World) :
    Calls Tryz.prog 42 #[] w fun x w' => x = .returned (.map (some w.heap.size)) ∧ w'.heap[w.heap.size]? = some (.map atomMap 4) ∧ Below w.heap.size w w' := by
  have hmm := @run_makeMap Tryz.prog
  have h0 := new_map w
  have r1 := run_put (w.alloc (.map #[] 0)) w.heap.size _ _ ⟨#[40]⟩ (fv 66) h0 rfl
  have h1 := setMap_at (o' := (.map (#[].push { key := .string ⟨#[40]⟩, val := fv 66, born := 0 }) 1)) h0
  have g1 := setMap_grown (w := (w.alloc (.map #[] 0))) w.heap.size (.map (#[].push { key := .string ⟨#[40]⟩, val := fv 66, born := 0 }) 1)
  change _ = Result.ok () (setMap (w.alloc (.map #[] 0)) w.heap.size (.map (#[].push { key := .string ⟨#[40]⟩, val := fv 66, born := 0 }) 1)) at r1
  generalize setMap _ _ _ = w1 at r1 h1 g1
  have r2 := run_put w1 w.heap.size _ _ ⟨#[114, 101, 116, 114, 121]⟩ (fv 67) h1 rfl
  have h2 := setMap_at (o' := (.map (#[{ key := .string ⟨#[40]⟩, val := fv 66, born := 0 }].push { key := .string ⟨#[114, 101, 116, 114, 121]⟩, val := fv 67, born := 1 }) 2)) h1
  have g2 := setMap_grown (w := w1) w.heap.size (.map (#[{ key := .string ⟨#[40]⟩, val := fv 66, born := 0 }].push { key := .string ⟨#[114, 101, 116, 114, 121]⟩, val := fv 67, born := 1 }) 2)
  change _ = Result.ok () (setMap w1 w.heap.size (.map (#[{ key := .string ⟨#[40]⟩, val := fv 66, born := 0 }].push { key := .string ⟨#[114, 101, 116, 114, 121]⟩, val := fv 67, born := 1 }) 2)) at r2
  generalize setMap _ _ _ = w2 at r2 h2 g2
  have r3 := run_put w2 w.heap.size _ _ ⟨#[109, 97, 116, 99, 104]⟩ (fv 68) h2 rfl
  have h3 := setMap_at (o' := (.map (#[{ key := .string ⟨#[40]⟩, val := fv 66, born := 0 }, { key := .string ⟨#[114, 101, 116, 114, 121]⟩, val := fv 67, born := 1 }].push { key := .string ⟨#[109, 97, 116, 99, 104]⟩, val := fv 68, born := 2 }) 3)) h2
  have g3 := setMap_grown (w := w2) w.heap.size (.map (#[{ key := .string ⟨#[40]⟩, val := fv 66, born := 0 }, { key := .string ⟨#[114, 101, 116, 114, 121]⟩, val := fv 67, born := 1 }].push { key := .string ⟨#[109, 97, 116, 99, 104]⟩, val := fv 68, born := 2 }) 3)
  change _ = Result.ok () (setMap w2 w.heap.size (.map (#[{ key := .string ⟨#[40]⟩, val := fv 66, born := 0 }, { key := .string ⟨#[114, 101, 116, 114, 121]⟩, val := fv 67, born := 1 }].push { key := .string ⟨#[109, 97, 116, 99, 104]⟩, val := fv 68, born := 2 }) 3)) at r3
  generalize setMap _ _ _ = w3 at r3 h3 g3
  have r4 := run_put w3 w.heap.size _ _ ⟨#[116, 114, 121]⟩ (fv 69) h3 rfl
  have h4 := setMap_at (o' := (.map atomMap 4)) h3
  have g4 := setMap_grown (w := w3) w.heap.size (.map atomMap 4)
  change _ = Result.ok () (setMap w3 w.heap.size (.map atomMap 4)) at r4
  generalize setMap _ _ _ = w4 at r4 h4 g4
  have hB : Below w.heap.size w w4 := (((((Below.refl _ _).alloc (Nat.le_refl _) _).grown g1 (by simp) (fun j hj => by cases hj; exact Nat.le_refl _)).grown g2 (by have := g1.size; simp at this; omega) (fun j hj => by cases hj; exact Nat.le_refl _)).grown g3 (by have := g1.size; have := g2.size; simp at *; omega) (fun j hj => by cases hj; exact Nat.le_refl _)).grown g4 (by have := g1.size; have := g2.size; have := g3.size; simp at *; omega) (fun j hj => by cases hj; exact Nat.le_refl _)
  have HB := Lib.hid hB
  have H4 := Lib.hid h4
  have R1 := Lib.hid r1
  have R2 := Lib.hid r2
  have R3 := Lib.hid r3
  have R4 := Lib.hid r4
  clear g1 g2 g3 g4 h0 h1 h2 h3 h4 hB r1 r2 r3 r4
  go_enter Tryz.func42, Tryz.ntmps42
  go_wp2_with (first
    | (refine wpList_put _ rfl (.tmp 1) (.const (.string ⟨#[40]⟩)) (.func 66) 72 rfl w.heap.size _ (fv 66) w1 rfl rfl rfl R1.out ?_)
    | (refine wpList_put _ rfl (.tmp 1) (.const (.string ⟨#[114, 101, 116, 114, 121]⟩)) (.func 67) 72 rfl w.heap.size _ (fv 67) w2 rfl rfl rfl R2.out ?_)
    | (refine wpList_put _ rfl (.tmp 1) (.const (.string ⟨#[109, 97, 116, 99, 104]⟩)) (.func 68) 72 rfl w.heap.size _ (fv 68) w3 rfl rfl rfl R3.out ?_)
    | (refine wpList_put _ rfl (.tmp 1) (.const (.string ⟨#[116, 114, 121]⟩)) (.func 69) 72 rfl w.heap.size _ (fv 69) w4 rfl rfl rfl R4.out ?_))
  go_ret
  exact ⟨rfl, H4.out, HB.out⟩

-- what the maps tell
def expFn (n : Nat) : Value := if n = 1 then fv 63 else if n = 2 then fv 64 else if n = 3 then fv 65 else .nilFunc
def atomFn (n : Nat) : Value := if n = 1 then fv 66 else if n = 2 then fv 67 else if n = 3 then fv 68 else if n = 4 then fv 69 else .nilFunc
theorem at_exp (u : By) : atKey expMap.toList u = expFn (expWord u) := by
  simp only [expMap, atKey]
  unfold expWord
  by_cases h0 : u = wLet
  · subst h0; rfl
  · rw [if_neg (show ¬ ([108, 101, 116] : By) = u from fun e => h0 e.symm), if_neg h0]
    by_cases h1 : u = wFun
    · subst h1; rfl
    · rw [if_neg (show ¬ ([102, 117, 110] : By) = u from fun e => h1 e.symm), if_neg h1]
      by_cases h2 : u = wIf
      · subst h2; rfl
      · rw [if_neg (show ¬ ([105, 102] : By) = u from fun e => h2 e.symm), if_neg h2]
        rfl
theorem at_atom (u : By) : atKey atomMap.toList u = atomFn (atomWord u) := by
  simp only [atomMap, atKey]
  unfold atomWord
  by_cases h0 : u = [40]
  · subst h0; rfl
  · rw [if_neg (show ¬ ([40] : By) = u from fun e => h0 e.symm), if_neg h0]
    by_cases h1 : u = wRetry
    · subst h1; rfl
    · rw [if_neg (show ¬ ([114, 101, 116, 114, 121] : By) = u from fun e => h1 e.symm), if_neg h1]
      by_cases h2 : u = wMatch
      · subst h2; rfl
      · rw [if_neg (show ¬ ([109, 97, 116, 99, 104] : By) = u from fun e => h2 e.symm), if_neg h2]
        by_cases h3 : u = wTry
        · subst h3; rfl
        · rw [if_neg (show ¬ ([116, 114, 121] : By) = u from fun e => h3 e.symm), if_neg h3]
          rfl
theorem look_exp {w : World} {E : En} {s : St} {d : Nat} {j : Bool} (h : PS w E s d j) (u : By) : (Instr.lookup 72 (.map (some E.m1)) (.string ⟨u.toArray⟩) false).run Tryz.prog w = .ok (expFn (expWord u)) w := by
  rw [run_look w E.m1 3 expMap ⟨u.toArray⟩ h.m1 (by intro e he; simp [expMap] at he; rcases he with rfl | rfl | rfl <;> exact ⟨_, rfl⟩)]
  show Result.ok (atKey expMap.toList u) w = _
  rw [at_exp]
theorem look_atom {w : World} {E : En} {s : St} {d : Nat} {j : Bool} (h : PS w E s d j) (u : By) : (Instr.lookup 72 (.map (some E.m2)) (.string ⟨u.toArray⟩) false).run Tryz.prog w = .ok (atomFn (atomWord u)) w := by
  rw [run_look w E.m2 4 atomMap ⟨u.toArray⟩ h.m2 (by intro e he; simp [atomMap] at he; rcases he with rfl | rfl | rfl | rfl <;> exact ⟨_, rfl⟩)]
  show Result.ok (atKey atomMap.toList u) w = _
  rw [at_atom]
end Go.Proofs.YtlcapkgbbgpdmaaGreatDoor.PC
