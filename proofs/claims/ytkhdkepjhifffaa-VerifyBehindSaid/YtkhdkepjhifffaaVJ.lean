/- The program's rules: what each Op takes and puts is told by a function in a map. -/
import Derived.Test.YtkhdkepjhifffaaVE
import Derived.WideMake
namespace Go.Proofs.Ytkhdkepjhifffaa.VJ
open Go.RowKit Go.Proofs.Ytkhdkepjhifffaa.RG Go.Proofs.Ytkhdkepjhifffaa.RB Go.Proofs.Ytkhdkepjhifffaa.KA Go.Proofs.Ytkhdkepjhifffaa.KB Go.Proofs.Ytkhdkepjhifffaa.VA Go.Proofs.Ytkhdkepjhifffaa.VB Go.Proofs.Ytkhdkepjhifffaa.VE
set_option linter.unusedVariables false
set_option maxRecDepth 100000
set_option maxRecDepth 100000

/-- The block r is the map m now. -/
def setMap (w : World) (r : Nat) (o : Obj) : World := { w with heap := w.heap.setIfInBounds r o }
theorem setMap_at {w : World} {r : Nat} {o o' : Obj} (h : w.heap[r]? = some o) : (setMap w r o').heap[r]? = some o' := by
  have := (Array.getElem?_eq_some_iff.1 h).1
  simp [setMap, this]
theorem setMap_other {w : World} (r : Nat) (o : Obj) {k : Nat} (h : k ≠ r) : (setMap w r o).heap[k]? = w.heap[k]? := by
  simp [setMap, Ne.symm h]
theorem setMap_below {w : World} {B r : Nat} (h : B ≤ r) (o : Obj) : Below B w (setMap w r o) :=
  ⟨rfl, rfl, rfl, by simp [setMap], fun k hk => setMap_other r o (by omega)⟩
/-- A map's entries: of the keys 1, 2, .. -/
def entsFrom : Nat → List Value → List MapEntry
  | _, [] => []
  | i, v :: vs => { key := .int .i64 ((i : Int) + 1), val := v, born := i } :: entsFrom (i + 1) vs
theorem ents_snoc : ∀ (vs : List Value) (i : Nat) (v : Value), entsFrom i (vs ++ [v]) = entsFrom i vs ++ [{ key := .int .i64 ((i : Int) + (vs.length : Int) + 1), val := v, born := i + vs.length }]
  | [], i, v => by simp [entsFrom]
  | u :: vs, i, v => by
    show _ :: entsFrom (i + 1) (vs ++ [v]) = _ :: (entsFrom (i + 1) vs ++ _)
    rw [ents_snoc vs (i + 1) v]
    congr 3
    · congr 1
      · congr 1
        push_cast
        simp only [List.length_cons]
        omega
      · simp only [List.length_cons]
        omega
theorem find_no : ∀ (vs : List Value) (i j : Nat) (K : Int), (i : Int) + vs.length < K → Instr.findNow (.int .i64) (.int .i64 K) (entsFrom i vs) j = some none
  | [], i, j, K, _ => rfl
  | v :: vs, i, j, K, h => by
    have hne : (K == (i : Int) + 1) = false := by simp at h ⊢; omega
    unfold entsFrom Instr.findNow Instr.sameNow
    simp only [if_pos, hne]
    exact find_no vs (i + 1) (j + 1) K (by simp at h ⊢; omega)
theorem find_yes : ∀ (vs : List Value) (i j m : Nat) (v : Value), vs[m]? = some v → Instr.findNow (.int .i64) (.int .i64 ((i : Int) + m + 1)) (entsFrom i vs) j = some (some (j + m, v))
  | [], i, j, m, v, h => by simp at h
  | u :: vs, i, j, 0, v, h => by
    simp at h
    subst h
    unfold entsFrom Instr.findNow Instr.sameNow
    simp
  | u :: vs, i, j, m + 1, v, h => by
    have ih := find_yes vs (i + 1) (j + 1) m v (by simpa using h)
    have hne : (((i : Int) + ((m + 1 : Nat) : Int) + 1) == (i : Int) + 1) = false := by simp; omega
    unfold entsFrom Instr.findNow Instr.sameNow
    simp only [if_pos, hne]
    have e1 : ((i + 1 : Nat) : Int) + (m : Int) + 1 = (i : Int) + ((m + 1 : Nat) : Int) + 1 := by omega
    rw [e1] at ih
    rw [ih]
    congr 3
    omega
abbrev MT : TypeId := 59
theorem hmap : Try.prog.underlying MT = some (.map 3 92) := Try.underlying59
theorem hint : Try.prog.underlying 3 = some (.int .i64) := Try.underlying3
theorem run_put (w : World) (r : Nat) (vs : List Value) (K : Int) (val : Value) (hK : K = (vs.length : Int) + 1) (hb : w.heap[r]? = some (.map (entsFrom 0 vs).toArray vs.length)) :
    (Instr.mapUpdate MT (.map (some r)) (.int .i64 K) val).run Try.prog w = .ok () (setMap w r (.map (entsFrom 0 (vs ++ [val])).toArray (vs ++ [val]).length)) := by
  have hc : (Instr.checkKey false 10000 3 (.int .i64 K)).run Try.prog w = .ok () w := MapKept.run_checkKey (k := .int .i64 K) hint (by simp [MapKept.IsKey]) false 9999
  have hf : Instr.findNow (.int .i64) (.int .i64 K) (entsFrom 0 vs).toArray.toList 0 = some none := by
    rw [List.toList_toArray]
    exact find_no vs 0 0 K (by omega)
  have hp : (entsFrom 0 vs).toArray.push { key := .int .i64 K, val := val, born := vs.length } = (entsFrom 0 (vs ++ [val])).toArray := by
    rw [ents_snoc, hK]
    simp
  rw [← hp]
  simp [Instr.mapUpdate, run_underlying hmap, MapKept.run_getObj_map hb, hc, MapKept.run_findKey hint hf, MapKept.run_setObj_map _ hb, Result.andThen, setMap]
theorem run_look (w : World) (r m : Nat) (vs : List Value) (v : Value) (hv : vs[m]? = some v) (K : Int) (hK : K = (m : Int) + 1) (hb : w.heap[r]? = some (.map (entsFrom 0 vs).toArray vs.length)) :
    (Instr.lookup MT (.map (some r)) (.int .i64 K) false).run Try.prog w = .ok v w := by
  have hc : ∀ b, (Instr.checkKey b 10000 3 (.int .i64 K)).run Try.prog w = .ok () w := fun b => MapKept.run_checkKey (k := .int .i64 K) hint (by simp [MapKept.IsKey]) b 9999
  have hf : Instr.findNow (.int .i64) (.int .i64 K) (entsFrom 0 vs).toArray.toList 0 = some (some (m, v)) := by
    rw [List.toList_toArray, hK]
    have := find_yes vs 0 0 m v hv
    rw [Nat.zero_add] at this
    have e : ((0 : Nat) : Int) + (m : Int) + 1 = (m : Int) + 1 := by omega
    rw [e] at this
    exact this
  simp [Instr.lookup, run_underlying hmap, MapKept.run_getObj_map hb, hc, MapKept.run_findKey hint hf, Result.andThen]
theorem wpList_put {P : Program} (w : World) {ops : Array Oper} {rest : List Oper} {o : Oper} {a : Act} {Q : Exit → Act → World → Prop}
    (hg : o.guard = none) (m x v : Operand) (t : TypeId) (hop : o.op = Op.insert t m x v) (b : Nat) (key val : Value) (w' : World)
    (hm : a.eval m = .map (some b)) (hx : a.eval x = key) (hv : a.eval v = val) (hrun : (Instr.mapUpdate t (.map (some b)) key val).run P w = .ok () w')
    (hK : wpList P ops Q rest (a.put o.dst undef) w') : wpList P ops Q (o :: rest) a w := by
  refine wpList_plain hg fun K' hK' => ?_
  unfold Oper.wp
  simp [execOp, hop, hm, hx, hv, hrun, Result.andThen]
  exact hK' _ _ hK
/-! ## What the functions are -/
abbrev fn (n : Nat) : Value := .func (.func n) #[] #[]
/-- Of a rule that asks nothing; of one that asks whether A is below something. -/
def PV (w : World) (r : Nat) (v : Value) (t p : Int) : Prop := ∃ x y, v = .func (.func 68) #[] #[.pointer (some ⟨x, 0, none⟩), .pointer (some ⟨y, 0, none⟩)] ∧ Bk w x #[.int .i64 t] 3 ∧ Bk w y #[.int .i64 p] 3 ∧ x ≠ r ∧ y ≠ r
def BV (w : World) (r : Nat) (v : Value) (t p : Int) (l : Value) : Prop := ∃ x y z, v = .func (.func 67) #[] #[.pointer (some ⟨x, 0, none⟩), .pointer (some ⟨y, 0, none⟩), .pointer (some ⟨z, 0, none⟩)] ∧ Bk w x #[.int .i64 t] 3 ∧ Bk w y #[.int .i64 p] 3 ∧ Bk w z #[l] 90 ∧ x ≠ r ∧ y ≠ r ∧ z ≠ r
theorem PV.on {w w' : World} {r : Nat} {v : Value} {t p : Int} (h : PV w r v t p) (hb : ∀ k, k < w.heap.size → k ≠ r → w'.heap[k]? = w.heap[k]?) : PV w' r v t p := by
  obtain ⟨x, y, e, h1, h2, h3, h4⟩ := h
  exact ⟨x, y, e, (hb x h1.lt h3).trans h1, (hb y h2.lt h4).trans h2, h3, h4⟩
theorem BV.on {w w' : World} {r : Nat} {v : Value} {t p : Int} {l : Value} (h : BV w r v t p l) (hb : ∀ k, k < w.heap.size → k ≠ r → w'.heap[k]? = w.heap[k]?) : BV w' r v t p l := by
  obtain ⟨x, y, z, e, h1, h2, h3, h4, h5, h6⟩ := h
  exact ⟨x, y, z, e, (hb x h1.lt h4).trans h1, (hb y h2.lt h5).trans h2, (hb z h3.lt h6).trans h3, h4, h5, h6⟩
theorem plain_c (t p : Int) (w : World) (r : Nat) (hr : r < w.heap.size) : Calls Try.prog 56 #[.int .i64 t, .int .i64 p] w fun e w' => ∃ v, e = .returned v ∧ PV w' r v t p ∧ Below w.heap.size w w' := by
  have h1 := Lib.hid ((Bk.new w #[.int .i64 t] 3).alloc (.cells #[.int .i64 p] 3))
  have h2 := Bk.new (w.alloc (.cells #[.int .i64 t] 3)) #[.int .i64 p] 3
  rw [World.size_alloc] at h2
  have H2 := Lib.hid h2
  have HX := Lib.hid (bnext (balloc w (.cells #[.int .i64 t] 3)) (balloc _ (.cells #[.int .i64 p] 3)))
  have HR := Lib.hid hr
  clear h2 hr
  go_enter Try.func56, Try.ntmps56
  go_wp2_with fail
  go_ret
  exact ⟨_, rfl, ⟨_, _, rfl, h1.out, H2.out, by have := HR.out; omega, by have := HR.out; omega⟩, HX.out⟩
theorem below_c (t p : Int) (l : Value) (w : World) (r : Nat) (hr : r < w.heap.size) (n : Nat) (hl : l = fn n) : Calls Try.prog 51 #[.int .i64 t, .int .i64 p, l] w fun e w' => ∃ v, e = .returned v ∧ BV w' r v t p l ∧ Below w.heap.size w w' := by
  subst hl
  have h1 := Lib.hid (((Bk.new w #[.int .i64 t] 3).alloc (.cells #[.int .i64 p] 3)).alloc (.cells #[fn n] 90))
  have h2 := (Bk.new (w.alloc (.cells #[.int .i64 t] 3)) #[.int .i64 p] 3).alloc (.cells #[fn n] 90)
  have h3 := Bk.new ((w.alloc (.cells #[.int .i64 t] 3)).alloc (.cells #[.int .i64 p] 3)) #[fn n] 90
  rw [World.size_alloc] at h2
  rw [World.size_alloc, World.size_alloc] at h3
  have H2 := Lib.hid h2
  have H3 := Lib.hid h3
  have HX := Lib.hid (bnext (bnext (balloc w (.cells #[.int .i64 t] 3)) (balloc _ (.cells #[.int .i64 p] 3))) (balloc _ (.cells #[fn n] 90)))
  have HR := Lib.hid hr
  clear h2 h3 hr
  go_enter Try.func51, Try.ntmps51
  go_wp2_with fail
  go_ret
  exact ⟨_, rfl, ⟨_, _, _, rfl, h1.out, H2.out, H3.out, by have := HR.out; omega, by have := HR.out; omega, by have := HR.out; omega⟩, HX.out⟩
/-- Which function tells the limit of A. -/
def LimOk (n : Nat) (op : Int) : Prop := (op = 1 ∧ n = 52) ∨ (op = 2 ∧ n = 53) ∨ (op = 3 ∧ n = 50) ∨ (op = 4 ∧ n = 54) ∨ (op = 6 ∧ n = 49) ∨ (op = 7 ∧ n = 50) ∨ (op = 8 ∧ n = 49) ∨ (op = 12 ∧ n = 59) ∨ (op = 19 ∧ n = 60)
def RuleOk (w : World) (r : Nat) (op : Int) (v : Value) : Prop :=
  (∃ t p, PV w r v t p ∧ (∀ a b, takesN ⟨op, a, b⟩ = t) ∧ putsN op = p ∧ ∀ c n f a b, rightB c n f ⟨op, a, b⟩ = true) ∨ (∃ t p n, BV w r v t p (fn n) ∧ LimOk n op ∧ (∀ a b, takesN ⟨op, a, b⟩ = t) ∧ putsN op = p) ∨ (op = 5 ∧ v = fn 55) ∨ (op = 10 ∧ v = fn 57) ∨ (op = 11 ∧ v = fn 58)
theorem RuleOk.on {w w' : World} {r : Nat} {op : Int} {v : Value} (h : RuleOk w r op v) (hb : ∀ k, k < w.heap.size → k ≠ r → w'.heap[k]? = w.heap[k]?) : RuleOk w' r op v := by
  rcases h with ⟨t, p, h1, h2⟩ | ⟨t, p, n, h1, h2⟩ | h
  · exact .inl ⟨t, p, h1.on hb, h2⟩
  · exact .inr (.inl ⟨t, p, n, h1.on hb, h2⟩)
  · exact .inr (.inr h)
structure RI (w0 w : World) (r : Nat) (vs : List Value) : Prop where
  blk : w.heap[r]? = some (.map (entsFrom 0 vs).toArray vs.length)
  ok : ∀ (j : Nat) v, vs[j]? = some v → RuleOk w r ((j : Int) + 1) v
  bel : Below w0.heap.size w0 w
  hr : w0.heap.size ≤ r
theorem RI.lt {w0 w : World} {r : Nat} {vs : List Value} (h : RI w0 w r vs) : r < w.heap.size := (Array.getElem?_eq_some_iff.1 h.blk).1
theorem RI.keep {w0 w w' : World} {r : Nat} {vs : List Value} (h : RI w0 w r vs) (hb : Below w.heap.size w w') : RI w0 w' r vs :=
  ⟨(hb.block r h.lt).trans h.blk, fun j v hv => (h.ok j v hv).on fun k hk _ => hb.block k hk, bnext h.bel hb, h.hr⟩
theorem RI.put {w0 w : World} {r : Nat} {vs : List Value} {v : Value} (h : RI w0 w r vs) (K : Int) (hK : K = (vs.length : Int) + 1) (hv : RuleOk w r K v) : RI w0 (setMap w r (.map (entsFrom 0 (vs ++ [v])).toArray (vs ++ [v]).length)) r (vs ++ [v]) := by
  refine ⟨setMap_at h.blk, fun j u hu => ?_, h.bel.trans (setMap_below h.hr _), h.hr⟩
  have hon : ∀ k, k < w.heap.size → k ≠ r → (setMap w r (.map (entsFrom 0 (vs ++ [v])).toArray (vs ++ [v]).length)).heap[k]? = w.heap[k]? := fun k _ hk => setMap_other r _ hk
  rcases Nat.lt_or_ge j vs.length with hj | hj
  · rw [List.getElem?_append_left hj] at hu
    exact (h.ok j u hu).on hon
  · rw [List.getElem?_append_right hj] at hu
    have hj0 : j - vs.length = 0 := by
      rcases Nat.eq_zero_or_pos (j - vs.length) with h0 | h0
      · exact h0
      · rw [List.getElem?_eq_none (by simp; omega)] at hu; cases hu
    rw [hj0] at hu
    simp at hu
    subst hu
    have e : (j : Int) + 1 = K := by omega
    rw [e]
    exact hv.on hon
theorem put_next {w0 w : World} {r n : Nat} {vs : List Value} (h : RI w0 w r vs) (hn : vs.length = n) (K : Int) (hK : K = (n : Int) + 1) (v : Value) (hv : RuleOk w r K v) : ∃ w' vs', (Instr.mapUpdate MT (.map (some r)) (.int .i64 K) v).run Try.prog w = .ok () w' ∧ RI w0 w' r vs' ∧ vs'.length = n + 1 :=
  ⟨_, _, run_put w r vs K v (by rw [hK, hn]) h.blk, h.put K (by rw [hK, hn]) hv, by simp [hn]⟩
theorem rk_9 {w : World} {r : Nat} {v : Value} (h : PV w r v 1 0) : RuleOk w r 9 v := .inl ⟨_, _, h, fun _ _ => by simp [takesN], by decide, fun _ _ _ _ _ => by simp [rightB]⟩
theorem rk_13 {w : World} {r : Nat} {v : Value} (h : PV w r v 2 1) : RuleOk w r 13 v := .inl ⟨_, _, h, fun _ _ => by simp [takesN], by decide, fun _ _ _ _ _ => by simp [rightB]⟩
theorem rk_14 {w : World} {r : Nat} {v : Value} (h : PV w r v 2 0) : RuleOk w r 14 v := .inl ⟨_, _, h, fun _ _ => by simp [takesN], by decide, fun _ _ _ _ _ => by simp [rightB]⟩
theorem rk_15 {w : World} {r : Nat} {v : Value} (h : PV w r v 1 0) : RuleOk w r 15 v := .inl ⟨_, _, h, fun _ _ => by simp [takesN], by decide, fun _ _ _ _ _ => by simp [rightB]⟩
theorem rk_16 {w : World} {r : Nat} {v : Value} (h : PV w r v 0 0) : RuleOk w r 16 v := .inl ⟨_, _, h, fun _ _ => by simp [takesN], by decide, fun _ _ _ _ _ => by simp [rightB]⟩
theorem rk_17 {w : World} {r : Nat} {v : Value} (h : PV w r v 1 0) : RuleOk w r 17 v := .inl ⟨_, _, h, fun _ _ => by simp [takesN], by decide, fun _ _ _ _ _ => by simp [rightB]⟩
theorem rk_18 {w : World} {r : Nat} {v : Value} (h : PV w r v 1 0) : RuleOk w r 18 v := .inl ⟨_, _, h, fun _ _ => by simp [takesN], by decide, fun _ _ _ _ _ => by simp [rightB]⟩
theorem rk_20 {w : World} {r : Nat} {v : Value} (h : PV w r v 2 1) : RuleOk w r 20 v := .inl ⟨_, _, h, fun _ _ => by simp [takesN], by decide, fun _ _ _ _ _ => by simp [rightB]⟩
theorem rk_21 {w : World} {r : Nat} {v : Value} (h : PV w r v 0 0) : RuleOk w r 21 v := .inl ⟨_, _, h, fun _ _ => by simp [takesN], by decide, fun _ _ _ _ _ => by simp [rightB]⟩
theorem rk_22 {w : World} {r : Nat} {v : Value} (h : PV w r v 0 0) : RuleOk w r 22 v := .inl ⟨_, _, h, fun _ _ => by simp [takesN], by decide, fun _ _ _ _ _ => by simp [rightB]⟩
theorem rk_23 {w : World} {r : Nat} {v : Value} (h : PV w r v 1 0) : RuleOk w r 23 v := .inl ⟨_, _, h, fun _ _ => by simp [takesN], by decide, fun _ _ _ _ _ => by simp [rightB]⟩
theorem rk_24 {w : World} {r : Nat} {v : Value} (h : PV w r v 1 1) : RuleOk w r 24 v := .inl ⟨_, _, h, fun _ _ => by simp [takesN], by decide, fun _ _ _ _ _ => by simp [rightB]⟩
theorem rk_25 {w : World} {r : Nat} {v : Value} (h : PV w r v 1 1) : RuleOk w r 25 v := .inl ⟨_, _, h, fun _ _ => by simp [takesN], by decide, fun _ _ _ _ _ => by simp [rightB]⟩
theorem rk_26 {w : World} {r : Nat} {v : Value} (h : PV w r v 0 0) : RuleOk w r 26 v := .inl ⟨_, _, h, fun _ _ => by simp [takesN], by decide, fun _ _ _ _ _ => by simp [rightB]⟩
theorem rk_27 {w : World} {r : Nat} {v : Value} (h : PV w r v 0 0) : RuleOk w r 27 v := .inl ⟨_, _, h, fun _ _ => by simp [takesN], by decide, fun _ _ _ _ _ => by simp [rightB]⟩
theorem rk_28 {w : World} {r : Nat} {v : Value} (h : PV w r v 0 0) : RuleOk w r 28 v := .inl ⟨_, _, h, fun _ _ => by simp [takesN], by decide, fun _ _ _ _ _ => by simp [rightB]⟩
theorem rk_29 {w : World} {r : Nat} {v : Value} (h : PV w r v 0 0) : RuleOk w r 29 v := .inl ⟨_, _, h, fun _ _ => by simp [takesN], by decide, fun _ _ _ _ _ => by simp [rightB]⟩
theorem rk_30 {w : World} {r : Nat} {v : Value} (h : PV w r v 0 0) : RuleOk w r 30 v := .inl ⟨_, _, h, fun _ _ => by simp [takesN], by decide, fun _ _ _ _ _ => by simp [rightB]⟩
theorem rk_31 {w : World} {r : Nat} {v : Value} (h : PV w r v 1 1) : RuleOk w r 31 v := .inl ⟨_, _, h, fun _ _ => by simp [takesN], by decide, fun _ _ _ _ _ => by simp [rightB]⟩
theorem rk_32 {w : World} {r : Nat} {v : Value} (h : PV w r v 1 1) : RuleOk w r 32 v := .inl ⟨_, _, h, fun _ _ => by simp [takesN], by decide, fun _ _ _ _ _ => by simp [rightB]⟩
theorem rk_33 {w : World} {r : Nat} {v : Value} (h : PV w r v 2 1) : RuleOk w r 33 v := .inl ⟨_, _, h, fun _ _ => by simp [takesN], by decide, fun _ _ _ _ _ => by simp [rightB]⟩
theorem rk_1 {w : World} {r : Nat} {v : Value} (h : BV w r v 0 1 (fn 52)) : RuleOk w r 1 v := .inr (.inl ⟨_, _, _, h, by simp [LimOk], fun _ _ => by simp [takesN], by decide⟩)
theorem rk_2 {w : World} {r : Nat} {v : Value} (h : BV w r v 0 1 (fn 53)) : RuleOk w r 2 v := .inr (.inl ⟨_, _, _, h, by simp [LimOk], fun _ _ => by simp [takesN], by decide⟩)
theorem rk_3 {w : World} {r : Nat} {v : Value} (h : BV w r v 0 1 (fn 50)) : RuleOk w r 3 v := .inr (.inl ⟨_, _, _, h, by simp [LimOk], fun _ _ => by simp [takesN], by decide⟩)
theorem rk_4 {w : World} {r : Nat} {v : Value} (h : BV w r v 0 1 (fn 54)) : RuleOk w r 4 v := .inr (.inl ⟨_, _, _, h, by simp [LimOk], fun _ _ => by simp [takesN], by decide⟩)
theorem rk_6 {w : World} {r : Nat} {v : Value} (h : BV w r v 0 1 (fn 49)) : RuleOk w r 6 v := .inr (.inl ⟨_, _, _, h, by simp [LimOk], fun _ _ => by simp [takesN], by decide⟩)
theorem rk_7 {w : World} {r : Nat} {v : Value} (h : BV w r v 1 0 (fn 50)) : RuleOk w r 7 v := .inr (.inl ⟨_, _, _, h, by simp [LimOk], fun _ _ => by simp [takesN], by decide⟩)
theorem rk_8 {w : World} {r : Nat} {v : Value} (h : BV w r v 1 0 (fn 49)) : RuleOk w r 8 v := .inr (.inl ⟨_, _, _, h, by simp [LimOk], fun _ _ => by simp [takesN], by decide⟩)
theorem rk_12 {w : World} {r : Nat} {v : Value} (h : BV w r v 1 1 (fn 59)) : RuleOk w r 12 v := .inr (.inl ⟨_, _, _, h, by simp [LimOk], fun _ _ => by simp [takesN], by decide⟩)
theorem rk_19 {w : World} {r : Nat} {v : Value} (h : BV w r v 2 1 (fn 60)) : RuleOk w r 19 v := .inr (.inl ⟨_, _, _, h, by simp [LimOk], fun _ _ => by simp [takesN], by decide⟩)
theorem rk_5 {w : World} {r : Nat} : RuleOk w r 5 (fn 55) := .inr (.inr (.inl ⟨rfl, rfl⟩))
theorem rk_10 {w : World} {r : Nat} : RuleOk w r 10 (fn 57) := .inr (.inr (.inr (.inl ⟨rfl, rfl⟩)))
theorem rk_11 {w : World} {r : Nat} : RuleOk w r 11 (fn 58) := .inr (.inr (.inr (.inr ⟨rfl, rfl⟩)))
def RulesRes (w : World) (e : Ending) (w' : World) : Prop := ∃ r vs, e = .returned (.map (some r)) ∧ RI w w' r vs ∧ vs.length = 33
set_option maxHeartbeats 16000000 in
theorem rules_c (w : World) : Calls Try.prog 31 #[] w (RulesRes w) := by
  have hmm := @run_makeMap Try.prog
  have HI : Hid (RI w (w.alloc (.map #[] 0)) w.heap.size []) := Lib.hid ⟨heap_alloc_new w _, fun j v hv => by simp at hv, balloc w _, Nat.le_refl _⟩
  have HL : Hid (([] : List Value).length = 0) := Lib.hid rfl
  go_enter Try.func31, Try.ntmps31
  go_wp2_with (first
    | (go_at_call 51; have hll : _ = 0 := HL.out; refine (below_c _ _ _ _ w.heap.size HI.out.lt _ rfl).mono ?_; rintro e w1 ⟨v, rfl, hv, hb⟩; (try clear hrun); (try clear hrun2); (try clear hrun3); obtain ⟨w2, vs2, hrun, hri, hln⟩ := put_next (HI.out.keep hb) hll 1 (by rfl) v (rk_1 hv); clear hll hv hb; replace HI := Lib.hid hri; replace HL := Lib.hid hln; clear hri hln)
    | (go_at_call 51; have hll : _ = 1 := HL.out; refine (below_c _ _ _ _ w.heap.size HI.out.lt _ rfl).mono ?_; rintro e w1 ⟨v, rfl, hv, hb⟩; (try clear hrun); (try clear hrun2); (try clear hrun3); obtain ⟨w2, vs2, hrun, hri, hln⟩ := put_next (HI.out.keep hb) hll 2 (by rfl) v (rk_2 hv); clear hll hv hb; replace HI := Lib.hid hri; replace HL := Lib.hid hln; clear hri hln)
    | (go_at_call 51; have hll : _ = 2 := HL.out; refine (below_c _ _ _ _ w.heap.size HI.out.lt _ rfl).mono ?_; rintro e w1 ⟨v, rfl, hv, hb⟩; (try clear hrun); (try clear hrun2); (try clear hrun3); obtain ⟨w2, vs2, hrun, hri, hln⟩ := put_next (HI.out.keep hb) hll 3 (by rfl) v (rk_3 hv); clear hll hv hb; replace HI := Lib.hid hri; replace HL := Lib.hid hln; clear hri hln)
    | (go_at_call 51; have hll : _ = 3 := HL.out; refine (below_c _ _ _ _ w.heap.size HI.out.lt _ rfl).mono ?_; rintro e w1 ⟨v, rfl, hv, hb⟩; (try clear hrun); (try clear hrun2); (try clear hrun3); obtain ⟨w2, vs2, hrun, hri, hln⟩ := put_next (HI.out.keep hb) hll 4 (by rfl) v (rk_4 hv); clear hll hv hb; obtain ⟨w2, vs2, hrun2, hri, hln⟩ := put_next hri hln 5 (by rfl) (fn 55) rk_5; replace HI := Lib.hid hri; replace HL := Lib.hid hln; clear hri hln)
    | (go_at_call 51; have hll : _ = 5 := HL.out; refine (below_c _ _ _ _ w.heap.size HI.out.lt _ rfl).mono ?_; rintro e w1 ⟨v, rfl, hv, hb⟩; (try clear hrun); (try clear hrun2); (try clear hrun3); obtain ⟨w2, vs2, hrun, hri, hln⟩ := put_next (HI.out.keep hb) hll 6 (by rfl) v (rk_6 hv); clear hll hv hb; replace HI := Lib.hid hri; replace HL := Lib.hid hln; clear hri hln)
    | (go_at_call 51; have hll : _ = 6 := HL.out; refine (below_c _ _ _ _ w.heap.size HI.out.lt _ rfl).mono ?_; rintro e w1 ⟨v, rfl, hv, hb⟩; (try clear hrun); (try clear hrun2); (try clear hrun3); obtain ⟨w2, vs2, hrun, hri, hln⟩ := put_next (HI.out.keep hb) hll 7 (by rfl) v (rk_7 hv); clear hll hv hb; replace HI := Lib.hid hri; replace HL := Lib.hid hln; clear hri hln)
    | (go_at_call 51; have hll : _ = 7 := HL.out; refine (below_c _ _ _ _ w.heap.size HI.out.lt _ rfl).mono ?_; rintro e w1 ⟨v, rfl, hv, hb⟩; (try clear hrun); (try clear hrun2); (try clear hrun3); obtain ⟨w2, vs2, hrun, hri, hln⟩ := put_next (HI.out.keep hb) hll 8 (by rfl) v (rk_8 hv); clear hll hv hb; replace HI := Lib.hid hri; replace HL := Lib.hid hln; clear hri hln)
    | (go_at_call 56; have hll : _ = 8 := HL.out; refine (plain_c _ _ _ w.heap.size HI.out.lt).mono ?_; rintro e w1 ⟨v, rfl, hv, hb⟩; (try clear hrun); (try clear hrun2); (try clear hrun3); obtain ⟨w2, vs2, hrun, hri, hln⟩ := put_next (HI.out.keep hb) hll 9 (by rfl) v (rk_9 hv); clear hll hv hb; obtain ⟨w2, vs2, hrun2, hri, hln⟩ := put_next hri hln 10 (by rfl) (fn 57) rk_10; obtain ⟨w2, vs2, hrun3, hri, hln⟩ := put_next hri hln 11 (by rfl) (fn 58) rk_11; replace HI := Lib.hid hri; replace HL := Lib.hid hln; clear hri hln)
    | (go_at_call 51; have hll : _ = 11 := HL.out; refine (below_c _ _ _ _ w.heap.size HI.out.lt _ rfl).mono ?_; rintro e w1 ⟨v, rfl, hv, hb⟩; (try clear hrun); (try clear hrun2); (try clear hrun3); obtain ⟨w2, vs2, hrun, hri, hln⟩ := put_next (HI.out.keep hb) hll 12 (by rfl) v (rk_12 hv); clear hll hv hb; replace HI := Lib.hid hri; replace HL := Lib.hid hln; clear hri hln)
    | (go_at_call 56; have hll : _ = 12 := HL.out; refine (plain_c _ _ _ w.heap.size HI.out.lt).mono ?_; rintro e w1 ⟨v, rfl, hv, hb⟩; (try clear hrun); (try clear hrun2); (try clear hrun3); obtain ⟨w2, vs2, hrun, hri, hln⟩ := put_next (HI.out.keep hb) hll 13 (by rfl) v (rk_13 hv); clear hll hv hb; replace HI := Lib.hid hri; replace HL := Lib.hid hln; clear hri hln)
    | (go_at_call 56; have hll : _ = 13 := HL.out; refine (plain_c _ _ _ w.heap.size HI.out.lt).mono ?_; rintro e w1 ⟨v, rfl, hv, hb⟩; (try clear hrun); (try clear hrun2); (try clear hrun3); obtain ⟨w2, vs2, hrun, hri, hln⟩ := put_next (HI.out.keep hb) hll 14 (by rfl) v (rk_14 hv); clear hll hv hb; replace HI := Lib.hid hri; replace HL := Lib.hid hln; clear hri hln)
    | (go_at_call 56; have hll : _ = 14 := HL.out; refine (plain_c _ _ _ w.heap.size HI.out.lt).mono ?_; rintro e w1 ⟨v, rfl, hv, hb⟩; (try clear hrun); (try clear hrun2); (try clear hrun3); obtain ⟨w2, vs2, hrun, hri, hln⟩ := put_next (HI.out.keep hb) hll 15 (by rfl) v (rk_15 hv); clear hll hv hb; replace HI := Lib.hid hri; replace HL := Lib.hid hln; clear hri hln)
    | (go_at_call 56; have hll : _ = 15 := HL.out; refine (plain_c _ _ _ w.heap.size HI.out.lt).mono ?_; rintro e w1 ⟨v, rfl, hv, hb⟩; (try clear hrun); (try clear hrun2); (try clear hrun3); obtain ⟨w2, vs2, hrun, hri, hln⟩ := put_next (HI.out.keep hb) hll 16 (by rfl) v (rk_16 hv); clear hll hv hb; replace HI := Lib.hid hri; replace HL := Lib.hid hln; clear hri hln)
    | (go_at_call 56; have hll : _ = 16 := HL.out; refine (plain_c _ _ _ w.heap.size HI.out.lt).mono ?_; rintro e w1 ⟨v, rfl, hv, hb⟩; (try clear hrun); (try clear hrun2); (try clear hrun3); obtain ⟨w2, vs2, hrun, hri, hln⟩ := put_next (HI.out.keep hb) hll 17 (by rfl) v (rk_17 hv); clear hll hv hb; replace HI := Lib.hid hri; replace HL := Lib.hid hln; clear hri hln)
    | (go_at_call 56; have hll : _ = 17 := HL.out; refine (plain_c _ _ _ w.heap.size HI.out.lt).mono ?_; rintro e w1 ⟨v, rfl, hv, hb⟩; (try clear hrun); (try clear hrun2); (try clear hrun3); obtain ⟨w2, vs2, hrun, hri, hln⟩ := put_next (HI.out.keep hb) hll 18 (by rfl) v (rk_18 hv); clear hll hv hb; replace HI := Lib.hid hri; replace HL := Lib.hid hln; clear hri hln)
    | (go_at_call 51; have hll : _ = 18 := HL.out; refine (below_c _ _ _ _ w.heap.size HI.out.lt _ rfl).mono ?_; rintro e w1 ⟨v, rfl, hv, hb⟩; (try clear hrun); (try clear hrun2); (try clear hrun3); obtain ⟨w2, vs2, hrun, hri, hln⟩ := put_next (HI.out.keep hb) hll 19 (by rfl) v (rk_19 hv); clear hll hv hb; replace HI := Lib.hid hri; replace HL := Lib.hid hln; clear hri hln)
    | (go_at_call 56; have hll : _ = 19 := HL.out; refine (plain_c _ _ _ w.heap.size HI.out.lt).mono ?_; rintro e w1 ⟨v, rfl, hv, hb⟩; (try clear hrun); (try clear hrun2); (try clear hrun3); obtain ⟨w2, vs2, hrun, hri, hln⟩ := put_next (HI.out.keep hb) hll 20 (by rfl) v (rk_20 hv); clear hll hv hb; replace HI := Lib.hid hri; replace HL := Lib.hid hln; clear hri hln)
    | (go_at_call 56; have hll : _ = 20 := HL.out; refine (plain_c _ _ _ w.heap.size HI.out.lt).mono ?_; rintro e w1 ⟨v, rfl, hv, hb⟩; (try clear hrun); (try clear hrun2); (try clear hrun3); obtain ⟨w2, vs2, hrun, hri, hln⟩ := put_next (HI.out.keep hb) hll 21 (by rfl) v (rk_21 hv); clear hll hv hb; replace HI := Lib.hid hri; replace HL := Lib.hid hln; clear hri hln)
    | (go_at_call 56; have hll : _ = 21 := HL.out; refine (plain_c _ _ _ w.heap.size HI.out.lt).mono ?_; rintro e w1 ⟨v, rfl, hv, hb⟩; (try clear hrun); (try clear hrun2); (try clear hrun3); obtain ⟨w2, vs2, hrun, hri, hln⟩ := put_next (HI.out.keep hb) hll 22 (by rfl) v (rk_22 hv); clear hll hv hb; replace HI := Lib.hid hri; replace HL := Lib.hid hln; clear hri hln)
    | (go_at_call 56; have hll : _ = 22 := HL.out; refine (plain_c _ _ _ w.heap.size HI.out.lt).mono ?_; rintro e w1 ⟨v, rfl, hv, hb⟩; (try clear hrun); (try clear hrun2); (try clear hrun3); obtain ⟨w2, vs2, hrun, hri, hln⟩ := put_next (HI.out.keep hb) hll 23 (by rfl) v (rk_23 hv); clear hll hv hb; replace HI := Lib.hid hri; replace HL := Lib.hid hln; clear hri hln)
    | (go_at_call 56; have hll : _ = 23 := HL.out; refine (plain_c _ _ _ w.heap.size HI.out.lt).mono ?_; rintro e w1 ⟨v, rfl, hv, hb⟩; (try clear hrun); (try clear hrun2); (try clear hrun3); obtain ⟨w2, vs2, hrun, hri, hln⟩ := put_next (HI.out.keep hb) hll 24 (by rfl) v (rk_24 hv); clear hll hv hb; replace HI := Lib.hid hri; replace HL := Lib.hid hln; clear hri hln)
    | (go_at_call 56; have hll : _ = 24 := HL.out; refine (plain_c _ _ _ w.heap.size HI.out.lt).mono ?_; rintro e w1 ⟨v, rfl, hv, hb⟩; (try clear hrun); (try clear hrun2); (try clear hrun3); obtain ⟨w2, vs2, hrun, hri, hln⟩ := put_next (HI.out.keep hb) hll 25 (by rfl) v (rk_25 hv); clear hll hv hb; replace HI := Lib.hid hri; replace HL := Lib.hid hln; clear hri hln)
    | (go_at_call 56; have hll : _ = 25 := HL.out; refine (plain_c _ _ _ w.heap.size HI.out.lt).mono ?_; rintro e w1 ⟨v, rfl, hv, hb⟩; (try clear hrun); (try clear hrun2); (try clear hrun3); obtain ⟨w2, vs2, hrun, hri, hln⟩ := put_next (HI.out.keep hb) hll 26 (by rfl) v (rk_26 hv); clear hll hv hb; replace HI := Lib.hid hri; replace HL := Lib.hid hln; clear hri hln)
    | (go_at_call 56; have hll : _ = 26 := HL.out; refine (plain_c _ _ _ w.heap.size HI.out.lt).mono ?_; rintro e w1 ⟨v, rfl, hv, hb⟩; (try clear hrun); (try clear hrun2); (try clear hrun3); obtain ⟨w2, vs2, hrun, hri, hln⟩ := put_next (HI.out.keep hb) hll 27 (by rfl) v (rk_27 hv); clear hll hv hb; replace HI := Lib.hid hri; replace HL := Lib.hid hln; clear hri hln)
    | (go_at_call 56; have hll : _ = 27 := HL.out; refine (plain_c _ _ _ w.heap.size HI.out.lt).mono ?_; rintro e w1 ⟨v, rfl, hv, hb⟩; (try clear hrun); (try clear hrun2); (try clear hrun3); obtain ⟨w2, vs2, hrun, hri, hln⟩ := put_next (HI.out.keep hb) hll 28 (by rfl) v (rk_28 hv); clear hll hv hb; replace HI := Lib.hid hri; replace HL := Lib.hid hln; clear hri hln)
    | (go_at_call 56; have hll : _ = 28 := HL.out; refine (plain_c _ _ _ w.heap.size HI.out.lt).mono ?_; rintro e w1 ⟨v, rfl, hv, hb⟩; (try clear hrun); (try clear hrun2); (try clear hrun3); obtain ⟨w2, vs2, hrun, hri, hln⟩ := put_next (HI.out.keep hb) hll 29 (by rfl) v (rk_29 hv); clear hll hv hb; replace HI := Lib.hid hri; replace HL := Lib.hid hln; clear hri hln)
    | (go_at_call 56; have hll : _ = 29 := HL.out; refine (plain_c _ _ _ w.heap.size HI.out.lt).mono ?_; rintro e w1 ⟨v, rfl, hv, hb⟩; (try clear hrun); (try clear hrun2); (try clear hrun3); obtain ⟨w2, vs2, hrun, hri, hln⟩ := put_next (HI.out.keep hb) hll 30 (by rfl) v (rk_30 hv); clear hll hv hb; replace HI := Lib.hid hri; replace HL := Lib.hid hln; clear hri hln)
    | (go_at_call 56; have hll : _ = 30 := HL.out; refine (plain_c _ _ _ w.heap.size HI.out.lt).mono ?_; rintro e w1 ⟨v, rfl, hv, hb⟩; (try clear hrun); (try clear hrun2); (try clear hrun3); obtain ⟨w2, vs2, hrun, hri, hln⟩ := put_next (HI.out.keep hb) hll 31 (by rfl) v (rk_31 hv); clear hll hv hb; replace HI := Lib.hid hri; replace HL := Lib.hid hln; clear hri hln)
    | (go_at_call 56; have hll : _ = 31 := HL.out; refine (plain_c _ _ _ w.heap.size HI.out.lt).mono ?_; rintro e w1 ⟨v, rfl, hv, hb⟩; (try clear hrun); (try clear hrun2); (try clear hrun3); obtain ⟨w2, vs2, hrun, hri, hln⟩ := put_next (HI.out.keep hb) hll 32 (by rfl) v (rk_32 hv); clear hll hv hb; replace HI := Lib.hid hri; replace HL := Lib.hid hln; clear hri hln)
    | (go_at_call 56; have hll : _ = 32 := HL.out; refine (plain_c _ _ _ w.heap.size HI.out.lt).mono ?_; rintro e w1 ⟨v, rfl, hv, hb⟩; (try clear hrun); (try clear hrun2); (try clear hrun3); obtain ⟨w2, vs2, hrun, hri, hln⟩ := put_next (HI.out.keep hb) hll 33 (by rfl) v (rk_33 hv); clear hll hv hb; replace HI := Lib.hid hri; replace HL := Lib.hid hln; clear hri hln))
  go_ret
  exact ⟨_, _, rfl, HI.out, HL.out⟩
end Go.Proofs.Ytkhdkepjhifffaa.VJ
