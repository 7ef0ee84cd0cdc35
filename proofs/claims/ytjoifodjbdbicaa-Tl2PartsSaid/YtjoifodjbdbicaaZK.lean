/- ZK: several texts in one (VC VD). -/
import Derived.Test.YtjoifodjbdbicaaZJ

/- A transaction from its beginning to its end, plainly. -/
namespace Go.Proofs.Ytjoifodjbdbicaa.VC
open Go.RowKit Go.Proofs.Ytjoifodjbdbicaa.RG Go.Proofs.Ytjoifodjbdbicaa.UA Go.Proofs.Ytjoifodjbdbicaa.UB Go.Proofs.Ytjoifodjbdbicaa.UD Go.Proofs.Ytjoifodjbdbicaa.UE Go.Proofs.Ytjoifodjbdbicaa.UG Go.Proofs.Ytjoifodjbdbicaa.UJ Go.Proofs.Ytjoifodjbdbicaa.UL Go.Proofs.Ytjoifodjbdbicaa.UM Go.Proofs.Ytjoifodjbdbicaa.UP Go.Proofs.Ytjoifodjbdbicaa.UQ Go.Proofs.Ytjoifodjbdbicaa.UR Go.Proofs.Ytjoifodjbdbicaa.US Go.Proofs.Ytjoifodjbdbicaa.UT Go.Proofs.Ytjoifodjbdbicaa.UU Go.Proofs.Ytjoifodjbdbicaa.UW Go.Proofs.Ytjoifodjbdbicaa.UX Go.Proofs.Ytjoifodjbdbicaa.UZ Go.Proofs.Ytjoifodjbdbicaa.VA
set_option linter.unusedVariables false
set_option maxRecDepth 100000
set_option maxRecDepth 100000

/-- Few writes, and at least four vars. -/
structure Pl (k : Nat) (E : Eg) : Prop where
  pl : ∀ x, x ∈ E.T → x.puts.length ≤ k
  v4 : 4 ≤ E.V.length
theorem pl_of {m : Nat} {E : Eg} (hg : Wg m E) (h4 : 4 ≤ E.V.length) : Pl m E := ⟨fun x hx => (hg.wf.tx x hx).puts, h4⟩
theorem pl_set {k : Nat} {E : Eg} (h : Pl k E) (t : Int) {V : List Vr} {c : Int} {x : Tx} (hV : V.length = E.V.length) (hx : x.puts.length ≤ k) : Pl k { setT E t x with V := V, clock := c } :=
  ⟨fun y hy => by
    rcases List.mem_or_eq_of_mem_set (show y ∈ E.T.set _ _ from hy) with e | rfl
    · exact h.pl y e
    · exact hx, by show 4 ≤ V.length; rw [hV]; exact h.v4⟩
theorem pl_step {k : Nat} {E : Eg} (h : Pl k E) (t : Int) : Pl k (stepR E t).1 := by
  unfold stepR
  split
  · exact h
  · next x hx =>
    have hp := h.pl x (thR_mem hx)
    split
    · exact h
    · split
      · split
        · exact h
        · split
          · exact pl_set (x := { x with commits := true, done := x.done + 1 }) (c := E.clock) h t (by rw [List.length_set]) hp
          · exact pl_set (x := tx0) (c := E.clock) h t (by rw [List.length_set]) (Nat.zero_le _)
      · split
        · split
          · exact pl_set (V := E.V) (c := E.clock) h t rfl hp
          · exact pl_set (x := { x with commits := true }) (c := E.clock) h t (by rw [List.length_set]) hp
        · split
          · split
            · exact pl_set (V := E.V) (c := E.clock) h t rfl (Nat.zero_le _)
            · exact pl_set (V := E.V) (x := { x with commits := true, stamp := E.clock + 1 }) (c := E.clock + 1) h t rfl hp
          · exact pl_set (V := E.V) (c := E.clock) h t rfl hp
theorem pl_abort {k : Nat} {E : Eg} (h : Pl k E) (t : Int) : Pl k (abortR E t).1 := by
  unfold abortR
  split
  · exact h
  · split
    · exact h
    · exact pl_set (x := tx0) (c := E.clock) h t (by rw [List.length_map]) (Nat.zero_le _)
theorem left_pl {k : Nat} {E : Eg} (h : Pl k E) (t : Int) : left E t ≤ k + 1 := by
  unfold left
  split
  · next x hx =>
    split
    · split
      · have h1 := sortR_len x.puts 1
        have h2 := h.pl x (thR_mem hx)
        omega
      · omega
    · omega
  · omega
/-- Who has none has none behind what another one does. -/
theorem has_set {E : Eg} {t : Int} {y : Tx} (hy : thR E t = some y) {V : List Vr} {c : Int} {x : Tx} {u : Int} (hu : hasR E u = false) (hx : u = t → x.is = false) : hasR { setT E t x with V := V, clock := c } u = false := by
  unfold hasR
  rw [thR_set hy]
  by_cases e : u = t
  · rw [if_pos e]; exact hx e
  · rw [if_neg e]; exact hu
theorem no_of {E : Eg} {t : Int} {x : Tx} (hx : thR E t = some x) (hi : x.is = true) {u : Int} (hu : hasR E u = false) : ¬ u = t := fun e => by
  subst e
  unfold hasR at hu
  rw [hx] at hu
  simp only at hu
  rw [hi] at hu
  cases hu
theorem has_abort {E : Eg} {t u : Int} (hu : hasR E u = false) : hasR (abortR E t).1 u = false := by
  unfold abortR
  split
  · exact hu
  · next x hx =>
    split
    · exact hu
    · exact has_set (c := E.clock) hx hu (fun _ => rfl)
theorem has_step {E : Eg} {t u : Int} (hu : hasR E u = false) : hasR (stepR E t).1 u = false := by
  unfold stepR
  split
  · exact hu
  · next x hx =>
    split
    · exact hu
    · next c1 =>
      have hi : x.is = true := by cases e : x.is <;> simp [e] at c1 ⊢
      have hne := no_of hx hi hu
      split
      · split
        · exact hu
        · split
          · exact has_set (x := { x with commits := true, done := x.done + 1 }) (c := E.clock) hx hu (fun e => absurd e hne)
          · exact has_set (x := tx0) (c := E.clock) hx hu (fun e => absurd e hne)
      · split
        · split
          · exact has_set (V := E.V) (c := E.clock) hx hu (fun e => absurd e hne)
          · exact has_set (x := { x with commits := true }) (c := E.clock) hx hu (fun e => absurd e hne)
        · split
          · split
            · exact has_set (V := E.V) (c := E.clock) hx hu (fun e => absurd e hne)
            · exact has_set (V := E.V) (x := { x with commits := true, stamp := E.clock + 1 }) (c := E.clock + 1) hx hu (fun e => absurd e hne)
          · exact has_set (V := E.V) (c := E.clock) hx hu (fun e => absurd e hne)
theorem v4_deed {E : Eg} (h : 4 ≤ E.V.length) (d : Dd) : 4 ≤ (deedR E d).1.V.length := by
  unfold deedR
  split
  · unfold beginR; split
    · split <;> exact h
    · exact h
  split
  · unfold readR; split
    · split <;> exact h
    · exact h
  split
  · unfold writeR; split
    · split <;> exact h
    · exact h
  split
  · unfold stepR
    split
    · exact h
    · split
      · exact h
      · split
        · split
          · exact h
          · split
            · show 4 ≤ (E.V.set _ _).length; rw [List.length_set]; exact h
            · show 4 ≤ (E.V.set _ _).length; rw [List.length_set]; exact h
        · split
          · split
            · exact h
            · show 4 ≤ (E.V.set _ _).length; rw [List.length_set]; exact h
          · split
            · split <;> exact h
            · exact h
  split
  · unfold partR; split
    · split <;> exact h
    · exact h
  split
  · unfold shutR; split
    · split <;> exact h
    · exact h
  split
  · unfold shutR; split
    · split <;> exact h
    · exact h
  split
  · unfold abortR; split
    · exact h
    · split
      · exact h
      · show 4 ≤ (E.V.map _).length; rw [List.length_map]; exact h
  split
  · unfold makeR
    split
    · exact h
    · show 4 ≤ (E.V ++ [_]).length
      rw [List.length_append]
      omega
  split <;> exact h
theorem v4_run : ∀ (l : List Dd) {E : Eg}, 4 ≤ E.V.length → 4 ≤ (runE E l).V.length
  | [], E, h => h
  | d :: l, E, h => v4_run l (v4_deed h d)
/-! ## One transaction alone -/
/-- An engine, in which thread 3 has another transaction, and the vars and the clock are others. -/
def at3 (E : Eg) (x : Tx) (V : List Vr) (c : Int) : Eg := ⟨c, V, E.T.set 3 x⟩
theorem at3_th {E : Eg} (h8 : E.T.length = 8) (x : Tx) (V : List Vr) (c : Int) : thR (at3 E x V c) 3 = some x := by
  show (E.T.set 3 x)[3]? = some x
  rw [List.getElem?_set_self (by omega)]
theorem at3_vr {E : Eg} (x : Tx) (V : List Vr) (c : Int) (i : Nat) : vrR (at3 E x V c) (i : Int) = V[i]? := vrR_nat _ _
theorem at3_set {E : Eg} (x y : Tx) (V V' : List Vr) (c c' : Int) : ({ setT (at3 E x V c) 3 y with V := V', clock := c' } : Eg) = at3 E y V' c' := by
  show (⟨c', V', (E.T.set 3 x).set 3 y⟩ : Eg) = ⟨c', V', E.T.set 3 y⟩
  rw [List.set_set]
theorem at3_set0 {E : Eg} (x y : Tx) (V : List Vr) (c : Int) : setT (at3 E x V c) 3 y = at3 E y V c := at3_set x y V V c c
theorem sort_one (i v : Int) (hi : 0 ≤ i) : sortR [⟨i, v, 1⟩] 1 = [⟨i, v, 1⟩] := by
  have h1 : nextR [(⟨i, v, 1⟩ : Pt)] 1 (-1) = some ⟨i, v, 1⟩ := by
    show nextS 1 (-1) none ⟨i, v, 1⟩ = _
    unfold nextS
    rw [if_pos ⟨rfl, show (-1 : Int) < i by omega⟩]
  have h2 : nextR [(⟨i, v, 1⟩ : Pt)] 1 i = none := by
    show nextS 1 i none ⟨i, v, 1⟩ = _
    unfold nextS
    rw [if_neg (fun h => by have := h.2; simp only at this; omega)]
  show sortF [⟨i, v, 1⟩] 1 2 (-1) = _
  unfold sortF
  rw [h1]
  simp only
  unfold sortF
  rw [h2]
structure Serial (E : Eg) (i : Nat) (u : Vr) (v : Int) : Prop where
  val : valueR E (i : Int) = (u.val, 0)
  beg : beginR E 3 = (at3 E (tx1 E.clock) E.V E.clock, 0)
  rd1 : readR (at3 E (tx1 E.clock) E.V E.clock) 3 (i : Int) = (at3 E { tx1 E.clock with reads := [(i : Int)] } E.V E.clock, u.val, 0)
  wr : writeR (at3 E { tx1 E.clock with reads := [(i : Int)] } E.V E.clock) 3 (i : Int) v = (at3 E { tx1 E.clock with reads := [(i : Int)], puts := [⟨(i : Int), v, 1⟩] } E.V E.clock, 0)
  rd2 : readR (at3 E { tx1 E.clock with reads := [(i : Int)], puts := [⟨(i : Int), v, 1⟩] } E.V E.clock) 3 (i : Int) = (at3 E { tx1 E.clock with reads := [(i : Int)], puts := [⟨(i : Int), v, 1⟩] } E.V E.clock, v, 0)
  st1 : stepR (at3 E { tx1 E.clock with reads := [(i : Int)], puts := [⟨(i : Int), v, 1⟩] } E.V E.clock) 3 = (at3 E { tx1 E.clock with reads := [(i : Int)], puts := [⟨(i : Int), v, 1⟩], commits := true } (E.V.set i { u with lock := 3 }) E.clock, 1, 0)
  st2 : stepR (at3 E { tx1 E.clock with reads := [(i : Int)], puts := [⟨(i : Int), v, 1⟩], commits := true } (E.V.set i { u with lock := 3 }) E.clock) 3 = (at3 E { tx1 E.clock with reads := [(i : Int)], puts := [⟨(i : Int), v, 1⟩], commits := true, stamp := E.clock + 1 } (E.V.set i { u with lock := 3 }) (E.clock + 1), 2, 0)
  st3 : stepR (at3 E { tx1 E.clock with reads := [(i : Int)], puts := [⟨(i : Int), v, 1⟩], commits := true, stamp := E.clock + 1 } (E.V.set i { u with lock := 3 }) (E.clock + 1)) 3 = (at3 E tx0 (E.V.set i ⟨v, E.clock + 1, -1⟩) (E.clock + 1), 4, 0)
  now : valueR (at3 E tx0 (E.V.set i ⟨v, E.clock + 1, -1⟩) (E.clock + 1)) (i : Int) = (v, 0)
theorem serial {E : Eg} (h8 : E.T.length = 8) (hw : Wv E) {i : Nat} {u : Vr} (hu : E.V[i]? = some u) (hl : u.lock < 0) (hn : hasR E 3 = false) (v : Int) : Serial E i u v := by
  have hv := hw.ver u (mem_of hu)
  have hc := hw.ck
  have hi := (List.getElem?_eq_some_iff.1 hu).1
  obtain ⟨x0, hx0⟩ : ∃ x, thR E 3 = some x := ⟨_, List.getElem?_eq_getElem (show 3 < E.T.length by omega)⟩
  have hxi : x0.is = false := by
    unfold hasR at hn
    rw [hx0] at hn
    exact hn
  have hbest : bestR (i : Int) [(⟨(i : Int), v, 1⟩ : Pt)] = some ⟨(i : Int), v, 1⟩ := by
    show bestS (i : Int) none ⟨(i : Int), v, 1⟩ = _
    unfold bestS
    rw [if_pos rfl]
  have hsort := sort_one (i : Int) v (by omega)
  have hu2 : (E.V.set i { u with lock := 3 })[i]? = some { u with lock := 3 } := List.getElem?_set_self hi
  have hlk : lookR E.clock 3 u = 0 := by unfold lookR; rw [if_neg (by omega), if_neg (by omega)]
  have hlk2 : lookR E.clock 3 { u with lock := 3 } = 0 := by unfold lookR; rw [if_neg (fun h => h.2 rfl), if_neg (show ¬ E.clock < u.ver by omega)]
  refine ⟨?_, ?_, ?_, ?_, ?_, ?_, ?_, ?_, ?_⟩
  · unfold valueR; rw [vrR_nat, hu]
  · unfold beginR
    rw [hx0]
    simp only
    rw [hxi]
    rfl
  · have hr : readX (tx1 E.clock) u 3 (i : Int) = ([(i : Int)], u.val, 0) := readX_new rfl hlk (by intro h; cases h)
    unfold readR
    rw [at3_th h8, at3_vr, hu]
    simp only
    rw [if_pos (show opn (tx1 E.clock) = true from rfl), hr, at3_set0]
  · unfold writeR
    rw [at3_th h8, at3_vr, hu]
    simp only
    rw [if_pos (show opn { tx1 E.clock with reads := [(i : Int)] } = true from rfl), at3_set0]
    rfl
  · have hr : readX { tx1 E.clock with reads := [(i : Int)], puts := [⟨(i : Int), v, 1⟩] } u 3 (i : Int) = ([(i : Int)], v, 0) := readX_some (x := { tx1 E.clock with reads := [(i : Int)], puts := [⟨(i : Int), v, 1⟩] }) (p := ⟨(i : Int), v, 1⟩) hbest
    unfold readR
    rw [at3_th h8, at3_vr, hu]
    simp only
    rw [if_pos (show opn { tx1 E.clock with reads := [(i : Int)], puts := [⟨(i : Int), v, 1⟩] } = true from rfl), hr, at3_set0]
  · have hf : firstR E.V 3 [(⟨(i : Int), v, 1⟩ : Pt)] = some ((i : Int), u) := by
      unfold firstR
      simp only
      rw [Int.toNat_natCast, hu]
      simp only
      rw [if_neg (by omega)]
    unfold stepR
    rw [at3_th h8]
    simp only
    rw [if_neg (by intro h; rcases h with h | h; cases h; exact absurd h (show ¬ (1 : Int) < 1 by decide)), if_neg (show ¬ (0 : Int) < (tx1 E.clock).stamp from (by decide : ¬ (0 : Int) < 0)), hsort]
    show (match firstR E.V 3 [(⟨(i : Int), v, 1⟩ : Pt)] with
      | some (n, v_1) => _
      | none => _) = _
    rw [hf]
    simp only
    rw [if_neg (by omega), Int.toNat_natCast, at3_set]
    rfl
  · have hf : firstR (E.V.set i { u with lock := 3 }) 3 [(⟨(i : Int), v, 1⟩ : Pt)] = none := by
      unfold firstR
      simp only
      rw [Int.toNat_natCast, hu2]
      simp only
      rw [if_pos trivial]
      rfl
    have hvl : validL (E.V.set i { u with lock := 3 }) E.clock 3 [(i : Int)] = 0 := by
      unfold validL
      rw [Int.toNat_natCast, hu2]
      simp only
      rw [if_pos hlk2]
      rfl
    unfold stepR
    rw [at3_th h8]
    simp only
    rw [if_neg (by intro h; rcases h with h | h; cases h; exact absurd h (show ¬ (1 : Int) < 1 by decide)), if_neg (show ¬ (0 : Int) < (tx1 E.clock).stamp from (by decide : ¬ (0 : Int) < 0)), hsort]
    show (match firstR (E.V.set i { u with lock := 3 }) 3 [(⟨(i : Int), v, 1⟩ : Pt)] with
      | some (n, v_1) => _
      | none => _) = _
    rw [hf]
    simp only
    rw [show validL (at3 E { tx1 E.clock with reads := [(i : Int)], puts := [⟨(i : Int), v, 1⟩], commits := true } (E.V.set i { u with lock := 3 }) E.clock).V (tx1 E.clock).start 3 [(i : Int)] = 0 from hvl, if_pos rfl, if_neg (by intro h; cases h)]
    rw [at3_set]
    rfl
  · unfold stepR
    rw [at3_th h8]
    simp only
    rw [if_neg (by intro h; rcases h with h | h; cases h; exact absurd h (show ¬ (1 : Int) < 1 by decide)), if_pos (show (0 : Int) < E.clock + 1 by omega), hsort]
    rw [show ([(⟨(i : Int), v, 1⟩ : Pt)])[(tx1 E.clock).done.toNat]? = some ⟨(i : Int), v, 1⟩ from rfl]
    simp only
    rw [if_neg (show ¬ (tx1 E.clock).done + 1 < (([(⟨(i : Int), v, 1⟩ : Pt)].length : Nat) : Int) from (by decide : ¬ (0 : Int) + 1 < ((1 : Nat) : Int))), Int.toNat_natCast, at3_set]
    show (at3 E tx0 ((E.V.set i { u with lock := 3 }).set i ⟨v, E.clock + 1, -1⟩) (E.clock + 1), 4, 0) = _
    rw [List.set_set]
  · unfold valueR
    rw [at3_vr, List.getElem?_set_self hi]
end Go.Proofs.Ytjoifodjbdbicaa.VC

/- A transaction from its beginning to its end reads what is there, and writes: the law. -/
namespace Go.Proofs.Ytjoifodjbdbicaa.VD
open Go.RowKit Go.Proofs.Ytjoifodjbdbicaa.RG Go.Proofs.Ytjoifodjbdbicaa.RB Go.Proofs.Ytjoifodjbdbicaa.RI Go.Proofs.Ytjoifodjbdbicaa.UA Go.Proofs.Ytjoifodjbdbicaa.UB Go.Proofs.Ytjoifodjbdbicaa.UC Go.Proofs.Ytjoifodjbdbicaa.UD Go.Proofs.Ytjoifodjbdbicaa.UE Go.Proofs.Ytjoifodjbdbicaa.UF Go.Proofs.Ytjoifodjbdbicaa.UG Go.Proofs.Ytjoifodjbdbicaa.UH Go.Proofs.Ytjoifodjbdbicaa.UI Go.Proofs.Ytjoifodjbdbicaa.UJ Go.Proofs.Ytjoifodjbdbicaa.UK Go.Proofs.Ytjoifodjbdbicaa.UL Go.Proofs.Ytjoifodjbdbicaa.UM Go.Proofs.Ytjoifodjbdbicaa.UN Go.Proofs.Ytjoifodjbdbicaa.UO Go.Proofs.Ytjoifodjbdbicaa.UP Go.Proofs.Ytjoifodjbdbicaa.UQ Go.Proofs.Ytjoifodjbdbicaa.UR Go.Proofs.Ytjoifodjbdbicaa.US Go.Proofs.Ytjoifodjbdbicaa.UT Go.Proofs.Ytjoifodjbdbicaa.UU Go.Proofs.Ytjoifodjbdbicaa.UV Go.Proofs.Ytjoifodjbdbicaa.UW Go.Proofs.Ytjoifodjbdbicaa.UX Go.Proofs.Ytjoifodjbdbicaa.UZ Go.Proofs.Ytjoifodjbdbicaa.VA Go.Proofs.Ytjoifodjbdbicaa.VC
set_option linter.unusedVariables false
set_option maxRecDepth 100000
set_option maxRecDepth 100000

variable {TP : World → (Nat → Prop) → Nat → Eg → Prop}
/-- The program's engine alone. -/
def One (TP : World → (Nat → Prop) → Nat → Eg → Prop) (w : World) (C p : Nat) (E : Eg) : Prop := ∃ F, TP w F p E ∧ (∀ b, F b → C ≤ b) ∧ C ≤ w.heap.size
theorem one_of {w : World} {C p r : Nat} {E E' : Eg} (h : Two TP w C p r E E') : One TP w C p E := by
  obtain ⟨F, G, h1, h2, h3, h4, h5⟩ := h
  exact ⟨F, h1, fun b hb => (h3 b hb).1, h5⟩
theorem one_k (hP : PT TP) {w w' : World} {C p : Nat} {E : Eg} (h : One TP w C p E) (hb : Below w.heap.size w w') : One TP w' C p E := by
  obtain ⟨F, h1, h2, h3⟩ := h
  exact ⟨F, hP.on h1 (OnS.none hb) (fun _ _ h => h), h2, Nat.le_trans h3 hb.size⟩
theorem one_p {w w' : World} {C p : Nat} {E1 : Eg} {F F' : Nat → Prop} (h2 : ∀ b, F b → C ≤ b) (h3 : C ≤ w.heap.size) (ho : OnS F w w') (ht : TP w' F' p E1) (hg : Gr w F F') : One TP w' C p E1 ∧ Below C w w' :=
  ⟨⟨F', ht, gr_low hg h2 h3, Nat.le_trans h3 ho.size⟩, ho.below h3 h2⟩
set_option maxHeartbeats 12800000 in
theorem lserial_c (hP : PT TP) (w : World) (S : Nat → Prop) (v : Value) (ds : List Dd) (hv : RowR TDd w S v ds) (hd : D64 ds) (n : Int) (hn : B64 n) (v0 : Int) (bv : B64 v0) : Calls Try.prog 7 #[v, .int .i64 n, .int .i64 v0] w fun e w' => e = .returned (.bool true) ∧ Below w.heap.size w w' := by
  have HBEG := Lib.hid (begin_c hP w)
  have HLIV := Lib.hid (fun w1 => lives_c hP w1)
  have HPP := Lib.hid hP
  have HR := Lib.hid hv
  have HD := Lib.hid hd
  obtain ⟨va, vc, rfl, _⟩ := hv.val
  obtain ⟨nd, hnd⟩ : ∃ n, Hid (ds.length = n) := ⟨_, Lib.hid rfl⟩
  rw [hnd.out] at HR ⊢
  obtain ⟨K, hK4, hK⟩ := few_in n 4 (by decide) hn
  have bK : B64 (K : Int) := ⟨by omega, by omega⟩
  have b3 : B64 3 := ⟨by decide, by decide⟩
  have n64 := hn.1
  have n65 := hn.2
  have n8 : ((4 : Nat) : Int) = 4 := rfl
  rw [n8] at hK
  clear hn n8
  clear hv hd hP
  rcases hK with ⟨hK1, hK2⟩ | ⟨hK1, hK2⟩
  all_goals
    go_enter Try.func7, Try.ntmps7
    go_wp2_with fail
    refine HBEG.out.mono ?_
    rintro e w1 ⟨p, r, rfl, ht, hb⟩
    have HT1 := Lib.hid ht
    have HB1 := Lib.hid hb
    clear ht hb
    go_wp2_with fail
    go_loopg [9] 30 (fun g iv wr => ∃ i : Nat, i + g = 30 ∧ iv = .int .i64 (i : Int) ∧ Hid (i ≤ nd) ∧ Hid (Two TP wr w.heap.size p r (runE (bE 4) (ds.take i)) (runE (bE 4) (ds.take i))) ∧ Hid (Below w.heap.size w wr))
    case atStart => exact ⟨0, Nat.zero_add _, rfl, Lib.hid (Nat.zero_le _), HT1, HB1⟩
    case round =>
      obtain ⟨i, hi, rfl, HLE, HTI, HBI⟩ := hrel
      have HI := Lib.hid hi
      by_cases hlt : i < nd ∧ i < 30
      · obtain ⟨h1, h2⟩ := hlt
        obtain ⟨g', rfl⟩ : ∃ g, gk = g + 1 := ⟨gk - 1, by omega⟩
        obtain ⟨d, hd⟩ := getElem?_of_lt (l := ds) (k := i) (by rw [hnd.out]; exact h1)
        obtain ⟨b, off, cap, hvv, hbl, x0, x1, x2, x3⟩ := deed_at HR.out hd
        injection hvv with e1 e2 e3
        subst e1
        subst e3
        clear e2
        have hdb := HD.out d (mem_of hd)
        have HNX := Lib.hid (run_next hd (bE 4))
        obtain ⟨E, hE⟩ : ∃ E, Hid (runE (bE 4) (ds.take i) = E) := ⟨_, Lib.hid rfl⟩
        have HWG := Lib.hid (wg_play ds (show i ≤ 30 by omega))
        rw [hE.out] at HTI HNX HWG
        obtain ⟨dk, dt, dn, dv⟩ := d
        have HDO := Lib.hid (does_c HPP.out wr w.heap.size p r E HTI.out _ HWG.out (by decide) dk dt dn dv hdb.1 hdb.2.1 hdb.2.2)
        have y0 := (HBI.out.cell (p := ⟨b, off + i * 4, none⟩) hbl).trans x0
        have y1 := (HBI.out.cell (p := ⟨b, off + i * 4 + 1, none⟩) hbl).trans x1
        have y2 := (HBI.out.cell (p := ⟨b, off + i * 4 + 2, none⟩) hbl).trans x2
        have y3 := (HBI.out.cell (p := ⟨b, off + i * 4 + 3, none⟩) hbl).trans x3
        have i0 : (0 : Int) ≤ (i : Int) := by omega
        have i1 : (i : Int) < (nd : Int) := by omega
        have i2 : (i : Int) < 30 := by omega
        clear hd hdb x0 x1 x2 x3
        go_wp2_with fail
        refine HDO.out.mono ?_
        rintro e w2 ⟨rfl, ht, hb⟩
        have HB2 := Lib.hid (HBI.out.trans hb)
        have HT2 := Lib.hid ht
        clear ht hb
        go_wp2_with fail
        go_roundg g'
        case rel => exact ⟨i + 1, by have := HI.out; omega, by go_num, Lib.hid (by omega), by rw [HNX.out]; exact HT2, HB2⟩
        case measure => omega
      · have hex : (¬ (i : Int) < (nd : Int)) ∨ ((i : Int) < (nd : Int) ∧ ¬ (i : Int) < 30) := by omega
        have HWG0 := Lib.hid (wg_play ds (show i ≤ 30 by omega))
        have HWV0 := Lib.hid (wv_play ds i)
        have HLK0 := Lib.hid (lk_run (ds.take i) (lk_bE 4) (bE_wg 4) (wv_bE 4))
        obtain ⟨E0, hE0⟩ : ∃ E, Hid (runE (bE 4) (ds.take i) = E) := ⟨_, Lib.hid rfl⟩
        rw [hE0.out] at HTI HWG0 HWV0 HLK0
        clear hlt
        rcases hex with hx1 | ⟨hx1, hx2⟩
        all_goals
          have h4v := v4_run (ds.take i) (E := bE 4) (by decide +kernel)
          rw [hE0.out] at h4v
          have HPL0 := Lib.hid (pl_of HWG0.out h4v)
          have HONE := Lib.hid (one_of HTI.out)
          clear h4v
          go_wp2_with fail
          go_loopg [10, 11] 8 (fun g tv iv wr => ∃ (t c : Nat) (E : Eg), t + g = 8 ∧ tv = .int .i64 (t : Int) ∧ Hid (One TP wr w.heap.size p E) ∧ Hid (Below w.heap.size w wr) ∧ Hid (Wg (34 + c) E) ∧ Hid (c ≤ t * 36) ∧ Hid (Wv E) ∧ Hid (Lk E) ∧ Hid (Pl 34 E) ∧ Hid (∀ u : Nat, u < t → hasR E (u : Int) = false))
          case atStart => exact ⟨0, 0, E0, Nat.zero_add _, rfl, HONE, HBI, HWG0, Lib.hid (Nat.zero_le _), HWV0, HLK0, HPL0, Lib.hid (fun u h => by omega)⟩
          case round =>
            obtain ⟨t, c, E, ht, rfl, HTI2, HB2, HWG, HCT, HWV, HLK, HPL, HNO⟩ := hrel
            have HT := Lib.hid ht
            by_cases hlt : t < 8
            · obtain ⟨g', rfl⟩ : ∃ g, gk = g + 1 := ⟨gk - 1, by omega⟩
              have t0 : (0 : Int) ≤ (t : Int) := by omega
              have t1 : (t : Int) < 8 := by omega
              have bt : B64 (t : Int) := ⟨by omega, by omega⟩
              go_wp2_with fail
              rename World => w2
              go_loopg [11] 60 (fun g iv wr => ∃ (k c2 : Nat) (E : Eg), k + g = 60 ∧ iv = .int .i64 (k : Int) ∧ Hid (One TP wr w.heap.size p E) ∧ Hid (Below w.heap.size w wr) ∧ Hid (Wg (34 + c2) E) ∧ Hid (c2 ≤ t * 36 + k) ∧ Hid (Wv E) ∧ Hid (Lk E) ∧ Hid (Pl 34 E) ∧ Hid (∀ u : Nat, u < t → hasR E (u : Int) = false) ∧ Hid (left E (t : Int) + k ≤ 35))
              case atStart => exact ⟨0, c, E, Nat.zero_add _, rfl, HTI2, HB2, HWG, Lib.hid (by have := HCT.out; omega), HWV, HLK, HPL, HNO, Lib.hid (left_pl HPL.out _)⟩
              case round =>
                obtain ⟨k, c2, E, hk, rfl, HTI3, HB3, HWG, HC2, HWV, HLK, HPL, HNO, HLF⟩ := hrel
                have HK := Lib.hid hk
                have hk35 : k ≤ 35 := by have := HLF.out; omega
                have hcb : 34 + c2 ≤ 1000 := by have := HC2.out; omega
                have k0 : (0 : Int) ≤ (k : Int) := by omega
                have k1 : (k : Int) < 60 := by omega
                obtain ⟨F, h1, h2, h3⟩ := HTI3.out
                have HACT := Lib.hid (HPP.out.active h1 HWG.out hcb (t : Int) bt)
                obtain ⟨a, ha⟩ : ∃ a, hasR E (t : Int) = a := ⟨_, rfl⟩
                rw [ha] at HACT
                cases a
                · have HNO2 := Lib.hid (show ∀ u : Nat, u < t + 1 → hasR E (u : Int) = false from fun u hu => by
                    by_cases e : u = t
                    · rw [e]; exact ha
                    · exact HNO.out u (by omega))
                  clear ha h1 h2 h3
                  go_wp2_with fail
                  refine HACT.out.mono ?_
                  rintro e w3 ⟨rfl, hb⟩
                  have HB4 := Lib.hid (bnext HB3.out hb)
                  have HT4 := Lib.hid (one_k HPP.out HTI3.out hb)
                  clear hb
                  go_wp2_with fail
                  go_roundg g'
                  case rel => exact ⟨t + 1, c2, E, by have := HT.out; omega, by go_num, HT4, HB4, HWG, Lib.hid (by have := HC2.out; omega), HWV, HLK, HPL, HNO2⟩
                  case measure => omega
                · have HLS := Lib.hid (try_less HLK.out HWG.out ha)
                  have hkl : k ≤ 34 := by have := HLS.out; have := HLF.out; omega
                  have hg1 := wg_abort HWG.out (t : Int)
                  have hg2 := wg_step HWG.out (t : Int)
                  have hv1 : Wv (abortR E (t : Int)).1 := by have h := wv_deed HWV.out ⟨7, (t : Int), 0, 0⟩; rw [deed_7] at h; exact h
                  have hv2 := wv_step HWV.out (t : Int)
                  have hl1 := lk_abort HLK.out (t : Int)
                  have hl2 := lk_step HLK.out HWG.out HWV.out (t : Int)
                  have hp1 := pl_abort HPL.out (t : Int)
                  have hp2 := pl_step HPL.out (t : Int)
                  have hn1 : ∀ u : Nat, u < t → hasR (abortR E (t : Int)).1 (u : Int) = false := fun u h => has_abort (HNO.out u h)
                  have hn2 : ∀ u : Nat, u < t → hasR (stepR E (t : Int)).1 (u : Int) = false := fun u h => has_step (HNO.out u h)
                  have htry : tryR E (t : Int) = if (abortR E (t : Int)).2 = 0 then (abortR E (t : Int)).1 else (stepR E (t : Int)).1 := by unfold tryR; rw [if_pos ha]
                  have HABB := Lib.hid (fun h => abort_bad ha h)
                  obtain ⟨g2, rfl⟩ : ∃ g, gk = g + 1 := ⟨gk - 1, by omega⟩
                  have HAP := Lib.hid (fun w4 F (h : TP w4 F p E) => HPP.out.abort h HWG.out hcb (t : Int) bt)
                  have HSP := Lib.hid (fun w4 F (h : TP w4 F p E) => HPP.out.step h HWG.out hcb (t : Int) bt)
                  obtain ⟨⟨EA, FA⟩, hA⟩ : ∃ x, abortR E (t : Int) = x := ⟨_, rfl⟩
                  obtain ⟨⟨ES, NS, FS⟩, hS⟩ : ∃ x, stepR E (t : Int) = x := ⟨_, rfl⟩
                  simp only [hA] at HAP hg1 hv1 hl1 hp1 hn1 htry HABB
                  simp only [hS] at HSP hg2 hv2 hl2 hp2 hn2 htry
                  have HRES := Lib.hid (And.intro hg1 (And.intro hv1 (And.intro hl1 (And.intro hp1 hn1))))
                  have HRES2 := Lib.hid (And.intro hg2 (And.intro hv2 (And.intro hl2 (And.intro hp2 hn2))))
                  have HTRY := Lib.hid htry
                  clear ha h1 h2 h3 hA hS hg1 hg2 hv1 hv2 hl1 hl2 hp1 hp2 hn1 hn2 htry
                  go_wp2_with fail
                  refine HACT.out.mono ?_
                  rintro e w3 ⟨rfl, hb⟩
                  have HB4 := Lib.hid (bnext HB3.out hb)
                  obtain ⟨F, h1, h2, h3⟩ := one_k HPP.out HTI3.out hb
                  have HAP3 := Lib.hid (HAP.out w3 F h1)
                  have H3 := Lib.hid (And.intro h2 h3)
                  clear hb h1 h2 h3
                  go_wp2_with fail
                  refine HAP3.out.mono ?_
                  rintro e w4 ⟨rfl, ho, F', hta, hg⟩
                  obtain ⟨ht4, hb4⟩ := one_p H3.out.1 H3.out.2 ho hta hg
                  have HB5 := Lib.hid (HB4.out.trans hb4)
                  have HT5 := Lib.hid ht4
                  clear ho hta hg hb4 ht4
                  by_cases q0 : FA = 0
                  · subst q0
                    have HE := Lib.hid (HTRY.out.trans (if_pos rfl))
                    rw [HE.out] at HLS
                    have HLF2 := Lib.hid (show left EA (t : Int) + (k + 1) ≤ 35 from by have := HLS.out; have := HLF.out; omega)
                    have HW2 := Lib.hid (show Wg (34 + (c2 + 1)) EA from HRES.out.1)
                    go_wp2_with fail
                    go_roundg g2
                    case rel => exact ⟨k + 1, c2 + 1, EA, by have := HK.out; omega, by go_num, HT5, HB5, HW2, Lib.hid (by have := HC2.out; omega), Lib.hid HRES.out.2.1, Lib.hid HRES.out.2.2.1, Lib.hid HRES.out.2.2.2.1, Lib.hid HRES.out.2.2.2.2, HLF2⟩
                    case measure => omega
                  · have HE := Lib.hid (HTRY.out.trans (if_neg q0))
                    obtain ⟨_, _, _, _, hEA⟩ := HABB.out q0
                    injection hEA with hEA _
                    subst hEA
                    rw [HE.out] at HLS
                    have HLF2 := Lib.hid (show left ES (t : Int) + (k + 1) ≤ 35 from by have := HLS.out; have := HLF.out; omega)
                    have HW2 := Lib.hid (show Wg (34 + (c2 + 1)) ES from HRES2.out.1)
                    have q0' : (FA != 0) = true := by rw [bne_iff_ne]; exact q0
                    obtain ⟨F, h1, h2, h3⟩ := HT5.out
                    have HSP5 := Lib.hid (HSP.out w4 F h1)
                    have H5 := Lib.hid (And.intro h2 h3)
                    clear h1 h2 h3
                    go_wp2_with fail
                    refine HSP5.out.mono ?_
                    rintro e w6 ⟨rfl, ho, F', hta, hg⟩
                    obtain ⟨ht6, hb6⟩ := one_p H5.out.1 H5.out.2 ho hta hg
                    have HB6 := Lib.hid (HB5.out.trans hb6)
                    have HT6 := Lib.hid ht6
                    clear ho hta hg hb6 ht6
                    go_wp2_with fail
                    go_roundg g2
                    case rel => exact ⟨k + 1, c2 + 1, ES, by have := HK.out; omega, by go_num, HT6, HB6, HW2, Lib.hid (by have := HC2.out; omega), Lib.hid HRES2.out.2.1, Lib.hid HRES2.out.2.2.1, Lib.hid HRES2.out.2.2.2.1, Lib.hid HRES2.out.2.2.2.2, HLF2⟩
                    case measure => omega
            · have ht8 : t = 8 := by omega
              subst ht8
              have hcb : c ≤ 288 := HCT.out
              obtain ⟨u, hu⟩ := getElem?_of_lt (l := E.V) (k := K) (by have := HPL.out.v4; omega)
              have hul : u.lock < 0 := by
                rcases Int.lt_or_le u.lock 0 with h | h
                · exact h
                · obtain ⟨x, hx, hi, _⟩ := HLK.out.lk K u hu h
                  have h8 : u.lock < 8 := by
                    unfold thR at hx
                    rw [if_pos h] at hx
                    have := (List.getElem?_eq_some_iff.1 hx).1
                    rw [HWG.out.wf.th] at this
                    omega
                  have := HNO.out u.lock.toNat (by omega)
                  rw [show ((u.lock.toNat : Nat) : Int) = u.lock by omega] at this
                  unfold hasR at this
                  rw [hx] at this
                  simp only at this
                  rw [hi] at this
                  cases this
              have SE := Lib.hid (serial HWG.out.wf.th HWV.out hu hul (HNO.out 3 (by decide)) v0)
              have hck0 := HWG.out.wf.ck.1
              have hck1 := HWG.out.wf.ck.2
              obtain ⟨M, hM⟩ : ∃ M, M = 34 + c := ⟨_, rfl⟩
              rw [← hM] at HWG hck1
              have hMb : M ≤ 400 := by omega
              have g0 := HWG.out
              have g1 := wg_begin g0 3
              rw [SE.out.beg] at g1
              have g2 := wg_read g1 3 (K : Int)
              rw [SE.out.rd1] at g2
              have g3 := wg_write g2 3 (K : Int) v0
              rw [SE.out.wr] at g3
              have g4 := wg_read g3 3 (K : Int)
              rw [SE.out.rd2] at g4
              have g5 := wg_step g4 3
              rw [SE.out.st1] at g5
              have g6 := wg_step g5 3
              rw [SE.out.st2] at g6
              have g7 := wg_step g6 3
              rw [SE.out.st3] at g7
              have HA0 := Lib.hid (fun w1 F h => HPP.out.value (TP := TP) (w := w1) (F := F) (p := p) h g0 (by omega) (K : Int) bK)
              simp only [SE.out.val] at HA0
              have HA1 := Lib.hid (fun w1 F h => HPP.out.clock (TP := TP) (w := w1) (F := F) (p := p) h g0 (by omega) )
              have HA2 := Lib.hid (fun w1 F h => HPP.out.begin_ (TP := TP) (w := w1) (F := F) (p := p) h g0 (by omega) 3 b3)
              simp only [SE.out.beg] at HA2
              have HA3 := Lib.hid (fun w1 F h => HPP.out.read (TP := TP) (w := w1) (F := F) (p := p) h g1 (by omega) 3 (K : Int) b3 bK)
              simp only [SE.out.rd1] at HA3
              have HA4 := Lib.hid (fun w1 F h => HPP.out.write (TP := TP) (w := w1) (F := F) (p := p) h g2 (by omega) 3 (K : Int) v0 b3 bK bv)
              simp only [SE.out.wr] at HA4
              have HA5 := Lib.hid (fun w1 F h => HPP.out.read (TP := TP) (w := w1) (F := F) (p := p) h g3 (by omega) 3 (K : Int) b3 bK)
              simp only [SE.out.rd2] at HA5
              have HA6 := Lib.hid (fun w1 F h => HPP.out.step (TP := TP) (w := w1) (F := F) (p := p) h g4 (by omega) 3 b3)
              simp only [SE.out.st1] at HA6
              have HA7 := Lib.hid (fun w1 F h => HPP.out.step (TP := TP) (w := w1) (F := F) (p := p) h g5 (by omega) 3 b3)
              simp only [SE.out.st2] at HA7
              have HA8 := Lib.hid (fun w1 F h => HPP.out.step (TP := TP) (w := w1) (F := F) (p := p) h g6 (by omega) 3 b3)
              simp only [SE.out.st3] at HA8
              have HA9 := Lib.hid (fun w1 F h => HPP.out.value (TP := TP) (w := w1) (F := F) (p := p) h g7 (by omega) (K : Int) bK)
              simp only [SE.out.now] at HA9
              have HAC := Lib.hid (fun w1 F h => HPP.out.clock (TP := TP) (w := w1) (F := F) (p := p) h g7 (by omega))
              have HACK := Lib.hid (show (at3 E tx0 (E.V.set K ⟨v0, E.clock + 1, -1⟩) (E.clock + 1)).clock = E.clock + 1 from rfl)
              rw [HACK.out] at HAC
              obtain ⟨ck, hck⟩ : ∃ c, Hid (E.clock = c) := ⟨_, Lib.hid rfl⟩
              rw [hck.out] at hck0 hck1 HAC HA1
              obtain ⟨ul, hul2⟩ : ∃ c, Hid (u.val = c) := ⟨_, Lib.hid rfl⟩
              simp only [hul2.out] at HA0 HA3
              clear g0 g1 g2 g3 g4 g5 g6 g7 hu hul
              obtain ⟨F, hf1, hf2, hf3⟩ := HTI2.out
              have HX := Lib.hid (HA0.out _ F hf1)
              have HF := Lib.hid (And.intro hf1 (And.intro hf2 hf3))
              clear hf1 hf2 hf3
              go_wp2_with fail
              refine HX.out.mono ?_
              rintro e w3 ⟨rfl, hb⟩
              have HT := Lib.hid (show One TP w3 w.heap.size p _ from ⟨F, HPP.out.on HF.out.1 (OnS.none hb) (fun _ _ h => h), HF.out.2.1, Nat.le_trans HF.out.2.2 hb.size⟩)
              have HB := Lib.hid (bnext HB2.out hb)
              clear hb HF HX
              obtain ⟨F, hf1, hf2, hf3⟩ := HT.out
              have HX := Lib.hid (HA1.out _ F hf1)
              have HF := Lib.hid (And.intro hf1 (And.intro hf2 hf3))
              clear hf1 hf2 hf3
              go_wp2_with fail
              refine HX.out.mono ?_
              rintro e w4 ⟨rfl, hb⟩
              have HT := Lib.hid (show One TP w4 w.heap.size p _ from ⟨F, HPP.out.on HF.out.1 (OnS.none hb) (fun _ _ h => h), HF.out.2.1, Nat.le_trans HF.out.2.2 hb.size⟩)
              have HB := Lib.hid (bnext HB.out hb)
              clear hb HF HX
              obtain ⟨F, hf1, hf2, hf3⟩ := HT.out
              have HX := Lib.hid (HA2.out _ F hf1)
              have HF := Lib.hid (And.intro hf1 (And.intro hf2 hf3))
              clear hf1 hf2 hf3
              go_wp2_with fail
              refine HX.out.mono ?_
              rintro e w5 ⟨rfl, ho, F', ht, hg⟩
              obtain ⟨ht2, hb2⟩ := one_p HF.out.2.1 HF.out.2.2 ho ht hg
              have HT := Lib.hid ht2
              have HB := Lib.hid (HB.out.trans hb2)
              clear ho ht hg HF HX ht2 hb2
              obtain ⟨F, hf1, hf2, hf3⟩ := HT.out
              have HX := Lib.hid (HA3.out _ F hf1)
              have HF := Lib.hid (And.intro hf1 (And.intro hf2 hf3))
              clear hf1 hf2 hf3
              go_wp2_with fail
              refine HX.out.mono ?_
              rintro e w6 ⟨rfl, ho, F', ht, hg⟩
              obtain ⟨ht2, hb2⟩ := one_p HF.out.2.1 HF.out.2.2 ho ht hg
              have HT := Lib.hid ht2
              have HB := Lib.hid (HB.out.trans hb2)
              clear ho ht hg HF HX ht2 hb2
              obtain ⟨F, hf1, hf2, hf3⟩ := HT.out
              have HX := Lib.hid (HA4.out _ F hf1)
              have HF := Lib.hid (And.intro hf1 (And.intro hf2 hf3))
              clear hf1 hf2 hf3
              go_wp2_with fail
              refine HX.out.mono ?_
              rintro e w7 ⟨rfl, ho, F', ht, hg⟩
              obtain ⟨ht2, hb2⟩ := one_p HF.out.2.1 HF.out.2.2 ho ht hg
              have HT := Lib.hid ht2
              have HB := Lib.hid (HB.out.trans hb2)
              clear ho ht hg HF HX ht2 hb2
              obtain ⟨F, hf1, hf2, hf3⟩ := HT.out
              have HX := Lib.hid (HA5.out _ F hf1)
              have HF := Lib.hid (And.intro hf1 (And.intro hf2 hf3))
              clear hf1 hf2 hf3
              go_wp2_with fail
              refine HX.out.mono ?_
              rintro e w8 ⟨rfl, ho, F', ht, hg⟩
              obtain ⟨ht2, hb2⟩ := one_p HF.out.2.1 HF.out.2.2 ho ht hg
              have HT := Lib.hid ht2
              have HB := Lib.hid (HB.out.trans hb2)
              clear ho ht hg HF HX ht2 hb2
              obtain ⟨F, hf1, hf2, hf3⟩ := HT.out
              have HX := Lib.hid (HA6.out _ F hf1)
              have HF := Lib.hid (And.intro hf1 (And.intro hf2 hf3))
              clear hf1 hf2 hf3
              go_wp2_with fail
              refine HX.out.mono ?_
              rintro e w9 ⟨rfl, ho, F', ht, hg⟩
              obtain ⟨ht2, hb2⟩ := one_p HF.out.2.1 HF.out.2.2 ho ht hg
              have HT := Lib.hid ht2
              have HB := Lib.hid (HB.out.trans hb2)
              clear ho ht hg HF HX ht2 hb2
              obtain ⟨F, hf1, hf2, hf3⟩ := HT.out
              have HX := Lib.hid (HA7.out _ F hf1)
              have HF := Lib.hid (And.intro hf1 (And.intro hf2 hf3))
              clear hf1 hf2 hf3
              go_wp2_with fail
              refine HX.out.mono ?_
              rintro e w10 ⟨rfl, ho, F', ht, hg⟩
              obtain ⟨ht2, hb2⟩ := one_p HF.out.2.1 HF.out.2.2 ho ht hg
              have HT := Lib.hid ht2
              have HB := Lib.hid (HB.out.trans hb2)
              clear ho ht hg HF HX ht2 hb2
              obtain ⟨F, hf1, hf2, hf3⟩ := HT.out
              have HX := Lib.hid (HA8.out _ F hf1)
              have HF := Lib.hid (And.intro hf1 (And.intro hf2 hf3))
              clear hf1 hf2 hf3
              go_wp2_with fail
              refine HX.out.mono ?_
              rintro e w11 ⟨rfl, ho, F', ht, hg⟩
              obtain ⟨ht2, hb2⟩ := one_p HF.out.2.1 HF.out.2.2 ho ht hg
              have HT := Lib.hid ht2
              have HB := Lib.hid (HB.out.trans hb2)
              clear ho ht hg HF HX ht2 hb2
              obtain ⟨F, hf1, hf2, hf3⟩ := HT.out
              have HX := Lib.hid (HA9.out _ F hf1)
              have HF := Lib.hid (And.intro hf1 (And.intro hf2 hf3))
              clear hf1 hf2 hf3
              go_wp2_with fail
              refine HX.out.mono ?_
              rintro e w12 ⟨rfl, hb⟩
              have HT := Lib.hid (show One TP w12 w.heap.size p _ from ⟨F, HPP.out.on HF.out.1 (OnS.none hb) (fun _ _ h => h), HF.out.2.1, Nat.le_trans HF.out.2.2 hb.size⟩)
              have HB := Lib.hid (bnext HB.out hb)
              clear hb HF HX
              obtain ⟨F, hf1, hf2, hf3⟩ := HT.out
              rw [hck.out] at hf1
              have HX := Lib.hid (HAC.out _ F hf1)
              clear hf1 hf2 hf3
              go_wp2_with fail
              refine HX.out.mono ?_
              rintro e w20 ⟨rfl, hb⟩
              have HB20 := Lib.hid (bnext HB.out hb)
              have HL20 := Lib.hid (HLIV.out w20)
              clear hb HX
              go_wp2_with fail
              refine HL20.out.mono ?_
              rintro e w21 ⟨rfl, hb⟩
              have HB21 := Lib.hid (bnext HB20.out hb)
              clear hb
              go_wp2_with fail
              go_ret
              exact ⟨rfl, HB21.out⟩
end Go.Proofs.Ytjoifodjbdbicaa.VD
