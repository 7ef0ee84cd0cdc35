/- ZW: several texts in one (PR PU PV). -/
import Derived.Test.YtjoifodjbdbicaaPP
import Derived.Test.YtjoifodjbdbicaaZV

/- The program's engine: what each kind of step answers, as the document's step. -/
namespace Go.Proofs.Ytjoifodjbdbicaa.PR
open Go.RowKit Go.Proofs.Ytjoifodjbdbicaa.RG Go.Proofs.Ytjoifodjbdbicaa.RB Go.Proofs.Ytjoifodjbdbicaa.RI Go.Proofs.Ytjoifodjbdbicaa.RM Go.Proofs.Ytjoifodjbdbicaa.UA Go.Proofs.Ytjoifodjbdbicaa.UB Go.Proofs.Ytjoifodjbdbicaa.UD Go.Proofs.Ytjoifodjbdbicaa.UE Go.Proofs.Ytjoifodjbdbicaa.UG Go.Proofs.Ytjoifodjbdbicaa.UH Go.Proofs.Ytjoifodjbdbicaa.UI Go.Proofs.Ytjoifodjbdbicaa.UK Go.Proofs.Ytjoifodjbdbicaa.PA Go.Proofs.Ytjoifodjbdbicaa.PB Go.Proofs.Ytjoifodjbdbicaa.PC Go.Proofs.Ytjoifodjbdbicaa.PD Go.Proofs.Ytjoifodjbdbicaa.PE Go.Proofs.Ytjoifodjbdbicaa.PF Go.Proofs.Ytjoifodjbdbicaa.PG Go.Proofs.Ytjoifodjbdbicaa.PJ Go.Proofs.Ytjoifodjbdbicaa.PK Go.Proofs.Ytjoifodjbdbicaa.PM Go.Proofs.Ytjoifodjbdbicaa.PN Go.Proofs.Ytjoifodjbdbicaa.PO Go.Proofs.Ytjoifodjbdbicaa.PP Go.Proofs.Ytjoifodjbdbicaa.PQ
set_option linter.unusedVariables false
set_option maxRecDepth 100000
set_option maxRecDepth 100000

/-- What a thread's transaction keeps, plainly. -/
structure TQ (E : Eg) (i : Nat) (x : Tx) : Prop where
  un : Un x.puts
  pl : x.puts.length ≤ 100000
  inp : ∀ q, q ∈ x.puts → 0 ≤ q.n ∧ q.n < (E.V.length : Int)
  inr : ∀ n, n ∈ x.reads → 0 ≤ n ∧ n < (E.V.length : Int)
  rl : x.reads.length ≤ 1000000
  lo : ∀ v, v ∈ E.V → -1 ≤ v.lock
  vs : E.V.length ≤ 4000
  ck : 0 ≤ E.clock ∧ E.clock ≤ 1000000
  st : 0 < x.stamp → 0 ≤ x.done ∧ x.done < ((sortR x.puts 1).length : Int)
  dn : ¬ 0 < x.stamp → x.done = 0
  ow : 0 < x.stamp → ∀ (j : Nat) (q : Pt), x.done.toNat ≤ j → (sortR x.puts 1)[j]? = some q → ∃ v, E.V[q.n.toNat]? = some v ∧ v.lock = (i : Int)
theorem TQ.small {E : Eg} {i : Nat} {x : Tx} (h : TQ E i x) : ∀ q, q ∈ x.puts → 0 ≤ q.n ∧ q.n < 1000000 := fun q hq => by have := h.inp q hq; have := h.vs; omega
section
variable {F : Nat → Prop} {p : Nat} {E : Eg} {vv : Value} {tv : Nat → Option Nat} {G : Nat → Nat → Prop}
/-- What a step leaves. -/
def Stepd (F : Nat → Prop) (p : Nat) (vv : Value) (E' : Eg) (w w' : World) : Prop := OnS F w w' ∧ ∃ F', (∃ tv' G', EI w' F' p E' vv tv' G') ∧ Gr w F F'
theorem th_of {E : Eg} {i : Nat} {x : Tx} (hx : E.T[i]? = some x) : thR E (i : Int) = some x := by rw [thR_nat]; exact hx
theorem putT (w : World) (H : EI w F p E vv tv G) (i : Nat) (x : Tx) (hi : i < 8) (hx : E.T[i]? = some x) (hs : x.is = true) (hp1 : x.parts = 1) (hcm : x.commits = true) (hst : 0 < x.stamp) (Q : TQ E i x) :
    Calls Try.prog 56 #[.pointer (some ⟨p, 0, none⟩), .int .i64 (i : Int)] w fun e w' => e = .returned (.int .i64 (stepR E (i : Int)).2.1) ∧ (stepR E (i : Int)).2.2 = 0 ∧ Stepd F p vv (stepR E (i : Int)).1 w w' := by
  obtain ⟨hd0, hd1⟩ := Q.st hst
  obtain ⟨d, hd⟩ : ∃ d : Nat, x.done = (d : Int) := ⟨x.done.toNat, by omega⟩
  have hdl : d < (sortR x.puts 1).length := by rw [hd] at hd1; omega
  obtain ⟨q, hq⟩ : ∃ q, (sortR x.puts 1)[d]? = some q := ⟨_, List.getElem?_eq_getElem hdl⟩
  have hdt : x.done.toNat = d := by omega
  obtain ⟨hqm, hqp⟩ := sortR_mem (mem_of hq)
  have hqn := Q.inp q hqm
  obtain ⟨n0, hn0⟩ : ∃ n0 : Nat, q.n = (n0 : Int) := ⟨q.n.toNat, by omega⟩
  obtain ⟨v, hv, hvl⟩ := Q.ow hst d q (by omega) hq
  rw [hn0, Int.toNat_natCast] at hv
  have hL : lftR E.V (i : Int) x = (n0 : Int) :: ((sortR x.puts 1).map (·.n)).drop (d + 1) := by
    rw [lft_put hst, hdt, List.drop_eq_getElem_cons (by simpa using hdl)]
    congr 1
    have := List.getElem?_eq_some_iff.1 hq
    simp [this.2, hn0]
  have hval : gt x.puts (n0 : Int) 1 = some q.v := by rw [← hn0, ← hqp]; exact mem_gt Q.un hqm
  have h2 : ∀ (j : Nat) (y : Tx), j ≠ i → E.T[j]? = some y → y.is = true → lftR (E.V.set n0 ⟨q.v, x.stamp, -1⟩) (j : Int) y = lftR E.V (j : Int) y := fun j y hj _ _ => lft_same hv (by rw [hvl]; omega) (by show (-1 : Int) ≠ _; omega) y
  have h1 : lftR (E.V.set n0 ⟨q.v, x.stamp, -1⟩) (i : Int) { x with done := x.done + 1 } = ((sortR x.puts 1).map (·.n)).drop (d + 1) := by
    rw [lft_put (x := { x with done := x.done + 1 }) hst]
    show ((sortR x.puts 1).map (·.n)).drop (x.done + 1).toNat = _
    rw [show (x.done + 1).toNat = d + 1 by omega]
  have hth := th_of hx
  have hsR : stepR E (i : Int) = if x.done + 1 < ((sortR x.puts 1).length : Int) then ({ setT E (i : Int) { x with done := x.done + 1 } with V := E.V.set n0 ⟨q.v, x.stamp, -1⟩ }, 3, 0) else ({ setT E (i : Int) tx0 with V := E.V.set n0 ⟨q.v, x.stamp, -1⟩ }, 4, 0) := by
    have hn : ¬ (x.is = false ∨ 1 < x.parts) := fun e => by
      rcases e with e | e
      · rw [hs] at e; cases e
      · omega
    unfold stepR
    rw [hth]
    simp only [if_neg hn, if_pos hst, hdt, hq]
    rw [hn0, Int.toNat_natCast]
    have hx1 : ({ x with commits := true, done := x.done + 1 } : Tx) = { x with done := x.done + 1 } := by rw [← hcm]
    rw [hx1]
  refine (put_c w H i x hi hx hs hp1 q n0 _ hL v hv hval (by rw [List.length_drop, List.length_map]; have := sortR_len x.puts 1; have := Q.pl; omega) { x with done := x.done + 1 } rfl rfl rfl rfl hs h1 h2).mono ?_
  rintro e w' (⟨hr, rfl, ho, hE⟩ | ⟨hr, rfl, ho, hE⟩)
  · have hlt : x.done + 1 < ((sortR x.puts 1).length : Int) := by
      rcases Nat.lt_or_ge (d + 1) (sortR x.puts 1).length with h | h
      · omega
      · exact absurd (List.drop_eq_nil_of_le (by rw [List.length_map]; exact h)) hr
    rw [hsR, if_pos hlt]
    exact ⟨rfl, rfl, ho, hE⟩
  · have hlt : ¬ x.done + 1 < ((sortR x.puts 1).length : Int) := fun h => by
      have := congrArg List.length hr
      rw [List.length_drop, List.length_map, List.length_nil] at this
      omega
    rw [hsR, if_neg hlt]
    exact ⟨rfl, rfl, ho, hE⟩
theorem lockT (w : World) (H : EI w F p E vv tv G) (i : Nat) (x : Tx) (hi : i < 8) (hx : E.T[i]? = some x) (hs : x.is = true) (hp1 : x.parts = 1) (hcm : x.commits = true) (hst : ¬ 0 < x.stamp) (Q : TQ E i x) (hne : lftR E.V (i : Int) x ≠ []) :
    Calls Try.prog 57 #[.pointer (some ⟨p, 0, none⟩), .int .i64 (i : Int)] w fun e w' => e = .returned (.tuple #[.int .i64 (stepR E (i : Int)).2.1, .int .i64 (stepR E (i : Int)).2.2]) ∧ Stepd F p vv (stepR E (i : Int)).1 w w' := by
  obtain ⟨a, rest, hL⟩ := List.exists_cons_of_ne_nil hne
  have hLf := hL
  rw [lft_lock hst hcm] at hLf
  obtain ⟨v, hf, hv, hvl⟩ := first_cons hLf
  have hmem : a ∈ ((sortR x.puts 1).filter (lfree E.V (i : Int))).map (·.n) := by rw [hLf]; exact List.mem_cons_self
  obtain ⟨q, hq, hqa⟩ := List.mem_map.1 hmem
  have hqm := (sortR_mem (List.mem_filter.1 hq).1).1
  have hqn := Q.inp q hqm
  have hqa : q.n = a := hqa
  obtain ⟨n0, rfl⟩ : ∃ n0 : Nat, a = (n0 : Int) := ⟨a.toNat, by omega⟩
  rw [Int.toNat_natCast] at hv
  have hlo := Q.lo v (mem_of hv)
  have hnl := (List.getElem?_eq_some_iff.1 hv).1
  have hth := th_of hx
  have hsR : stepR E (i : Int) = if 0 ≤ v.lock then (E, 0, 32) else ({ E with V := E.V.set n0 { v with lock := (i : Int) } }, 1, 0) := by
    have hn : ¬ (x.is = false ∨ 1 < x.parts) := fun e => by
      rcases e with e | e
      · rw [hs] at e; cases e
      · omega
    have hx1 : ({ x with commits := true } : Tx) = x := by rw [← hcm]
    unfold stepR
    rw [hth]
    simp only [if_neg hn, if_neg hst, hf, hx1, setT_same hx, Int.toNat_natCast]
  by_cases hb : 0 ≤ v.lock
  · refine (lock_c w H i x hi hx hs n0 rest hL v hv hlo (by have h1 := congrArg List.length hLf; rw [List.length_map] at h1; have h2 := List.length_filter_le (lfree E.V (i : Int)) (sortR x.puts 1); have := sortR_len x.puts 1; have := Q.pl; simp at h1; omega) ?_ ?_).mono ?_
    · exact fun h => absurd hb h
    · exact fun h => absurd hb h
    · rintro e w' (⟨_, rfl, hbl⟩ | ⟨h, _⟩)
      · rw [hsR, if_pos hb]
        exact ⟨rfl, OnS.of hbl, F, ⟨tv, G, H.keep hbl⟩, Gr.refl _ _⟩
      · exact absurd hb h
  · refine (lock_c w H i x hi hx hs n0 rest hL v hv hlo (by have h1 := congrArg List.length hLf; rw [List.length_map] at h1; have h2 := List.length_filter_le (lfree E.V (i : Int)) (sortR x.puts 1); have := sortR_len x.puts 1; have := Q.pl; simp at h1; omega) ?_ ?_).mono ?_
    · intro _
      rw [lft_lock hst hcm]
      exact left_tail hnl rfl (sort_up _ _) (fun q hq => (Q.inp q (sortR_mem hq).1).1) hLf
    · intro _ j y hj _ _
      exact lft_same hv (by omega) (by show (i : Int) ≠ (j : Int); omega) y
    · rintro e w' (⟨h, _⟩ | ⟨_, rfl, ho, F', ⟨G', hE⟩, hg⟩)
      · exact absurd h hb
      · rw [hsR, if_neg hb]
        exact ⟨rfl, ho, F', ⟨tv, G', hE⟩, hg⟩
theorem passT (w : World) (H : EI w F p E vv tv G) (i : Nat) (x : Tx) (hi : i < 8) (hx : E.T[i]? = some x) (hs : x.is = true) (hp1 : x.parts = 1) (hcm : x.commits = true) (hst : ¬ 0 < x.stamp) (Q : TQ E i x) (hnil : lftR E.V (i : Int) x = []) :
    Calls Try.prog 58 #[.pointer (some ⟨p, 0, none⟩), .int .i64 (i : Int)] w fun e w' => e = .returned (.tuple #[.int .i64 (stepR E (i : Int)).2.1, .int .i64 (stepR E (i : Int)).2.2]) ∧ Stepd F p vv (stepR E (i : Int)).1 w w' := by
  rw [lft_lock hst hcm] at hnil
  have hf := first_nil hnil
  have hth := th_of hx
  have hsR : stepR E (i : Int) = if validL E.V x.start (i : Int) x.reads = 0 then (if sortR x.puts 1 = [] then (setT E (i : Int) tx0, 4, 0) else ({ setT E (i : Int) { x with stamp := E.clock + 1 } with clock := E.clock + 1 }, 2, 0)) else (E, 0, validL E.V x.start (i : Int) x.reads) := by
    have hn : ¬ (x.is = false ∨ 1 < x.parts) := fun e => by
      rcases e with e | e
      · rw [hs] at e; cases e
      · omega
    have hx1 : ({ x with commits := true } : Tx) = x := by rw [← hcm]
    have hx2 : ({ x with commits := true, stamp := E.clock + 1 } : Tx) = { x with stamp := E.clock + 1 } := by rw [← hcm]
    unfold stepR
    rw [hth]
    simp only [if_neg hn, if_neg hst, hf, hx1, hx2, setT_same hx]
  refine (pass_c w H i x hi hx hs hp1 hcm hst (Q.dn hst) Q.lo Q.inr Q.rl ⟨Q.pl, Q.small⟩ Q.ck).mono ?_
  rintro e w' (⟨h1, rfl, hb⟩ | ⟨h1, h2, rfl, ho, hE⟩ | ⟨h1, h2, rfl, ho, hE⟩)
  · rw [hsR, if_neg h1]
    exact ⟨rfl, OnS.of hb, F, ⟨tv, G, H.keep hb⟩, Gr.refl _ _⟩
  · rw [hsR, if_pos h1, if_pos h2]
    exact ⟨rfl, ho, hE⟩
  · rw [hsR, if_pos h1, if_neg h2]
    exact ⟨rfl, ho, hE⟩
end
end Go.Proofs.Ytjoifodjbdbicaa.PR

/- The program's engine: Step. -/
namespace Go.Proofs.Ytjoifodjbdbicaa.PU
open Go.RowKit Go.Proofs.Ytjoifodjbdbicaa.RG Go.Proofs.Ytjoifodjbdbicaa.RB Go.Proofs.Ytjoifodjbdbicaa.RI Go.Proofs.Ytjoifodjbdbicaa.RM Go.Proofs.Ytjoifodjbdbicaa.UA Go.Proofs.Ytjoifodjbdbicaa.UB Go.Proofs.Ytjoifodjbdbicaa.UD Go.Proofs.Ytjoifodjbdbicaa.UE Go.Proofs.Ytjoifodjbdbicaa.UG Go.Proofs.Ytjoifodjbdbicaa.UH Go.Proofs.Ytjoifodjbdbicaa.UI Go.Proofs.Ytjoifodjbdbicaa.UK Go.Proofs.Ytjoifodjbdbicaa.UZ Go.Proofs.Ytjoifodjbdbicaa.PA Go.Proofs.Ytjoifodjbdbicaa.PB Go.Proofs.Ytjoifodjbdbicaa.PC Go.Proofs.Ytjoifodjbdbicaa.PD Go.Proofs.Ytjoifodjbdbicaa.PE Go.Proofs.Ytjoifodjbdbicaa.PF Go.Proofs.Ytjoifodjbdbicaa.PG Go.Proofs.Ytjoifodjbdbicaa.PJ Go.Proofs.Ytjoifodjbdbicaa.PK Go.Proofs.Ytjoifodjbdbicaa.PM Go.Proofs.Ytjoifodjbdbicaa.PN Go.Proofs.Ytjoifodjbdbicaa.PO Go.Proofs.Ytjoifodjbdbicaa.PP Go.Proofs.Ytjoifodjbdbicaa.PQ Go.Proofs.Ytjoifodjbdbicaa.PR
set_option linter.unusedVariables false
set_option maxRecDepth 100000
set_option maxRecDepth 100000

section
variable {F : Nat → Prop} {p : Nat} {E : Eg} {vv : Value} {tv : Nat → Option Nat} {G : Nat → Nat → Prop}
theorem one_map {ms : List Mp} {x : Tx} (h : (ms.length : Int) = x.parts) (h1 : x.parts = 1) : ∃ m, ms = [m] := by
  have hl : ms.length = 1 := by omega
  match ms, hl with
  | [m], _ => exact ⟨m, rfl⟩
/-- Who begins to commit has all its vars left. -/
theorem com_left {i : Nat} {x : Tx} (hx : E.T[i]? = some x) (hst : ¬ 0 < x.stamp) (hc : x.commits = false) (Q : TQ E i x) (hlk : Lk E) : lftR E.V (i : Int) { x with commits := true } = (sortR x.puts 1).map (·.n) := by
  rw [lft_lock (x := { x with commits := true }) hst rfl]
  congr 1
  apply left_all
  intro q hq
  have hqn := Q.inp q (sortR_mem hq).1
  obtain ⟨v, hv⟩ := getElem?_of_lt (l := E.V) (k := q.n.toNat) (by omega)
  exact ⟨v, hv, no_lk hlk hx hc (mem_of hv)⟩
/-- A transaction begins to commit: all its vars are left. -/
theorem com_mid {w w3 : World} (H : EI w F p E vv tv G) {i : Nat} {x : Tx} {b : Nat} (hx : E.T[i]? = some x) (hs : x.is = true) (hb : tv i = some b) {rv pv lv : Value} {m : Mp} {L : List Int} (HX : TX w (G i) b x L rv pv lv [m]) (hst : ¬ 0 < x.stamp) (hc : x.commits = false) (Q : TQ E i x) (hlk : Lk E) (hbl : Below w.heap.size w w3) {g3 n cap3 : Nat} (hr : RowI w3 (.slice (some ⟨g3, 0, none⟩) n cap3) ((sortR x.puts 1).map (·.n))) (hk : ∃ cur, Bk w3 g3 cur 3) (hg : w.heap.size ≤ g3) :
    OnS F w ((w3.setCell ⟨b, 3, none⟩ (.bool true)).setCell ⟨b, 4, none⟩ (.slice (some ⟨g3, 0, none⟩) n cap3)) ∧ (∃ F' G', EI ((w3.setCell ⟨b, 3, none⟩ (.bool true)).setCell ⟨b, 4, none⟩ (.slice (some ⟨g3, 0, none⟩) n cap3)) F' p (setT E (i : Int) { x with commits := true }) vv tv G' ∧ Gr w F F') ∧ lftR E.V (i : Int) { x with commits := true } = (sortR x.puts 1).map (·.n) := by
  have hlf := com_left hx hst hc Q hlk
  have hX3 := HX.keep hbl
  have hT3 : TC w3 b (txc x rv pv lv) x.reads ((sortR x.puts 1).map (·.n)) rv pv (.slice (some ⟨g3, 0, none⟩) n cap3) [m] := ⟨hX3.bk, hX3.rd, hX3.pt, hr, hX3.mp, fun c hc => by injection hc with hc; rw [← show g3 = c from hc]; exact hk⟩
  have hT5 := (hT3.wr 3 (.bool true)).wr 4 (.slice (some ⟨g3, 0, none⟩) n cap3)
  have hon : OnS (fun c => c = b) w ((w3.setCell ⟨b, 3, none⟩ (.bool true)).setCell ⟨b, 4, none⟩ (.slice (some ⟨g3, 0, none⟩) n cap3)) := ((OnS.of hbl).trans (OnS.cell b 3 _)).trans (OnS.cell b 4 _)
  have hg3 : g3 < ((w3.setCell ⟨b, 3, none⟩ (.bool true)).setCell ⟨b, 4, none⟩ (.slice (some ⟨g3, 0, none⟩) n cap3)).heap.size := by rw [World.size_setCell, World.size_setCell]; exact hk.choose_spec.lt
  have hX5 : TX _ (Fx (G i) w ((w3.setCell ⟨b, 3, none⟩ (.bool true)).setCell ⟨b, 4, none⟩ (.slice (some ⟨g3, 0, none⟩) n cap3))) b { x with commits := true } ((sortR x.puts 1).map (·.n)) rv pv (.slice (some ⟨g3, 0, none⟩) n cap3) [m] := TC.tx (x := { x with commits := true }) hT5 HX.np HX.isp HX.nd (fun c hc e => by injection e with e; have e : g3 = c := e; have := HX.lt c (HX.inr c hc); omega) (.inl HX.inb) (fun c h => .inl (HX.inr c h)) (fun c h => .inl (HX.inp c h)) (fun c h => by injection h with h; have h : g3 = c := h; subst h; exact .inr ⟨hg, hg3⟩) (fun y hy => .inl (HX.inm y hy)) (fun c h => by
    rcases h with h | h
    · exact Nat.lt_of_lt_of_le (HX.lt c h) hon.size
    · exact h.2)
  refine ⟨hon.weak fun c _ h => by rw [h]; exact H.gf i b HX.inb, ⟨_, _, ei_upd (x' := { x with commits := true }) H hx hb hs hon (fun c _ h => by rw [h]; exact HX.inb) ⟨rv, pv, _, [m], hlf.symm ▸ hX5⟩, gr_ei _ _ _⟩, hlf⟩
theorem tq_com {i : Nat} {x : Tx} (Q : TQ E i x) : TQ (setT E (i : Int) { x with commits := true }) i { x with commits := true } := ⟨Q.un, Q.pl, Q.inp, Q.inr, Q.rl, Q.lo, Q.vs, Q.ck, Q.st, Q.dn, Q.ow⟩
/-- A step behind a step. -/
theorem Stepd.next {w w1 w2 : World} {F1 : Nat → Prop} {E' : Eg} (ho : OnS F w w1) (hg : Gr w F F1) (h : Stepd F1 p vv E' w1 w2) : Stepd F p vv E' w w2 := by
  obtain ⟨h1, F2, h2, h3⟩ := h
  exact ⟨ho.next h1 hg, F2, h2, fun c hc => by
    rcases h3 c hc with h | h
    · exact hg c h
    · exact .inr (Nat.le_trans ho.size h)⟩
set_option maxHeartbeats 1600000 in
theorem step_c (w : World) (H : EI w F p E vv tv G) (h8 : E.T.length = 8) (t : Int) (HQ : ∀ (i : Nat) (x : Tx), E.T[i]? = some x → x.is = true → TQ E i x) (hp : ∀ x, x ∈ E.T → x.is = true → 1 ≤ x.parts ∧ x.parts ≤ 1000000) (hcs : ∀ x, x ∈ E.T → 0 < x.stamp → x.commits = true) (hlk : Lk E) :
    Calls Try.prog 25 #[.pointer (some ⟨p, 0, none⟩), .int .i64 t] w fun e w' => e = .returned (.tuple #[.int .i64 (stepR E t).2.1, .int .i64 (stepR E t).2.2]) ∧ Stepd F p vv (stepR E t).1 w w' := by
  have HO := Lib.hid (of_c w F p E vv tv G H t)
  have HH := Lib.hid H
  rcases who H h8 t with ⟨h1, h2, h3⟩ | ⟨i, x, b, rfl, hi, hx, hth, hs, hb, rv, pv, lv, ms, HX⟩
  · have hr : stepR E t = (E, 0, 1) := by
      unfold stepR
      unfold hasR at h2
      cases hx : thR E t with
      | none => rfl
      | some x => rw [hx] at h2; exact if_pos (.inl h2)
    rw [hr]
    rw [h1, ptr_none] at HO
    clear H h1 h2 h3 hr HQ hp hcs hlk
    go_enter Try.func25, Try.ntmps25
    go_wp2_with (go_at_call 53; refine HO.out.mono ?_; rintro e w9 ⟨rfl, hw9⟩; subst w9)
    go_ret2
    exact ⟨rfl, OnS.refl _ _, F, ⟨tv, G, HH.out⟩, Gr.refl _ _⟩
  · rw [ofV_nat tv hi, hb, ptr_some] at HO
    have hpp := hp x (mem_of hx) hs
    have hQ := HQ i x hx hs
    obtain ⟨c0, c1, c2, c3, c4, c5⟩ := HX.cells
    obtain ⟨pa, pc, hpv, _⟩ := HX.pt.val
    rw [List.length_map] at hpv
    obtain ⟨K, hK⟩ : ∃ K, Hid (ms.length = K) := ⟨_, Lib.hid rfl⟩
    rw [hK.out] at hpv
    have HNP := Lib.hid (show (K : Int) = x.parts by have := HX.np; rw [hK.out] at this; exact this)
    rw [hpv] at c2
    have HXX := Lib.hid HX
    have HX0 := Lib.hid hx
    have HS := Lib.hid hs
    have HB := Lib.hid hb
    have HQQ := Lib.hid hQ
    by_cases hp1 : 1 < x.parts
    · have hr : stepR E (i : Int) = (E, 0, 1) := by unfold stepR; rw [hth]; exact if_pos (.inr hp1)
      rw [hr]
      have hk1 : (1 : Int) < (K : Int) := by rw [HNP.out]; exact hp1
      clear H hr HQ hp hcs hlk HX hx hth hs hb hQ hpp c0 c1 c3 c4 c5 hpv hp1
      go_enter Try.func25, Try.ntmps25
      go_wp2_with (go_at_call 53; refine HO.out.mono ?_; rintro e w9 ⟨rfl, hw9⟩; subst w9)
      go_ret2
      exact ⟨rfl, OnS.refl _ _, F, ⟨tv, G, HH.out⟩, Gr.refl _ _⟩
    · have hpe : x.parts = 1 := by omega
      obtain ⟨m, rfl⟩ := one_map HX.np hpe
      have hK1 : K = 1 := by rw [← hK.out]; rfl
      subst hK1
      cases hc : x.commits with
      | true =>
        obtain ⟨la, lc, hlv, _⟩ := HX.lf.val
        obtain ⟨n, hn⟩ : ∃ n, Hid ((lftR E.V (i : Int) x).length = n) := ⟨_, Lib.hid rfl⟩
        rw [hn.out] at hlv
        rw [hlv] at c4
        rw [hc] at c3
        by_cases hst : 0 < x.stamp
        · have HP := Lib.hid (putT w H i x hi hx hs hpe hc hst hQ)
          clear H HQ hp hcs hlk HX hx hth hs hb hQ hpp c0 c1 hpv hp1 hlv
          go_enter Try.func25, Try.ntmps25
          go_wp2_with (first
            | (go_at_call 53; refine HO.out.mono ?_; rintro e w9 ⟨rfl, hw9⟩; subst w9)
            | (go_at_call 56; refine HP.out.mono ?_; rintro e w1 ⟨rfl, hf1, ho1⟩; have HF1 := Lib.hid hf1; have HO1 := Lib.hid ho1; clear hf1 ho1))
          go_ret2
          rw [HF1.out]
          exact ⟨rfl, HO1.out⟩
        · by_cases hL : lftR E.V (i : Int) x = []
          · have HP := Lib.hid (passT w H i x hi hx hs hpe hc hst hQ hL)
            have hn0 : n = 0 := by rw [← hn.out, hL]; rfl
            subst hn0
            obtain ⟨k1, hk1⟩ : ∃ k, Hid ((stepR E (i : Int)).2.1 = k) := ⟨_, Lib.hid rfl⟩
            obtain ⟨k2, hk2⟩ : ∃ k, Hid ((stepR E (i : Int)).2.2 = k) := ⟨_, Lib.hid rfl⟩
            rw [hk1.out, hk2.out] at HP ⊢
            clear H HQ hp hcs hlk HX hx hth hs hb hQ hpp c0 c1 hpv hp1 hlv
            go_enter Try.func25, Try.ntmps25
            go_wp2_with (first
              | (go_at_call 53; refine HO.out.mono ?_; rintro e w9 ⟨rfl, hw9⟩; subst w9)
              | (go_at_call 58; refine HP.out.mono ?_; rintro e w1 ⟨rfl, ho1⟩; have HO1 := Lib.hid ho1; clear ho1))
            go_ret2
            exact ⟨rfl, HO1.out⟩
          · have HP := Lib.hid (lockT w H i x hi hx hs hpe hc hst hQ hL)
            have hn0 : (0 : Int) < (n : Int) := by have := List.length_pos_iff.2 hL; rw [hn.out] at this; omega
            obtain ⟨k1, hk1⟩ : ∃ k, Hid ((stepR E (i : Int)).2.1 = k) := ⟨_, Lib.hid rfl⟩
            obtain ⟨k2, hk2⟩ : ∃ k, Hid ((stepR E (i : Int)).2.2 = k) := ⟨_, Lib.hid rfl⟩
            rw [hk1.out, hk2.out] at HP ⊢
            clear H HQ hp hcs hlk HX hx hth hs hb hQ hpp c0 c1 hpv hp1 hlv
            go_enter Try.func25, Try.ntmps25
            go_wp2_with (first
              | (go_at_call 53; refine HO.out.mono ?_; rintro e w9 ⟨rfl, hw9⟩; subst w9)
              | (go_at_call 57; refine HP.out.mono ?_; rintro e w1 ⟨rfl, ho1⟩; have HO1 := Lib.hid ho1; clear ho1))
            go_ret2
            exact ⟨rfl, HO1.out⟩
      | false =>
        have hst : ¬ 0 < x.stamp := fun h => by rw [hcs x (mem_of hx) h] at hc; cases hc
        have hisp : IsP m.2 x.puts 1 := HX.isp 0 m rfl
        have HSR := Lib.hid (srt_isP hisp hQ.small)
        have HST := Lib.hid hst
        have HC := Lib.hid hc
        have HLK := Lib.hid hlk
        have HY := Lib.hid (youngest_c (ms := []) w HX (Nat.zero_le _))
        have HRI := Lib.hid (fun w1 (h : Below w.heap.size w w1) => PH.rising_c w1 m.1 m.2 ((HX.mp m (by simp)).keep h) hisp.nd (small_isP hisp hQ.small) (Nat.le_trans hisp.len hQ.pl))
        obtain ⟨n, hn⟩ : ∃ n, Hid (m.2.length = n) := ⟨_, Lib.hid rfl⟩
        rw [hn.out] at HRI
        have HSN := Lib.hid (show (sortR x.puts 1).length = n from by
          have h1 := congrArg List.length HSR.out
          rw [srt_len, List.length_map, List.length_map, hn.out] at h1
          exact h1.symm)
        have hx1 : (setT E (i : Int) { x with commits := true }).T[i]? = some { x with commits := true } := by
          show (E.T.set ((i : Int).toNat) _)[i]? = _
          rw [Int.toNat_natCast]
          exact set_some hx
        have hsc := step_com hx hs hp1 (fun h => absurd h hst)
        have hlf := com_left hx hst hc hQ hlk
        obtain ⟨k1, hk1⟩ : ∃ k, Hid ((stepR E (i : Int)).2.1 = k) := ⟨_, Lib.hid rfl⟩
        obtain ⟨k2, hk2⟩ : ∃ k, Hid ((stepR E (i : Int)).2.2 = k) := ⟨_, Lib.hid rfl⟩
        rw [hk1.out, hk2.out]
        rw [hc] at c3
        by_cases hn0 : n = 0
        · have HP := Lib.hid (fun (W : World) (F' : Nat → Prop) (G' : Nat → Nat → Prop) (h : EI W F' p (setT E (i : Int) { x with commits := true }) vv tv G') => passT W h i _ hi hx1 hs hpe rfl hst (tq_com hQ) (by show lftR E.V _ _ = []; rw [hlf, List.length_eq_zero_iff.1 (HSN.out.trans hn0)]; rfl))
          rw [hsc, hk1.out, hk2.out] at HP
          subst hn0
          clear H HQ hp hcs hlk HX hx hth hs hb hQ hpp c0 c1 c4 c5 hpv hp1 hc hisp hx1 hsc hlf
          go_enter Try.func25, Try.ntmps25
          go_wp2_with (first
            | (go_at_call 53; refine HO.out.mono ?_; rintro e w9 ⟨rfl, hw9⟩; subst w9)
            | (go_at_call 55; refine HY.out.mono ?_; rintro e w2 ⟨rfl, hb2⟩; have HB2 := Lib.hid hb2; clear hb2)
            | (go_at_call 54; refine (HRI.out w2 HB2.out).mono ?_; rintro e w3 ⟨g3, cap3, rfl, hr3, hk3, hg3, hb3⟩; have HB3 := Lib.hid (bnext HB2.out hb3); have HCM := Lib.hid (com_mid HH.out HX0.out HS.out HB.out HXX.out (Int.not_lt.2 HST.out) HC.out HQQ.out HLK.out HB3.out (by rw [← HSR.out]; exact hr3) hk3 (Nat.le_trans HB2.out.size hg3)); have hk := (HXX.out.keep HB3.out).bk; have f3 := hk.free 3; have f4 := hk.free 4; have c3w : w3.cell? ⟨b, 3, none⟩ = some (.bool false) := (by have h9 : w3.cell? ⟨b, 3, none⟩ = some (.bool x.commits) := hk.cell 3 _ rfl; rw [HC.out] at h9; exact h9); have c4w : w3.cell? ⟨b, 4, none⟩ = some lv := hk.cell 4 _ rfl; have c5w : w3.cell? ⟨b, 5, none⟩ = some (.int .i64 x.stamp) := hk.cell 5 _ rfl; have bl := hk.lt; clear hr3 hk3 hg3 hb3 hk)
            | (go_at_call 58; obtain ⟨ho1, ⟨F1, G1, e1, g1⟩, _⟩ := HCM.out; have HOO := Lib.hid ho1; have HG1 := Lib.hid g1; refine (HP.out _ _ _ e1).mono ?_; rintro e w4 ⟨rfl, ho4⟩; have HO1 := Lib.hid (Stepd.next HOO.out HG1.out ho4); clear ho1 e1 g1 ho4))
          go_ret2
          exact ⟨rfl, HO1.out⟩
        · have hnp : (0 : Int) < (n : Int) := by omega
          have HP := Lib.hid (fun (W : World) (F' : Nat → Prop) (G' : Nat → Nat → Prop) (h : EI W F' p (setT E (i : Int) { x with commits := true }) vv tv G') => lockT W h i _ hi hx1 hs hpe rfl hst (tq_com hQ) (by show lftR E.V _ _ ≠ []; rw [hlf]; exact fun e => hn0 (by have := congrArg List.length e; rw [List.length_map, HSN.out] at this; simpa using this)))
          rw [hsc, hk1.out, hk2.out] at HP
          clear H HQ hp hcs hlk HX hx hth hs hb hQ hpp c0 c1 c4 c5 hpv hp1 hc hisp hx1 hsc hlf
          go_enter Try.func25, Try.ntmps25
          go_wp2_with (first
            | (go_at_call 53; refine HO.out.mono ?_; rintro e w9 ⟨rfl, hw9⟩; subst w9)
            | (go_at_call 55; refine HY.out.mono ?_; rintro e w2 ⟨rfl, hb2⟩; have HB2 := Lib.hid hb2; clear hb2)
            | (go_at_call 54; refine (HRI.out w2 HB2.out).mono ?_; rintro e w3 ⟨g3, cap3, rfl, hr3, hk3, hg3, hb3⟩; have HB3 := Lib.hid (bnext HB2.out hb3); have HCM := Lib.hid (com_mid HH.out HX0.out HS.out HB.out HXX.out (Int.not_lt.2 HST.out) HC.out HQQ.out HLK.out HB3.out (by rw [← HSR.out]; exact hr3) hk3 (Nat.le_trans HB2.out.size hg3)); have hk := (HXX.out.keep HB3.out).bk; have f3 := hk.free 3; have f4 := hk.free 4; have c3w : w3.cell? ⟨b, 3, none⟩ = some (.bool false) := (by have h9 : w3.cell? ⟨b, 3, none⟩ = some (.bool x.commits) := hk.cell 3 _ rfl; rw [HC.out] at h9; exact h9); have c4w : w3.cell? ⟨b, 4, none⟩ = some lv := hk.cell 4 _ rfl; have c5w : w3.cell? ⟨b, 5, none⟩ = some (.int .i64 x.stamp) := hk.cell 5 _ rfl; have bl := hk.lt; clear hr3 hk3 hg3 hb3 hk)
            | (go_at_call 57; obtain ⟨ho1, ⟨F1, G1, e1, g1⟩, _⟩ := HCM.out; have HOO := Lib.hid ho1; have HG1 := Lib.hid g1; refine (HP.out _ _ _ e1).mono ?_; rintro e w4 ⟨rfl, ho4⟩; have HO1 := Lib.hid (Stepd.next HOO.out HG1.out ho4); clear ho1 e1 g1 ho4))
          go_ret2
          exact ⟨rfl, HO1.out⟩
end
end Go.Proofs.Ytjoifodjbdbicaa.PU

/- The program's engine: Abort. -/
namespace Go.Proofs.Ytjoifodjbdbicaa.PV
open Go.RowKit Go.Proofs.Ytjoifodjbdbicaa.RG Go.Proofs.Ytjoifodjbdbicaa.RB Go.Proofs.Ytjoifodjbdbicaa.RI Go.Proofs.Ytjoifodjbdbicaa.RM Go.Proofs.Ytjoifodjbdbicaa.UA Go.Proofs.Ytjoifodjbdbicaa.UB Go.Proofs.Ytjoifodjbdbicaa.UD Go.Proofs.Ytjoifodjbdbicaa.UE Go.Proofs.Ytjoifodjbdbicaa.UG Go.Proofs.Ytjoifodjbdbicaa.UH Go.Proofs.Ytjoifodjbdbicaa.UI Go.Proofs.Ytjoifodjbdbicaa.UK Go.Proofs.Ytjoifodjbdbicaa.UZ Go.Proofs.Ytjoifodjbdbicaa.PA Go.Proofs.Ytjoifodjbdbicaa.PB Go.Proofs.Ytjoifodjbdbicaa.PC Go.Proofs.Ytjoifodjbdbicaa.PD Go.Proofs.Ytjoifodjbdbicaa.PE Go.Proofs.Ytjoifodjbdbicaa.PF Go.Proofs.Ytjoifodjbdbicaa.PG Go.Proofs.Ytjoifodjbdbicaa.PJ Go.Proofs.Ytjoifodjbdbicaa.PK Go.Proofs.Ytjoifodjbdbicaa.PM Go.Proofs.Ytjoifodjbdbicaa.PN Go.Proofs.Ytjoifodjbdbicaa.PO Go.Proofs.Ytjoifodjbdbicaa.PP Go.Proofs.Ytjoifodjbdbicaa.PQ Go.Proofs.Ytjoifodjbdbicaa.PR Go.Proofs.Ytjoifodjbdbicaa.PU
set_option linter.unusedVariables false
set_option maxRecDepth 100000
set_option maxRecDepth 100000

/-- The vars, where those of l are not a thread's any more. -/
structure Ul (V : List Vr) (t : Int) (l : List Int) (V' : List Vr) : Prop where
  len : V'.length = V.length
  at_ : ∀ (k : Nat) (v : Vr), V[k]? = some v → V'[k]? = some (if (k : Int) ∈ l then unlock t v else v)
theorem ul_nil (V : List Vr) (t : Int) : Ul V t [] V := ⟨rfl, fun k v h => by rw [if_neg (by simp)]; exact h⟩
theorem Ul.step {V V' : List Vr} {t : Int} {l : List Int} (h : Ul V t l V') {n0 : Nat} {v : Vr} (hv : V[n0]? = some v) (hn : (n0 : Int) ∉ l) {V2 : List Vr} (h2 : V2 = if v.lock = t then V'.set n0 { v with lock := -1 } else V') : V'[n0]? = some v ∧ Ul V t (l ++ [(n0 : Int)]) V2 := by
  have h0 := h.at_ n0 v hv
  rw [if_neg hn] at h0
  refine ⟨h0, ?_, fun k u hu => ?_⟩
  · rw [h2]
    split
    · rw [List.length_set, h.len]
    · exact h.len
  · by_cases e : k = n0
    · subst e
      rw [hv] at hu
      injection hu with hu
      subst hu
      rw [if_pos (by simp), h2]
      unfold unlock
      split
      · exact List.getElem?_set_self (List.getElem?_eq_some_iff.1 h0).1
      · exact h0
    · have h3 : ((k : Int) ∈ l ++ [(n0 : Int)]) ↔ (k : Int) ∈ l := by
        rw [List.mem_append, List.mem_singleton]
        exact ⟨fun h => h.elim id (fun h => absurd (by omega) e), .inl⟩
      have h4 : V2[k]? = V'[k]? := by
        rw [h2]
        split
        · exact List.getElem?_set_ne (Ne.symm e)
        · rfl
      rw [h4, h.at_ k u hu]
      by_cases hk : (k : Int) ∈ l
      · rw [if_pos hk, if_pos (h3.2 hk)]
      · rw [if_neg hk, if_neg (fun h => hk (h3.1 h))]
theorem Ul.all {V V' : List Vr} {t : Int} {l : List Int} (h : Ul V t l V') (hl : ∀ (k : Nat) (v : Vr), V[k]? = some v → v.lock = t → (k : Int) ∈ l) : V' = V.map (unlock t) := by
  apply List.ext_getElem?
  intro k
  rw [List.getElem?_map]
  cases hv : V[k]? with
  | none => exact List.getElem?_eq_none (by rw [h.len]; exact List.getElem?_eq_none_iff.1 hv)
  | some v =>
    rw [h.at_ k v hv]
    show _ = some (unlock t v)
    by_cases hk : (k : Int) ∈ l
    · rw [if_pos hk]
    · rw [if_neg hk]
      unfold unlock
      rw [if_neg (fun e => hk (hl k v hv e))]
section
variable {F : Nat → Prop} {p : Nat} {E : Eg} {vv : Value} {tv : Nat → Option Nat} {G : Nat → Nat → Prop}
/-- A var's cells, in a row of vars. -/
theorem vs_at {w : World} {g n cap : Nat} {V : List Vr} (h : OwnF TVp w (.slice (some ⟨g, 0, none⟩) n cap) V) {k : Nat} {v : Vr} (hv : V[k]? = some v) : w.cell? ⟨g, k * 3 + 2, none⟩ = some (.int .i64 v.lock) ∧ w.cell? ⟨g, k * 3, none⟩ = some (.int .i64 v.val) ∧ w.frozen? ⟨g, k * 3 + 2, none⟩ = false ∧ w.frozen? ⟨g, k * 3, none⟩ = false ∧ g < w.heap.size := by
  have h0 : V ≠ [] := by intro e; rw [e] at hv; simp at hv
  obtain ⟨⟨cur, hk⟩, _⟩ := own_blk h rfl
  obtain ⟨b, off, cap', e, _, _, hc⟩ := h.row.open_ h0
  injection e with e1
  injection e1 with e1
  injection e1 with e1 e2
  subst e1
  subst e2
  obtain ⟨q, hL, _⟩ := hc k v hv
  have h2 := hL 2 _ rfl
  have h3 := hL 0 _ rfl
  rw [Nat.zero_add] at h2 h3
  exact ⟨h2, h3, hk.free _, hk.free _, hk.lt⟩
set_option maxHeartbeats 1600000 in
theorem abort_c (w : World) (H : EI w F p E vv tv G) (h8 : E.T.length = 8) (t : Int) (HQ : ∀ (i : Nat) (x : Tx), E.T[i]? = some x → x.is = true → TQ E i x) (hp : ∀ x, x ∈ E.T → x.is = true → 1 ≤ x.parts ∧ x.parts ≤ 1000000) (hlk : Lk E) :
    Calls Try.prog 24 #[.pointer (some ⟨p, 0, none⟩), .int .i64 t] w fun e w' => e = .returned (.int .i64 (abortR E t).2) ∧ Stepd F p vv (abortR E t).1 w w' := by
  have HO := Lib.hid (of_c w F p E vv tv G H t)
  have HH := Lib.hid H
  rcases who H h8 t with ⟨h1, h2, h3⟩ | ⟨i, x, b, rfl, hi, hx, hth, hs, hb, rv, pv, lv, ms, HX⟩
  · have hr : abortR E t = (E, 1) := by
      unfold abortR
      unfold hasR at h2
      cases hx : thR E t with
      | none => rfl
      | some x => rw [hx] at h2; exact if_pos (.inl h2)
    rw [hr]
    rw [h1, ptr_none] at HO
    clear H h1 h2 h3 hr HQ hp hlk
    go_enter Try.func24, Try.ntmps24
    go_wp2_with (go_at_call 53; refine HO.out.mono ?_; rintro e w9 ⟨rfl, hw9⟩; subst w9)
    go_ret
    exact ⟨rfl, OnS.refl _ _, F, ⟨tv, G, HH.out⟩, Gr.refl _ _⟩
  · rw [ofV_nat tv hi, hb, ptr_some] at HO
    obtain ⟨c0, c1, c2, c3, c4, c5⟩ := HX.cells
    by_cases hst : 0 < x.stamp
    · have hr : abortR E (i : Int) = (E, 1) := by unfold abortR; rw [hth]; exact if_pos (.inr hst)
      rw [hr]
      clear H hr HQ hp hlk HX hx hth hs hb c0 c1 c2 c3 c4
      go_enter Try.func24, Try.ntmps24
      go_wp2_with (go_at_call 53; refine HO.out.mono ?_; rintro e w9 ⟨rfl, hw9⟩; subst w9)
      go_ret
      exact ⟨rfl, OnS.refl _ _, F, ⟨tv, G, HH.out⟩, Gr.refl _ _⟩
    · have hr : abortR E (i : Int) = ({ setT E (i : Int) tx0 with V := E.V.map (unlock (i : Int)) }, 0) := by
        unfold abortR
        rw [hth]
        exact if_neg (fun e => by
          rcases e with e | e
          · rw [hs] at e; cases e
          · exact hst e)
      rw [hr]
      have hpp := hp x (mem_of hx) hs
      have hQ := HQ i x hx hs
      have hne : ms ≠ [] := fun e => by have := HX.np; rw [e] at this; simp at this; omega
      obtain ⟨m, ms', rfl⟩ : ∃ m ms', ms = m :: ms' := List.exists_cons_of_ne_nil hne
      have hisp : IsP m.2 x.puts 1 := HX.isp 0 m rfl
      obtain ⟨gb, cap, cur, hpv, hk, hg, hf⟩ := own_block HX.pt (by simp)
      obtain ⟨b', off, cap', hv', _, _, hc⟩ := HX.pt.row.open_ (by simp)
      rw [hpv] at hv'
      injection hv' with e1 _ e2
      injection e1 with e1
      injection e1 with e1 e3
      subst e1
      subst e3
      subst e2
      obtain ⟨q, hL, _⟩ := hc 0 m.1 rfl
      have y0 : w.cell? ⟨gb, 0, none⟩ = some (.map (some m.1)) := by have := hL 0 _ rfl; simpa using this
      obtain ⟨K, hK⟩ : ∃ K, Hid (ms'.length = K) := ⟨_, Lib.hid rfl⟩
      rw [hpv, show ((m :: ms').map (·.1)).length = K + 1 by rw [← hK.out]; simp] at c2
      have k1 : (0 : Int) < (K : Int) + 1 := by omega
      have hown : w.ownsMap Try.prog 3 anyInt m.1 m.2.length (dat m.2) := (HX.mp m (by simp)).own hisp.nd (small_isP hisp hQ.small) (by have := hisp.len; have := hQ.pl; omega)
      obtain ⟨N, hN⟩ : ∃ N, Hid (m.2.length = N) := ⟨_, Lib.hid rfl⟩
      have HSD := Lib.hid (PH.size_dat m.2)
      have HLS := Lib.hid (left_start m.2)
      have HIS := Lib.hid hisp
      rw [hN.out] at hown HSD
      obtain ⟨va, vc, hvv, _⟩ := H.vs.val
      have HXX := Lib.hid HX
      have HX0 := Lib.hid hx
      have HQQ := Lib.hid hQ
      have HLK := Lib.hid hlk
      have HVV := Lib.hid hvv
      have pf := H.bk.free (2 + i)
      have pl := H.bk.lt
      have ml := (HX.mp m (by simp)).lt
      have y2 := H.tc hi
      rw [hb, ptr_some] at y2
      have HY2 := Lib.hid y2
      have i0 : (0 : Int) ≤ (i : Int) := by omega
      have i1 : (i : Int) < 8 := by omega
      clear H hr HQ hp hlk HX hx hth hs hb c0 c1 c3 c4 hQ hpp hne hisp hk hf hc hpv hL hvv y2
      go_enter Try.func24, Try.ntmps24
      go_wp2_with (first
        | (go_at_call 53; refine HO.out.mono ?_; rintro e w9 ⟨rfl, hw9⟩; subst w9)
        | (at_range; go_loud (refine wpList_range_own _ rfl _ 88 rfl 3 3 kinfo Try.underlying88 _ _ N (dat m.2) rfl hown ?_); intro w0 hrg0 hg0 hs0; rw [HSD.out] at hrg0; have HRG := Lib.hid hrg0; have HG := Lib.hid hg0; have HZ := Lib.hid hs0; clear hrg0 hg0 hs0 hown))
      go_frame
      go_loopg [6] N (fun g lw wr => ∃ (l : List Int) (left : Lit → Bool) (V' : List Vr), Hid (wr.ranges Try.prog 3 anyInt m.1 w.heap.size N (dat m.2) left g) ∧ Hid (OwnF TVp wr vv V') ∧ Hid (Ul E.V (i : Int) l V') ∧ Hid (PB.Left m.2 l left) ∧ Hid (w.heap.size < wr.heap.size) ∧ Hid (OnS (fun c => vv.ownBlock = some c) w wr))
      case atStart =>
        exact ⟨[], _, E.V, HRG, Lib.hid (HH.out.vs.keep (bgrown HG.out (fun b hb => by cases hb) (Nat.le_refl _))), Lib.hid (ul_nil _ _), HLS, Lib.hid (by rw [HZ.out]; omega), Lib.hid (OnS.of (bgrown HG.out (fun b hb => by cases hb) (Nat.le_refl _)))⟩
      case round =>
        obtain ⟨l, left, V', HR, HW, HU, HL, HSZ, HON⟩ := hrel
        go_wp2_with (first
          | (at_next; refine wpList_next_ranges _ rfl _ rfl 3 kinfo anyInt (Value.int .i64) (Value.int .i64) (fun key kl hk => by obtain ⟨x, rfl, _⟩ := Maps.keyOf_int_inv Try.underlying3 hk; exact ⟨x, rfl⟩) anyInt_inv m.1 w.heap.size N _ _ _ rfl HR.out ?_ ?_)
          | go_in)
        · intro hc0 hl0
          have HAL := Lib.hid (HL.out.all hl0)
          have hqb := HON.out.bk HH.out.bk HH.out.vne
          have HQB := Lib.hid hqb
          have qf := hqb.free (2 + i)
          have q2 : wr.cell? ⟨p, 2 + i, none⟩ = some (.pointer (some ⟨b, 0, none⟩)) := (World.cell?_of_block (w := w) (a := ⟨p, 2 + i, none⟩) (HON.out.block p HH.out.bk.lt HH.out.vne)).trans HY2.out
          have ql := hqb.lt
          clear hl0 hqb
          go_wp2_with fail
          go_ret
          have hV : V' = E.V.map (unlock (i : Int)) := HU.out.all fun k v hv hvl => by
            obtain ⟨y, h1, h2⟩ := HLK.out.lk k v hv (by omega)
            rw [hvl, thR_nat, HX0.out] at h1
            injection h1 with h1
            subst h1
            obtain ⟨j, q, _, h3, h4⟩ := h2.2.2
            have h5 := sortR_mem (mem_of h3)
            exact (HAL.out k).2 (HIS.out.key.2 ⟨q, h5.1, h4, h5.2⟩)
          have hlf : ∀ (j : Nat) (y : Tx), j ≠ i → E.T[j]? = some y → y.is = true → lftR (E.V.map (unlock (i : Int))) (j : Int) y = lftR E.V (j : Int) y := fun j y hj _ _ => by
            by_cases hs : 0 < y.stamp
            · rw [lft_put hs, lft_put hs]
            · by_cases hc : y.commits = true
              · rw [lft_lock hs hc, lft_lock hs hc]
                congr 2
                funext q
                unfold lfree
                rw [List.getElem?_map]
                cases E.V[q.n.toNat]? with
                | none => rfl
                | some v =>
                  show (!decide ((unlock (i : Int) v).lock = (j : Int))) = !decide (v.lock = (j : Int))
                  unfold unlock
                  split
                  · next e =>
                    rw [e, decide_eq_false (show ¬ (-1 : Int) = (j : Int) by omega), decide_eq_false (show ¬ (i : Int) = (j : Int) by omega)]
                  · rfl
              · unfold lftR; rw [if_neg hs, if_neg hc, if_neg hs, if_neg hc]
          obtain ⟨h1, h2⟩ := ei_over (V := E.V.map (unlock (i : Int))) (c := E.clock) HH.out hi HX0.out HON.out (fun c _ h => .inr (.inl h)) HQB.out (hV ▸ HW.out) hlf
          exact ⟨rfl, h2, _, ⟨_, _, h1⟩, gr_ei _ _ _⟩
        · intro x0 c kl y1 y2 w2 cnt1 hkk hlk hy hat hrg1 hlt hg1 hs1 hen
          obtain ⟨x', ex, rfl, hwf⟩ := Maps.keyOf_int_inv Try.underlying3 hkk
          injection ex with _ ex
          subst ex
          have hkey := HL.out.sub x0 hlk
          obtain ⟨q, hq1, hq2, _⟩ := HIS.out.key.1 hkey
          have hqn := HQQ.out.inp q hq1
          obtain ⟨n0, rfl⟩ : ∃ n0 : Nat, x0 = (n0 : Int) := ⟨x0.toNat, by omega⟩
          obtain ⟨v, hv⟩ := getElem?_of_lt (l := E.V) (k := n0) (by omega)
          have hnl : (n0 : Int) ∉ l := fun h => by have := ((HL.out.mem _).1 h).2; rw [hlk] at this; cases this
          obtain ⟨hV0, hU2⟩ := HU.out.step hv hnl rfl
          have hvb : ∀ c, vv.ownBlock = some c → c < w.heap.size := fun c hc => (HH.out.vs.own hc).2
          have hW2 : OwnF TVp w2 vv V' := ownF_on HW.out (ons_grown hg1) (fun c hc e => by injection e with e; have := hvb c hc; omega)
          have hon2 : OnS (fun c => vv.ownBlock = some c) w w2 := HON.out.next (ons_grown hg1) (fun c e => .inr (by injection e with e; omega))
          obtain ⟨gv, capv, curv, hvv2, hkv, hgv, _⟩ := own_block hW2 (by intro e; rw [e] at hV0; simp at hV0)
          rw [HU.out.len] at hvv2
          have hW2' := hW2
          rw [hvv2] at hW2'
          obtain ⟨v2, v0, fz, _, gl⟩ := vs_at hW2' hV0
          have hqb := hon2.bk HH.out.bk HH.out.vne
          have y1 : w2.cell? ⟨p, 1, none⟩ = some (.slice (some ⟨gv, 0, none⟩) E.V.length capv) := by have h9 : w2.cell? ⟨p, 1, none⟩ = some vv := hqb.cell 1 _ rfl; rw [hvv2] at h9; exact h9
          have HW2 := Lib.hid hW2
          have HVV2 := Lib.hid hvv2
          have HON2 := Lib.hid hon2
          have HU2 := Lib.hid hU2
          have HV0 := Lib.hid hV0
          have HRG1 := Lib.hid hrg1
          have HLT := Lib.hid hlt
          have HST := Lib.hid (HL.out.step hlk)
          have HSZ2 := Lib.hid (show w.heap.size < w2.heap.size by rw [hs1]; exact HSZ.out)
          have HMG := Lib.hid (show m.1 ≠ gv from fun e => by
            have h9 := (HXX.out.mp m (by simp)).on hon2 (fun hc => by have := hvb _ hc; obtain ⟨⟨cr, hk9⟩, _⟩ := own_blk HH.out.vs hc; exact (HXX.out.mp m (by simp)).ne hk9 rfl)
            exact h9.ne hkv e)
          have HGW := Lib.hid (show gv < w.heap.size from hvb gv (by rw [hvv2]; rfl))
          obtain ⟨NV, hNV⟩ : ∃ NV, Hid (E.V.length = NV) := ⟨_, Lib.hid rfl⟩
          rw [hNV.out] at y1 hqn
          have n1 : (0 : Int) ≤ (n0 : Int) := by omega
          have n2 : (n0 : Int) < (NV : Int) := by omega
          obtain ⟨va1, ve1, lo1⟩ := v
          simp only at v2
          clear hkk hlk hy hat hrg1 hlt hg1 hs1 hwf hkey hq1 hq2 hqn hv hnl hV0 hU2 hW2 hW2' hon2 hvv2 hkv v0 hqb hvb
          by_cases hvl : lo1 = (i : Int)
          · subst hvl
            go_wp2_with fail
            go_roundg cnt1
            case rel =>
              have hgr : w2.grownBy (w2.setCell ⟨gv, n0 * 3 + 2, none⟩ (.int .i64 (-1))) (some gv) := ⟨rfl, rfl, rfl, (OnS.cell gv _ _).size, fun j hj hn => (OnS.cell (w := w2) gv (n0 * 3 + 2) (.int .i64 (-1))).block j hj (fun e => hn (by rw [e]))⟩
              have hw3 : OwnF TVp (w2.setCell ⟨gv, n0 * 3 + 2, none⟩ (.int .i64 (-1))) vv (V'.set n0 ⟨va1, ve1, -1⟩) := by
                have h9 := HW2.out
                rw [HVV2.out] at h9 ⊢
                exact vs_cell h9 (v' := ⟨va1, ve1, -1⟩) (j := 2) HV0.out (by decide) rfl
              refine ⟨l ++ [(n0 : Int)], _, _, Lib.hid (HRG1.out.kept hgr (fun e => HMG.out (by injection e with e)) (fun e => by injection e with e; have := HGW.out; omega)), Lib.hid hw3, Lib.hid ?_, HST, Lib.hid (by rw [World.size_setCell]; exact HSZ2.out), Lib.hid (HON2.out.trans ((OnS.cell gv _ _).weak fun c _ h => by rw [HVV2.out, h]; rfl))⟩
              have h9 := HU2.out
              simpa using h9
            case measure => exact HLT.out
          · have hvb : (lo1 == (i : Int)) = false := by rw [beq_eq_false_iff_ne]; exact hvl
            go_wp2_with fail
            go_roundg cnt1
            case rel =>
              refine ⟨l ++ [(n0 : Int)], _, _, Lib.hid HRG1.out, Lib.hid HW2.out, Lib.hid ?_, HST, Lib.hid HSZ2.out, Lib.hid HON2.out⟩
              have h9 := HU2.out
              rw [if_neg hvl] at h9
              exact h9
            case measure => exact HLT.out
end
end Go.Proofs.Ytjoifodjbdbicaa.PV
