/- A value of the program's engine is written; what is asked of who is handed to each. -/
import Derived.Test.YtjoifodjbdbicaaZW
import Derived.Test.YtjoifodjbdbicaaZV
namespace Go.Proofs.Ytjoifodjbdbicaa.PX
open Go.RowKit Go.Proofs.Ytjoifodjbdbicaa.RG Go.Proofs.Ytjoifodjbdbicaa.RB Go.Proofs.Ytjoifodjbdbicaa.RI Go.Proofs.Ytjoifodjbdbicaa.RM Go.Proofs.Ytjoifodjbdbicaa.UA Go.Proofs.Ytjoifodjbdbicaa.UB Go.Proofs.Ytjoifodjbdbicaa.UD Go.Proofs.Ytjoifodjbdbicaa.UE Go.Proofs.Ytjoifodjbdbicaa.UG Go.Proofs.Ytjoifodjbdbicaa.UH Go.Proofs.Ytjoifodjbdbicaa.UI Go.Proofs.Ytjoifodjbdbicaa.UK Go.Proofs.Ytjoifodjbdbicaa.UZ Go.Proofs.Ytjoifodjbdbicaa.PA Go.Proofs.Ytjoifodjbdbicaa.PB Go.Proofs.Ytjoifodjbdbicaa.PC Go.Proofs.Ytjoifodjbdbicaa.PD Go.Proofs.Ytjoifodjbdbicaa.PE Go.Proofs.Ytjoifodjbdbicaa.PF Go.Proofs.Ytjoifodjbdbicaa.PG Go.Proofs.Ytjoifodjbdbicaa.PJ Go.Proofs.Ytjoifodjbdbicaa.PK Go.Proofs.Ytjoifodjbdbicaa.PM Go.Proofs.Ytjoifodjbdbicaa.PN Go.Proofs.Ytjoifodjbdbicaa.PO Go.Proofs.Ytjoifodjbdbicaa.PP Go.Proofs.Ytjoifodjbdbicaa.PQ Go.Proofs.Ytjoifodjbdbicaa.PR Go.Proofs.Ytjoifodjbdbicaa.PU Go.Proofs.Ytjoifodjbdbicaa.PV Go.Proofs.Ytjoifodjbdbicaa.PW
set_option linter.unusedVariables false
set_option maxRecDepth 100000
set_option maxRecDepth 100000

section
variable {F : Nat → Prop} {p : Nat} {E : Eg} {vv : Value} {tv : Nat → Option Nat} {G : Nat → Nat → Prop}
theorem ei_v {w : World} {gv n cap : Nat} (H : EI w F p E (.slice (some ⟨gv, 0, none⟩) n cap) tv G) {k : Nat} {v : Vr} (hv : E.V[k]? = some v) (h0 : ∀ x, x ∈ E.T → ∀ p, p ∈ x.puts → 0 ≤ p.n) (a : Int) :
    EI (w.setCell ⟨gv, k * 3, none⟩ (.int .i64 a)) F p (updA E (.v k) a) (.slice (some ⟨gv, 0, none⟩) n cap) tv G ∧ OnS (fun c => c = gv) w (w.setCell ⟨gv, k * 3, none⟩ (.int .i64 a)) := by
  have hsm := sm_upd (E := E) (a := .v k) ⟨v, hv⟩ a
  have he : updA E (.v k) a = { E with V := E.V.set k { v with val := a } } := by unfold updA; simp only [hv]
  have ho : OnS (fun c => c = gv) w (w.setCell ⟨gv, k * 3, none⟩ (.int .i64 a)) := OnS.cell gv _ _
  obtain ⟨⟨cur, hk⟩, _⟩ := own_blk H.vs (b := gv) rfl
  have hgp : p ≠ gv := fun e => absurd (bk_typ (e ▸ H.bk) hk) (by decide)
  refine ⟨?_, ho⟩
  have hlf : ∀ (i : Nat) (x : Tx), E.T[i]? = some x → lftR (updA E (.v k) a).V (i : Int) x = lftR E.V (i : Int) x := fun i x hx => lft_sm (P' := x.puts) hsm rfl (h0 x (mem_of hx))
  rw [he] at hlf ⊢
  exact ⟨H.bk.other hgp _ _, vs_cell H.vs (v' := { v with val := a }) (j := 0) hv (by decide) rfl, H.th0, fun i x hx hi => by
    obtain ⟨b, h1, h2⟩ := H.th1 i x hx hi
    refine ⟨b, h1, ?_⟩
    rw [hlf i x hx]
    exact h2.on ho fun c hc e => (H.gp i c hc).2 (by rw [e]; rfl), H.ap, H.gf, H.gp, H.own, H.inv, fun c hc => Nat.lt_of_lt_of_le (H.lt c hc) ho.size⟩
/-- What a map becomes where a value of its own turns. -/
theorem tx_part {w w' : World} {g : Nat → Prop} {b : Nat} {x : Tx} {L : List Int} {rv pv lv : Value} {ms : List Mp} {m : Mp} {q : Nat} (H : TX w g b x L rv pv lv ms) (hq : ms[q]? = some m) (n a : Int) (ho : OnS (fun c => c = m.1) w w') (hm : MapB w' m.1 (putK n a m.2)) : TX w' g b { x with puts := putR n a ((q : Int) + 1) x.puts } L rv pv lv (ms.set q (m.1, putK n a m.2)) := by
  have hml := mem_of hq
  have hql := (List.getElem?_eq_some_iff.1 hq).1
  obtain ⟨h1, h2, h3, h4, h5, h6⟩ := H.map (H.mp m hml) ho
  have hmap : (ms.set q (m.1, putK n a m.2)).map (·.1) = ms.map (·.1) := by
    rw [List.map_set]
    apply List.ext_getElem?
    intro k
    rw [List.getElem?_set]
    split
    · next e =>
      subst e
      rw [if_pos (by simpa using hql), List.getElem?_map, hq]
      rfl
    · rfl
  have hat : ∀ (k : Nat) (y : Mp), (ms.set q (m.1, putK n a m.2))[k]? = some y → (k = q ∧ y = (m.1, putK n a m.2)) ∨ (k ≠ q ∧ ms[k]? = some y) := fun k y hy => by
    rw [List.getElem?_set] at hy
    split at hy
    · next e => injection hy with hy; exact .inl ⟨e.symm, hy.symm⟩
    · next e => exact .inr ⟨fun h => e h.symm, hy⟩
  refine ⟨h1, h2, hmap ▸ h3, h4, fun y hy => ?_, by rw [List.length_set]; exact H.np, fun k y hy => ?_, hmap ▸ H.nd, H.ne, h6, H.inb, H.inr, H.inp, H.inl, fun y hy => ?_, fun c hc => Nat.lt_of_lt_of_le (H.lt c hc) ho.size⟩
  · obtain ⟨k, hk⟩ := List.getElem?_of_mem hy
    rcases hat k y hk with ⟨_, rfl⟩ | ⟨hne, hk⟩
    · exact hm
    · refine h5 y (mem_of hk) fun e => ?_
      have hnd := List.pairwise_iff_getElem.1 H.nd
      have hkl := (List.getElem?_eq_some_iff.1 hk).1
      have e1 : (ms.map (·.1))[k]'(by simpa using hkl) = y.1 := by simp [(List.getElem?_eq_some_iff.1 hk).2]
      have e2 : (ms.map (·.1))[q]'(by simpa using hql) = m.1 := by simp [(List.getElem?_eq_some_iff.1 hq).2]
      rcases Nat.lt_or_gt_of_ne hne with h | h
      · exact hnd k q (by simpa using hkl) (by simpa using hql) h (by rw [e1, e2]; exact e)
      · exact hnd q k (by simpa using hql) (by simpa using hkl) h (by rw [e1, e2]; exact e.symm)
  · rcases hat k y hy with ⟨rfl, rfl⟩ | ⟨hne, hk⟩
    · exact (H.isp k m hq).put n a
    · exact (H.isp k y hk).put_other (by omega) n a
  · obtain ⟨k, hk⟩ := List.getElem?_of_mem hy
    rcases hat k y hk with ⟨_, rfl⟩ | ⟨_, hk⟩
    · exact H.inm m hml
    · exact H.inm y (mem_of hk)
theorem ei_t {w : World} (H : EI w F p E vv tv G) {i : Nat} {x : Tx} {b : Nat} (hx : E.T[i]? = some x) (hs : x.is = true) (hb : tv i = some b) {rv pv lv : Value} {ms : List Mp} (HX : TX w (G i) b x (lftR E.V (i : Int) x) rv pv lv ms) {q : Nat} {m : Mp} (hq : ms[q]? = some m) {n : Int} (hn : n ∈ keys m.2) (h0 : ∀ x, x ∈ E.T → ∀ p, p ∈ x.puts → 0 ≤ p.n) (a : Int) :
    EI (putM w m.1 n a m.2) F p (updA E (.t i ((q : Int) + 1) n) a) vv tv G ∧ OnS (fun c => c = m.1) w (putM w m.1 n a m.2) := by
  have hkey := (HX.isp q m hq).key.1 hn
  have hsm := sm_upd (E := E) (a := .t i ((q : Int) + 1) n) ⟨x, hx, hkey⟩ a
  have ho : OnS (fun c => c = m.1) w (putM w m.1 n a m.2) := putM_on w m.1 n a m.2
  have hml := mem_of hq
  have hGm := HX.inm m hml
  have hsP : SmP x.puts (putR n a ((q : Int) + 1) x.puts) := smP_put hkey
  have hX := tx_part HX hq n a ho ((HX.mp m hml).put n a)
  have he : updA E (.t i ((q : Int) + 1) n) a = { E with T := E.T.set i { x with puts := putR n a ((q : Int) + 1) x.puts } } := by
    unfold updA
    simp only [hx]
    unfold setT
    rw [Int.toNat_natCast]
  refine ⟨?_, ho⟩
  have hlf : ∀ (j : Nat) (y : Tx), E.T[j]? = some y → ∀ P', SmP y.puts P' → lftR (updA E (.t i ((q : Int) + 1) n) a).V (j : Int) { y with puts := P' } = lftR E.V (j : Int) y := fun j y hy P' hp => lft_sm hsm hp (h0 y (mem_of hy))
  rw [he] at hlf ⊢
  have hT : ∀ (j : Nat) (y : Tx), (E.T.set i { x with puts := putR n a ((q : Int) + 1) x.puts })[j]? = some y → (j = i ∧ y = { x with puts := putR n a ((q : Int) + 1) x.puts }) ∨ (j ≠ i ∧ E.T[j]? = some y) := fun j y hy => by
    rw [List.getElem?_set] at hy
    split at hy
    · next e =>
      split at hy
      · injection hy with hy; exact .inl ⟨e.symm, hy.symm⟩
      · cases hy
    · next e => exact .inr ⟨fun k => e k.symm, hy⟩
  have hMB := HX.mp m hml
  refine ⟨ho.bk H.bk (fun e => (H.gp i m.1 hGm).1 e.symm), ownF_on H.vs ho (fun c hc e => (H.gp i m.1 hGm).2 (by rw [← e]; exact hc)), fun j y hy hi => ?_, fun j y hy hi => ?_, H.ap, H.gf, H.gp, H.own, H.inv, fun c hc => Nat.lt_of_lt_of_le (H.lt c hc) ho.size⟩
  · rcases hT j y hy with ⟨rfl, rfl⟩ | ⟨_, h⟩
    · rw [show x.is = false from hi] at hs; cases hs
    · exact H.th0 j y h hi
  · rcases hT j y hy with ⟨rfl, rfl⟩ | ⟨hne, h⟩
    · refine ⟨b, hb, rv, pv, lv, ms.set q (m.1, putK n a m.2), ?_⟩
      rw [hlf j x hx _ hsP]
      exact hX
    · obtain ⟨b', h1, h2⟩ := H.th1 j y h hi
      refine ⟨b', h1, ?_⟩
      have := hlf j y h y.puts rfl
      rw [show lftR E.V (j : Int) y = lftR E.V (j : Int) y from rfl] at this
      exact h2.on ho fun c hc e => H.ap j i c hne hc (by rw [e]; exact hGm)
end
/-- What is asked of who is handed to each: 'C l Φ w' says that it has been handed the values l, and writes in the blocks Φ; F are the engine's. -/
structure CL (F : Nat → Prop) (fn : Nat) (caps : Array Value) (r : List Int → Int → Int) (N : Nat) (C : List Int → (Nat → Prop) → World → Prop) : Prop where
  low : ∀ {l Φ w}, C l Φ w → ∀ b, Φ b → b < w.heap.size
  on : ∀ {l Φ w w' S}, C l Φ w → OnS S w w' → (∀ b, Φ b → ¬ S b) → (∀ b, S b → F b) → C l Φ w'
  call : ∀ {l Φ w}, C l Φ w → l.length < N → ∀ v : Int, Calls Try.prog fn (#[.int .i64 v] ++ caps) w fun e w' => e = .returned (.int .i64 (r l v)) ∧ OnS Φ w w' ∧ ∃ Φ', C (l ++ [v]) Φ' w' ∧ Gr w Φ Φ'
/-- On the way: the engine Ec, of what has been handed. -/
structure Wy (w : World) (F : Nat → Prop) (p : Nat) (E : Eg) (vv : Value) (tv : Nat → Option Nat) (G : Nat → Nat → Prop) (r : List Int → Int → Int) (C : List Int → (Nat → Prop) → World → Prop) (Φ0 : Nat → Prop) (wr : World) (Ec : Eg) (done rem : List Ad) (Φ : Nat → Prop) : Prop where
  ei : EI wr F p Ec vv tv G
  way : PW.Way r E Ec done rem
  cl : C (done.map (valA E)) Φ wr
  ap : ∀ b, F b → ¬ Φ b
  on : OnS (fun b => F b ∨ Φ0 b) w wr
  id : (∀ l v, r l v = v) → OnS Φ0 w wr
  gr : Gr w Φ0 Φ
section
variable {F : Nat → Prop} {p : Nat} {E Ec : Eg} {vv : Value} {tv : Nat → Option Nat} {G : Nat → Nat → Prop} {fn N : Nat} {caps : Array Value} {r : List Int → Int → Int} {C : List Int → (Nat → Prop) → World → Prop} {Φ0 Φ Φ' S : Nat → Prop} {w wr w2 w3 : World} {done rem : List Ad} {a : Ad}
/-- Behind what is new. -/
theorem Wy.keep (HC : CL F fn caps r N C) (H : Wy w F p E vv tv G r C Φ0 wr Ec done rem Φ) (h : Below wr.heap.size wr w2) : Wy w F p E vv tv G r C Φ0 w2 Ec done rem Φ :=
  ⟨H.ei.keep h, H.way, HC.on (S := fun _ => False) H.cl (OnS.of h) (fun _ _ h => h) (fun _ h => h.elim), H.ap, H.on.trans (OnS.of h), fun hi => (H.id hi).trans (OnS.of h), H.gr⟩
/-- Behind a call: the engine is as it was. -/
theorem Wy.mid (H : Wy w F p E vv tv G r C Φ0 wr Ec done rem Φ) (ho : OnS Φ wr w2) : EI w2 F p Ec vv tv G := H.ei.on ho H.ap
theorem Wy.next (HC : CL F fn caps r N C) (H : Wy w F p E vv tv G r C Φ0 wr Ec done (a :: rem) Φ) {u : Int} (hu : valA E a = u) (ho : OnS Φ wr w2) (hc : C (done.map (valA E) ++ [u]) Φ' w2) (hg : Gr wr Φ Φ') (hei : EI w3 F p (updA Ec a (r (done.map (valA E)) u)) vv tv G) (h3 : OnS S w2 w3) (hS : ∀ b, S b → F b) (hid : r (done.map (valA E)) u = u → w3 = w2) :
    Wy w F p E vv tv G r C Φ0 w3 (updA Ec a (r (done.map (valA E)) u)) (done ++ [a]) rem Φ' := by
  have hap : ∀ b, F b → ¬ Φ' b := fun b hb h => by
    rcases hg b h with h | h
    · exact H.ap b hb h
    · have := H.ei.lt b hb; omega
  have hΦ : ∀ x, Φ x → (F x ∨ Φ0 x) ∨ w.heap.size ≤ x := fun x hx => by
    rcases H.gr x hx with h | h
    · exact .inl (.inr h)
    · exact .inr h
  have hw := H.way.step
  rw [hu] at hw
  refine ⟨hei, hw, ?_, hap, (H.on.next ho hΦ).trans (h3.weak fun b _ h => .inl (hS b h)), fun hi => ?_, fun b hb => ?_⟩
  · rw [List.map_append, List.map_singleton, hu]
    exact HC.on hc h3 (fun b hb h => hap b (hS b h) hb) hS
  · rw [hid (hi _ _)]
    exact (H.id hi).next ho fun x hx => H.gr x hx
  · rcases hg b hb with h | h
    · exact H.gr b h
    · exact .inr (Nat.le_trans H.on.size h)
end
/-- A number of a row. -/
theorem row_int {w : World} {g n cap j : Nat} {L : List Int} {z : Int} (h : RowI w (.slice (some ⟨g, 0, none⟩) n cap) L) (hz : L[j]? = some z) : w.cell? ⟨g, j, none⟩ = some (.int .i64 z) := by
  obtain ⟨ao, cap', e, _, hr⟩ := row_has h
  obtain ⟨hj, rfl⟩ := List.getElem?_eq_some_iff.1 hz
  rcases hr with hr | ⟨b, off, e2, _, hc⟩
  · rw [hr] at hj; cases hj
  · injection e with e1
    rw [← e1] at e2
    injection e2 with e2
    injection e2 with e2 e3
    subst e2
    subst e3
    have := hc j hj
    rwa [Nat.zero_add] at this
/-- The threads' array, indexed. -/
theorem idx8 (w : World) (tv : Nat → Option Nat) {k : Nat} (hk : k < 8) : (Instr.index 81 (.agg #[ptr (tv 0), ptr (tv 1), ptr (tv 2), ptr (tv 3), ptr (tv 4), ptr (tv 5), ptr (tv 6), ptr (tv 7)]) (.int .i64 (k : Int))).run Try.prog w = .ok (ptr (tv k)) w := by
  rcases lt8 hk with rfl | rfl | rfl | rfl | rfl | rfl | rfl | rfl
  all_goals first | kernel_rfl | rfl
theorem setCell_same {w : World} {b i : Nat} {v : Value} (h : w.cell? ⟨b, i, none⟩ = some v) : w.setCell ⟨b, i, none⟩ v = w := by
  rw [Go.Sort.setCell_eq]
  refine Go.Sort.mapBlock_id _ _ _ fun c e fr hb => ?_
  obtain ⟨c', e', fr', hb', hc⟩ := Go.Sort.cells_of_cell? h
  rw [hb] at hb'
  injection hb' with hb'
  injection hb' with hb'
  subst hb'
  apply Array.ext_getElem?
  intro k
  rw [Array.getElem?_setIfInBounds]
  split
  · next e =>
    subst e
    split
    · exact hc.symm
    · next hn => exact absurd (Array.getElem?_eq_some_iff.1 hc).1 hn
  · rfl
end Go.Proofs.Ytjoifodjbdbicaa.PX
