/- ZU: several texts in one (PN PO). -/
import Derived.Test.YtjoifodjbdbicaaZT
import Derived.Test.YtjoifodjbdbicaaZS

/- The program's engine: a step that locks. -/
namespace Go.Proofs.Ytjoifodjbdbicaa.PN
open Go.RowKit Go.Proofs.Ytjoifodjbdbicaa.RG Go.Proofs.Ytjoifodjbdbicaa.RB Go.Proofs.Ytjoifodjbdbicaa.RI Go.Proofs.Ytjoifodjbdbicaa.RM Go.Proofs.Ytjoifodjbdbicaa.UA Go.Proofs.Ytjoifodjbdbicaa.UB Go.Proofs.Ytjoifodjbdbicaa.UD Go.Proofs.Ytjoifodjbdbicaa.UE Go.Proofs.Ytjoifodjbdbicaa.UH Go.Proofs.Ytjoifodjbdbicaa.UI Go.Proofs.Ytjoifodjbdbicaa.UK Go.Proofs.Ytjoifodjbdbicaa.PA Go.Proofs.Ytjoifodjbdbicaa.PB Go.Proofs.Ytjoifodjbdbicaa.PC Go.Proofs.Ytjoifodjbdbicaa.PD Go.Proofs.Ytjoifodjbdbicaa.PE Go.Proofs.Ytjoifodjbdbicaa.PF Go.Proofs.Ytjoifodjbdbicaa.PG Go.Proofs.Ytjoifodjbdbicaa.PJ Go.Proofs.Ytjoifodjbdbicaa.PK Go.Proofs.Ytjoifodjbdbicaa.PM
set_option linter.unusedVariables false
set_option maxRecDepth 100000
set_option maxRecDepth 100000

section
variable {F : Nat → Prop} {p : Nat} {E : Eg} {vv : Value} {tv : Nat → Option Nat} {G : Nat → Nat → Prop}
/-- Behind a step in which a var's cell was written, and what is left is less by one. -/
theorem ei_lock {w : World} {gv capv : Nat} (H : EI w F p E (.slice (some ⟨gv, 0, none⟩) E.V.length capv) tv G) {i : Nat} {x : Tx} {b : Nat} (hx : E.T[i]? = some x) (hs : x.is = true) (hb : tv i = some b) {rv pv lv lv' : Value} {ms : List Mp} {L : List Int} (HX : TX w (G i) b x L rv pv lv ms) {n0 : Nat} {v v' : Vr} (hv : E.V[n0]? = some v) (he : encV v' = (encV v).set 2 (.int .i64 (i : Int))) {rest : List Int}
    (hl : RowI w lv' rest) (hlb : ∀ c, lv'.ownBlock = some c → lv.ownBlock = some c) (h1 : lftR (E.V.set n0 v') (i : Int) x = rest) (h2 : ∀ (j : Nat) (y : Tx), j ≠ i → E.T[j]? = some y → y.is = true → lftR (E.V.set n0 v') (j : Int) y = lftR E.V (j : Int) y) :
    ∃ w' : World, w' = (w.setCell ⟨gv, n0 * 3 + 2, none⟩ (.int .i64 (i : Int))).setCell ⟨b, 4, none⟩ lv' ∧ OnS F w w' ∧ ∃ F', (∃ G', EI w' F' p { E with V := E.V.set n0 v' } (.slice (some ⟨gv, 0, none⟩) E.V.length capv) tv G') ∧ Gr w F F' := by
  obtain ⟨⟨cur, hk⟩, _⟩ := own_blk H.vs (b := gv) rfl
  have hgvF : F gv := H.inv gv rfl
  have hgb : gv ≠ b := fun e => absurd (bk_typ (e ▸ hk) HX.bk) (by decide)
  have hgp : p ≠ gv := fun e => absurd (bk_typ (e ▸ H.bk) hk) (by decide)
  have hpb : p ≠ b := fun e => absurd (bk_typ (e ▸ H.bk) HX.bk) (by decide)
  have hv1 := vs_cell H.vs (v' := v') (j := 2) hv (by decide) he
  have ho1 : OnS (fun c => c = gv) w (w.setCell ⟨gv, n0 * 3 + 2, none⟩ (.int .i64 (i : Int))) := OnS.cell gv _ _
  have hX1 := HX.on ho1 (fun c hc e => (H.gp i c hc).2 (by rw [e]; rfl))
  have hlk : ∀ c, lv'.ownBlock = some c → ∃ cur, Bk (w.setCell ⟨gv, n0 * 3 + 2, none⟩ (.int .i64 (i : Int))) c cur 3 := fun c hc => hX1.lk c (hlb c hc)
  have hl1 : RowI (w.setCell ⟨gv, n0 * 3 + 2, none⟩ (.int .i64 (i : Int))) lv' rest := row_onS hl ho1 fun c hc e => (H.gp i c (HX.inl c (hlb c hc))).2 (by rw [e]; rfl)
  have hT1 : TC (w.setCell ⟨gv, n0 * 3 + 2, none⟩ (.int .i64 (i : Int))) b (txc x rv pv lv) x.reads rest rv pv lv' ms := ⟨hX1.bk, hX1.rd, hX1.pt, hl1, hX1.mp, hlk⟩
  have hT2 := hT1.wr 4 lv'
  have hon : OnS (fun c => c = gv ∨ c = b) w ((w.setCell ⟨gv, n0 * 3 + 2, none⟩ (.int .i64 (i : Int))).setCell ⟨b, 4, none⟩ lv') := (ho1.weak fun c _ h => .inl h).trans ((OnS.cell b 4 _).weak fun c _ h => .inr h)
  have hX2 : TX _ (Fx (G i) w ((w.setCell ⟨gv, n0 * 3 + 2, none⟩ (.int .i64 (i : Int))).setCell ⟨b, 4, none⟩ lv')) b x rest rv pv lv' ms := TC.tx (x := x) hT2 HX.np HX.isp HX.nd (fun c hc e => HX.ne c hc (hlb c e)) (.inl HX.inb) (fun c h => .inl (HX.inr c h)) (fun c h => .inl (HX.inp c h)) (fun c h => .inl (HX.inl c (hlb c h))) (fun m hm => .inl (HX.inm m hm)) (fun c h => by
    rcases h with h | h
    · exact Nat.lt_of_lt_of_le (HX.lt c h) hon.size
    · exact h.2)
  have hei := ei_gen (V := E.V.set n0 v') (c := E.clock) (x' := x) H hx hon (fun c _ h => by
    rcases h with h | h
    · exact .inr (.inl (by rw [h]; rfl))
    · exact .inr (.inr (by rw [h]; exact HX.inb))) (hon.bk H.bk (fun h => by
    rcases h with h | h
    · exact hgp h
    · exact hpb h)) (ownF_wr hv1 hX1.bk (by decide) 4 lv') (fun _ _ => rfl) (fun h => by rw [hs] at h; cases h) (fun _ => ⟨b, hb, rv, pv, lv', ms, by rw [h1]; exact hX2⟩) h2
  rw [setT_same hx] at hei
  exact ⟨_, rfl, hon.weak fun c _ h => by
    rcases h with h | h
    · rw [h]; exact hgvF
    · rw [h]; exact H.gf i b HX.inb, _, ⟨_, hei⟩, gr_ei _ _ _⟩
set_option maxHeartbeats 800000 in
theorem lock_c (w : World) (H : EI w F p E vv tv G) (i : Nat) (x : Tx) (hi : i < 8) (hx : E.T[i]? = some x) (hs : x.is = true) (n0 : Nat) (rest : List Int) (hL : lftR E.V (i : Int) x = (n0 : Int) :: rest) (v : Vr) (hv : E.V[n0]? = some v) (hlo : -1 ≤ v.lock) (hrl : rest.length ≤ 1000000)
    (h1 : ¬ 0 ≤ v.lock → lftR (E.V.set n0 { v with lock := (i : Int) }) (i : Int) x = rest) (h2 : ¬ 0 ≤ v.lock → ∀ (j : Nat) (y : Tx), j ≠ i → E.T[j]? = some y → y.is = true → lftR (E.V.set n0 { v with lock := (i : Int) }) (j : Int) y = lftR E.V (j : Int) y) :
    Calls Try.prog 57 #[.pointer (some ⟨p, 0, none⟩), .int .i64 (i : Int)] w fun e w' => (0 ≤ v.lock ∧ e = .returned (.tuple #[.int .i64 0, .int .i64 32]) ∧ Below w.heap.size w w') ∨ (¬ 0 ≤ v.lock ∧ e = .returned (.tuple #[.int .i64 1, .int .i64 0]) ∧ OnS F w w' ∧ ∃ F', (∃ G', EI w' F' p { E with V := E.V.set n0 { v with lock := (i : Int) } } vv tv G') ∧ Gr w F F') := by
  have HH := Lib.hid H
  obtain ⟨b, hb, rv, pv, lv, ms, HX⟩ := H.th1 i x hx hs
  obtain ⟨gv, capv, curv, hvv, hkv, hgv, hfv, hFv, v0, v1, v2⟩ := H.vr hv
  subst hvv
  rw [hL] at HX
  obtain ⟨c0, c1, c2, c3, c4, c5⟩ := HX.cells
  obtain ⟨lb, off, lc, hlv, hlc, hlbl, l0⟩ := row_cons HX.lf
  have y1 : w.cell? ⟨p, 1, none⟩ = some (.slice (some ⟨gv, 0, none⟩) E.V.length capv) := H.bk.cell 1 _ rfl
  have y2 := H.tc hi
  rw [hb, ptr_some] at y2
  have hn := (List.getElem?_eq_some_iff.1 hv).1
  obtain ⟨N, hN⟩ : ∃ N, Hid (E.V.length = N) := ⟨_, Lib.hid rfl⟩
  rw [hN.out] at y1 hn
  have HXX := Lib.hid HX
  have HV := Lib.hid hv
  have i0 : (0 : Int) ≤ (i : Int) := by omega
  have i1 : (i : Int) < 8 := by omega
  have n1 : (0 : Int) ≤ (n0 : Int) := by omega
  have n2 : (n0 : Int) < (N : Int) := by omega
  have hbl := HX.bk.lt
  have hgb : gv ≠ b := fun e => absurd (bk_typ (e ▸ hkv) HX.bk) (by decide)
  have f2 := hfv (n0 * 3 + 2)
  have f4 := HX.bk.free 4
  obtain ⟨R, hR⟩ : ∃ R, Hid (rest.length = R) := ⟨_, Lib.hid rfl⟩
  have HLV := Lib.hid hlv
  rw [hR.out] at hlv hlc hrl
  have HLF := Lib.hid (show RowI w (.slice (some ⟨lb, off, none⟩) (R + 1) lc) ((n0 : Int) :: rest) from hlv ▸ HX.lf)
  rw [hlv] at c4
  have r1 : (1 : Int) ≤ (R : Int) + 1 := by omega
  have r0 : (0 : Int) < (R : Int) + 1 := by omega
  have HX0 := Lib.hid hx
  have HB := Lib.hid hb
  have HS := Lib.hid hs
  have H1 := Lib.hid h1
  have H2 := Lib.hid h2
  obtain ⟨va, ve, lo⟩ := v
  simp only at v0 v1 v2 hlo
  clear H HX hx hs hv hL c0 c1 c2 c3 c5 hkv hfv hFv hlv v0 v1 hb h1 h2
  by_cases q1 : 0 ≤ lo
  · have q4 : (lo != -1) = true := by rw [bne_iff_ne]; omega
    go_enter Try.func57, Try.ntmps57
    go_wp2_with fail
    go_region
    go_wp2_with fail
    go_ret2
    exact .inl ⟨rfl, bdr _⟩
  · obtain rfl : lo = -1 := by omega
    by_cases q2 : lc = 1
    · subst q2
      go_enter Try.func57, Try.ntmps57
      go_wp2_with fail
      go_region
      go_wp2_with fail
      obtain rfl : R = 0 := by omega
      go_ret2
      obtain ⟨w', hw', ho, F', ⟨G', hE⟩, hg⟩ := ei_lock HH.out HX0.out HS.out HB.out HXX.out HV.out (v' := ⟨va, ve, (i : Int)⟩) rfl (lv' := .slice (some ⟨lb, off, none⟩) 0 0) (rest := rest) (by rw [List.length_eq_zero_iff.1 hR.out]; exact rowR_nil _ _) (fun c h => by rw [HLV.out]; exact h) (H1.out (by first | decide | omega | simp)) (H2.out (by first | decide | omega | simp))
      subst hw'
      exact ⟨rfl, ho.trans (OnS.of (bdr _)), F', ⟨G', hE.keep (bdr _)⟩, hg⟩
    · have q3 : 1 < lc := by omega
      go_enter Try.func57, Try.ntmps57
      go_wp2_with fail
      go_region
      go_wp2_with fail
      go_ret2
      obtain ⟨w', hw', ho, F', ⟨G', hE⟩, hg⟩ := ei_lock HH.out HX0.out HS.out HB.out HXX.out HV.out (v' := ⟨va, ve, (i : Int)⟩) rfl (lv' := .slice (some ⟨lb, off + 1, none⟩) R (lc - 1)) (rest := rest) (row_tail HLF.out hR.out) (fun c h => by rw [HLV.out]; exact h) (H1.out (by first | decide | omega | simp)) (H2.out (by first | decide | omega | simp))
      subst hw'
      exact ⟨rfl, ho.trans (OnS.of (bdr _)), F', ⟨G', hE.keep (bdr _)⟩, hg⟩
end
end Go.Proofs.Ytjoifodjbdbicaa.PN

/- The program's engine: a step that passes. -/
namespace Go.Proofs.Ytjoifodjbdbicaa.PO
open Go.RowKit Go.Proofs.Ytjoifodjbdbicaa.RG Go.Proofs.Ytjoifodjbdbicaa.RB Go.Proofs.Ytjoifodjbdbicaa.RI Go.Proofs.Ytjoifodjbdbicaa.RM Go.Proofs.Ytjoifodjbdbicaa.UA Go.Proofs.Ytjoifodjbdbicaa.UB Go.Proofs.Ytjoifodjbdbicaa.UD Go.Proofs.Ytjoifodjbdbicaa.UE Go.Proofs.Ytjoifodjbdbicaa.UH Go.Proofs.Ytjoifodjbdbicaa.UI Go.Proofs.Ytjoifodjbdbicaa.UK Go.Proofs.Ytjoifodjbdbicaa.PA Go.Proofs.Ytjoifodjbdbicaa.PB Go.Proofs.Ytjoifodjbdbicaa.PC Go.Proofs.Ytjoifodjbdbicaa.PD Go.Proofs.Ytjoifodjbdbicaa.PE Go.Proofs.Ytjoifodjbdbicaa.PF Go.Proofs.Ytjoifodjbdbicaa.PG Go.Proofs.Ytjoifodjbdbicaa.PJ Go.Proofs.Ytjoifodjbdbicaa.PK Go.Proofs.Ytjoifodjbdbicaa.PM Go.Proofs.Ytjoifodjbdbicaa.PN
set_option linter.unusedVariables false
set_option maxRecDepth 100000
set_option maxRecDepth 100000

section
variable {F : Nat → Prop} {p : Nat} {E : Eg} {vv : Value} {tv : Nat → Option Nat} {G : Nat → Nat → Prop}
theorem srt_isP {x : Tx} {m : Mp} (h : IsP m.2 x.puts 1) (hin : ∀ q, q ∈ x.puts → 0 ≤ q.n ∧ q.n < 1000000) : srt (keys m.2) = (sortR x.puts 1).map (·.n) := h.sorted fun q hq => (hin q hq).1
theorem small_isP {x : Tx} {m : Mp} {q : Int} (h : IsP m.2 x.puts q) (hin : ∀ q, q ∈ x.puts → 0 ≤ q.n ∧ q.n < 1000000) : Small m.2 := fun n hn => by
  obtain ⟨q, h1, h2, _⟩ := h.key.1 hn
  rw [← h2]
  exact hin q h1
/-- A thread's transaction is over. -/
theorem ei_over {w w' : World} {S : Nat → Prop} (H : EI w F p E vv tv G) {i : Nat} {x : Tx} {V : List Vr} {c : Int} (hi : i < 8) (hx : E.T[i]? = some x) (ho : OnS S w w') (hS : ∀ b, b < w.heap.size → S b → b = p ∨ vv.ownBlock = some b ∨ G i b) (hbk : Bk w' p (ecells c vv tv) 83) (hvs : OwnF TVp w' vv V) (hlf : ∀ (j : Nat) (y : Tx), j ≠ i → E.T[j]? = some y → y.is = true → lftR V (j : Int) y = lftR E.V (j : Int) y) :
    EI (w'.setCell ⟨p, 2 + i, none⟩ (.pointer none)) (Fx F w (w'.setCell ⟨p, 2 + i, none⟩ (.pointer none))) p { setT E (i : Int) tx0 with V := V, clock := c } vv (upd tv i none) (Gx G i w (w'.setCell ⟨p, 2 + i, none⟩ (.pointer none))) ∧ OnS F w (w'.setCell ⟨p, 2 + i, none⟩ (.pointer none)) := by
  have hon : OnS (fun c => S c ∨ c = p) w (w'.setCell ⟨p, 2 + i, none⟩ (.pointer none)) := (ho.weak fun c _ h => .inl h).trans ((OnS.cell p _ _).weak fun c _ h => .inr h)
  have hb1 : Bk (w'.setCell ⟨p, 2 + i, none⟩ (ptr none)) p (ecells c vv (upd tv i none)) _ := (ecells_set c vv tv hi none) ▸ hbk.set (2 + i) (ptr none)
  refine ⟨ei_gen (x' := tx0) H hx hon (fun b h1 h => ?_) hb1 (ownF_wr hvs hbk (by decide) _ _) (fun j hj => if_neg hj) (fun _ => ⟨if_pos rfl, rfl⟩) (fun h => by cases h) hlf, hon.weak fun b h1 h => ?_⟩
  · rcases h with h | h
    · exact hS b h1 h
    · exact .inl h
  · rcases h with h | h
    · rcases hS b h1 h with h | h | h
      · rw [h]; exact H.own
      · exact H.inv b h
      · exact H.gf i b h
    · rw [h]; exact H.own
set_option maxHeartbeats 1600000 in
theorem pass_c (w : World) (H : EI w F p E vv tv G) (i : Nat) (x : Tx) (hi : i < 8) (hx : E.T[i]? = some x) (hs : x.is = true) (hp1 : x.parts = 1) (hcm : x.commits = true) (hst : ¬ 0 < x.stamp) (hdn : x.done = 0) (hlo : ∀ v, v ∈ E.V → -1 ≤ v.lock) (hr : ∀ n, n ∈ x.reads → 0 ≤ n ∧ n < (E.V.length : Int)) (hrl : x.reads.length ≤ 1000000) (hin : x.puts.length ≤ 100000 ∧ ∀ q, q ∈ x.puts → 0 ≤ q.n ∧ q.n < 1000000) (hck : 0 ≤ E.clock ∧ E.clock ≤ 1000000) :
    Calls Try.prog 58 #[.pointer (some ⟨p, 0, none⟩), .int .i64 (i : Int)] w fun e w' =>
      (validL E.V x.start (i : Int) x.reads ≠ 0 ∧ e = .returned (.tuple #[.int .i64 0, .int .i64 (validL E.V x.start (i : Int) x.reads)]) ∧ Below w.heap.size w w') ∨
      (validL E.V x.start (i : Int) x.reads = 0 ∧ sortR x.puts 1 = [] ∧ e = .returned (.tuple #[.int .i64 4, .int .i64 0]) ∧ OnS F w w' ∧ ∃ F', (∃ tv' G', EI w' F' p (setT E (i : Int) tx0) vv tv' G') ∧ Gr w F F') ∨
      (validL E.V x.start (i : Int) x.reads = 0 ∧ sortR x.puts 1 ≠ [] ∧ e = .returned (.tuple #[.int .i64 2, .int .i64 0]) ∧ OnS F w w' ∧ ∃ F', (∃ tv' G', EI w' F' p { setT E (i : Int) { x with stamp := E.clock + 1 } with clock := E.clock + 1 } vv tv' G') ∧ Gr w F F') := by
  have HA := Lib.hid (allSound_c w H i x hi hx hs hlo hr hrl)
  have HH := Lib.hid H
  obtain ⟨b, hb, rv, pv, lv, ms, HX⟩ := H.th1 i x hx hs
  obtain ⟨f, hf⟩ : ∃ f, validL E.V x.start (i : Int) x.reads = f := ⟨_, rfl⟩
  rw [hf] at HA ⊢
  by_cases h0 : f = 0
  · subst h0
    have hm1 : ∃ m, ms = [m] := by
      have hl : ms.length = 1 := by have := HX.np; rw [hp1] at this; omega
      match ms, hl with
      | [m], _ => exact ⟨m, rfl⟩
    obtain ⟨m, rfl⟩ := hm1
    have hisp : IsP m.2 x.puts 1 := HX.isp 0 m rfl
    have hsrt := srt_isP hisp hin.2
    have HSR := Lib.hid hsrt
    have y2 := H.tc hi
    rw [hb, ptr_some] at y2
    have HY2 := Lib.hid y2
    have i0 : (0 : Int) ≤ (i : Int) := by omega
    have i1 : (i : Int) < 8 := by omega
    have HXX := Lib.hid HX
    have HX0 := Lib.hid hx
    have HB := Lib.hid hb
    have HS := Lib.hid hs
    have HY := Lib.hid (fun w1 (h : Below w.heap.size w w1) => youngest_c (ms := []) w1 (HX.keep h) (Nat.zero_le _))
    have HRI := Lib.hid (fun w1 (h : Below w.heap.size w w1) => PH.rising_c w1 m.1 m.2 ((HX.mp m (by simp)).keep h) hisp.nd (small_isP hisp hin.2) (Nat.le_trans hisp.len hin.1))
    have hpb : p ≠ b := fun e => absurd (bk_typ (e ▸ H.bk) HX.bk) (by decide)
    have HPB := Lib.hid hpb
    obtain ⟨n, hn⟩ : ∃ n, Hid (m.2.length = n) := ⟨_, Lib.hid rfl⟩
    have hnl : n ≤ 100000 := by rw [← hn.out]; exact Nat.le_trans hisp.len hin.1
    have HSN := Lib.hid (show (sortR x.puts 1).length = n from by
      have h1 := congrArg List.length hsrt
      rw [srt_len, List.length_map, List.length_map, hn.out] at h1
      exact h1.symm)
    obtain ⟨ck, hcke⟩ : ∃ ck, Hid (E.clock = ck) := ⟨_, Lib.hid rfl⟩
    rw [hcke.out] at hck
    have HCM := Lib.hid hcm
    have HDN := Lib.hid hdn
    have HST := Lib.hid hst
    rw [hn.out] at HRI
    clear H HX hx hs hb hp1 hcm hst hdn hlo hr hrl hin hisp hsrt hf y2
    by_cases hn0 : n = 0
    · subst hn0
      have hnil : sortR x.puts 1 = [] := List.length_eq_zero_iff.1 HSN.out
      have HNIL := Lib.hid hnil
      rw [hnil]
      clear hnil
      go_enter Try.func58, Try.ntmps58
      go_wp2_with (first
        | (go_at_call 72; refine HA.out.mono ?_; rintro e w1 ⟨rfl, hb1⟩; have HB1 := Lib.hid hb1; have y1w := (hb1.cell (p := ⟨p, 2 + i, none⟩) HH.out.bk.lt).trans HY2.out; clear hb1)
        | (go_at_call 55; refine (HY.out w1 HB1.out).mono ?_; rintro e w2 ⟨rfl, hb2⟩; have HB2 := Lib.hid (bnext HB1.out hb2); clear hb2)
        | (go_at_call 54; refine (HRI.out w2 HB2.out).mono ?_; rintro e w3 ⟨g3, cap3, rfl, hr3, hk3, hg3, hb3⟩; have HR3 := Lib.hid hr3; have HK3 := Lib.hid hk3; have HG3 := Lib.hid (Nat.le_trans HB2.out.size hg3); have HB3 := Lib.hid (bnext HB2.out hb3); have hk := (HXX.out.keep HB3.out).bk; have f4 := hk.free 4; have f5 := hk.free 5; have c4 : w3.cell? ⟨b, 4, none⟩ = some lv := hk.cell 4 _ rfl; have c5 : w3.cell? ⟨b, 5, none⟩ = some (.int .i64 x.stamp) := hk.cell 5 _ rfl; have bl := hk.lt; have hq := HH.out.bk.keep HB3.out; have q0 : w3.cell? ⟨p, 0, none⟩ = some (.int .i64 ck) := (by have := hq.cell 0 _ rfl; rw [← hcke.out]; exact this); have qf := hq.free 0; have qg := hq.free (2 + i); have q2 := (HB3.out.cell (p := ⟨p, 2 + i, none⟩) HH.out.bk.lt).trans HY2.out; have ql := hq.lt; clear hr3 hk3 hg3 hb3 hk hq))
      go_ret2
      have HX3 := HXX.out.keep HB3.out
      have hT4 : TC w3 b (txc x rv pv lv) x.reads (lftR E.V (i : Int) x) rv pv lv [m] := HX3.tc
      have hon4 : OnS (fun c => c = b) w (w3.setCell ⟨b, 4, none⟩ (.slice (some ⟨g3, 0, none⟩) 0 cap3)) := (OnS.of HB3.out).trans (OnS.cell b 4 _)
      have hq4 : Bk (w3.setCell ⟨b, 4, none⟩ (.slice (some ⟨g3, 0, none⟩) 0 cap3)) p (ecells E.clock vv tv) 83 := (HH.out.bk.keep HB3.out).other HPB.out _ _
      have hv4 : OwnF TVp (w3.setCell ⟨b, 4, none⟩ (.slice (some ⟨g3, 0, none⟩) 0 cap3)) vv E.V := ownF_wr (HH.out.keep HB3.out).vs HX3.bk (by decide) _ _
      have hin4 : ∀ c, c < w.heap.size → c = b → c = p ∨ vv.ownBlock = some c ∨ G i c := fun c _ h => .inr (.inr (by rw [h]; exact HXX.out.inb))
      obtain ⟨h1, h2⟩ := ei_over (V := E.V) (c := E.clock) HH.out hi HX0.out hon4 hin4 hq4 hv4 (fun _ _ _ _ _ => rfl)
      exact .inr (.inl ⟨by simp, by simp, rfl, h2, _, ⟨_, _, h1⟩, gr_ei _ _ _⟩)
    · have hne : sortR x.puts 1 ≠ [] := fun e => hn0 (by rw [← HSN.out, e]; rfl)
      have HNE := Lib.hid hne
      have hn1 : ((n : Int) == 0) = false := by rw [beq_eq_false_iff_ne]; omega
      clear hne
      go_enter Try.func58, Try.ntmps58
      go_wp2_with (first
        | (go_at_call 72; refine HA.out.mono ?_; rintro e w1 ⟨rfl, hb1⟩; have HB1 := Lib.hid hb1; have y1w := (hb1.cell (p := ⟨p, 2 + i, none⟩) HH.out.bk.lt).trans HY2.out; clear hb1)
        | (go_at_call 55; refine (HY.out w1 HB1.out).mono ?_; rintro e w2 ⟨rfl, hb2⟩; have HB2 := Lib.hid (bnext HB1.out hb2); clear hb2)
        | (go_at_call 54; refine (HRI.out w2 HB2.out).mono ?_; rintro e w3 ⟨g3, cap3, rfl, hr3, hk3, hg3, hb3⟩; have HR3 := Lib.hid hr3; have HK3 := Lib.hid hk3; have HG3 := Lib.hid (Nat.le_trans HB2.out.size hg3); have HB3 := Lib.hid (bnext HB2.out hb3); have hk := (HXX.out.keep HB3.out).bk; have f4 := hk.free 4; have f5 := hk.free 5; have c4 : w3.cell? ⟨b, 4, none⟩ = some lv := hk.cell 4 _ rfl; have c5 : w3.cell? ⟨b, 5, none⟩ = some (.int .i64 x.stamp) := hk.cell 5 _ rfl; have bl := hk.lt; have hq := HH.out.bk.keep HB3.out; have q0 : w3.cell? ⟨p, 0, none⟩ = some (.int .i64 ck) := (by have := hq.cell 0 _ rfl; rw [← hcke.out]; exact this); have qf := hq.free 0; have qg := hq.free (2 + i); have q2 := (HB3.out.cell (p := ⟨p, 2 + i, none⟩) HH.out.bk.lt).trans HY2.out; have ql := hq.lt; clear hr3 hk3 hg3 hb3 hk hq))
      go_ret2
      have HX3 := HXX.out.keep HB3.out
      have hT4 : TC w3 b (txc x rv pv lv) x.reads (lftR E.V (i : Int) x) rv pv lv [m] := HX3.tc
      have hon4 : OnS (fun c => c = b) w (w3.setCell ⟨b, 4, none⟩ (.slice (some ⟨g3, 0, none⟩) n cap3)) := (OnS.of HB3.out).trans (OnS.cell b 4 _)
      have hq4 : Bk (w3.setCell ⟨b, 4, none⟩ (.slice (some ⟨g3, 0, none⟩) n cap3)) p (ecells E.clock vv tv) 83 := (HH.out.bk.keep HB3.out).other HPB.out _ _
      have hv4 : OwnF TVp (w3.setCell ⟨b, 4, none⟩ (.slice (some ⟨g3, 0, none⟩) n cap3)) vv E.V := ownF_wr (HH.out.keep HB3.out).vs HX3.bk (by decide) _ _
      have hin4 : ∀ c, c < w.heap.size → c = b → c = p ∨ vv.ownBlock = some c ∨ G i c := fun c _ h => .inr (.inr (by rw [h]; exact HXX.out.inb))
      have hpl := HH.out.bk.lt
      have hgp : ∀ c, Fx (G i) w (w3.setCell ⟨b, 4, none⟩ (.slice (some ⟨g3, 0, none⟩) n cap3)) c → c ≠ p := fun c h e => by
        rcases h with h | h
        · exact (HH.out.gp i c h).1 e
        · omega
      have hg3w := HG3.out
      have hT3 : TC w3 b (txc x rv pv lv) x.reads ((sortR x.puts 1).map (·.n)) rv pv (.slice (some ⟨g3, 0, none⟩) n cap3) [m] := ⟨HX3.bk, HX3.rd, HX3.pt, HSR.out ▸ HR3.out, HX3.mp, fun c hc => by injection hc with hc; rw [← show g3 = c from hc]; exact HK3.out⟩
      have hT5 := hT3.wr 4 (.slice (some ⟨g3, 0, none⟩) n cap3)
      have hsz5 : (w3.setCell ⟨b, 4, none⟩ (.slice (some ⟨g3, 0, none⟩) n cap3)).heap.size = w3.heap.size := World.size_setCell _ _ _
      have hg3l : g3 < w3.heap.size := HK3.out.choose_spec.lt
      have hX5 : TX _ (Fx (G i) w (w3.setCell ⟨b, 4, none⟩ (.slice (some ⟨g3, 0, none⟩) n cap3))) b x ((sortR x.puts 1).map (·.n)) rv pv (.slice (some ⟨g3, 0, none⟩) n cap3) [m] := TC.tx (x := x) hT5 HXX.out.np HXX.out.isp HXX.out.nd (fun c hc e => by injection e with e; have := HXX.out.lt c (HXX.out.inr c hc); have e : g3 = c := e; omega) (.inl HXX.out.inb) (fun c h => .inl (HXX.out.inr c h)) (fun c h => .inl (HXX.out.inp c h)) (fun c h => by injection h with h; have h : g3 = c := h; subst h; exact .inr ⟨hg3w, by rw [hsz5]; exact hg3l⟩) (fun y hy => .inl (HXX.out.inm y hy)) (fun c h => by
        rcases h with h | h
        · exact Nat.lt_of_lt_of_le (HXX.out.lt c h) hon4.size
        · exact h.2)
      have hX6 := hX5.on (OnS.cell p 0 (.int .i64 (ck + 1))) hgp
      have hT7 := hX6.tc.wr 5 (.int .i64 (ck + 1))
      have hon7 : OnS (fun c => c = b ∨ c = p) w (((w3.setCell ⟨b, 4, none⟩ (.slice (some ⟨g3, 0, none⟩) n cap3)).setCell ⟨p, 0, none⟩ (.int .i64 (ck + 1))).setCell ⟨b, 5, none⟩ (.int .i64 (ck + 1))) := ((hon4.weak fun c _ h => .inl h).trans ((OnS.cell p 0 _).weak fun c _ h => .inr h)).trans ((OnS.cell b 5 _).weak fun c _ h => .inl h)
      have hsz7 : (((w3.setCell ⟨b, 4, none⟩ (.slice (some ⟨g3, 0, none⟩) n cap3)).setCell ⟨p, 0, none⟩ (.int .i64 (ck + 1))).setCell ⟨b, 5, none⟩ (.int .i64 (ck + 1))).heap.size = (w3.setCell ⟨b, 4, none⟩ (.slice (some ⟨g3, 0, none⟩) n cap3)).heap.size := by rw [World.size_setCell, World.size_setCell]
      have hX7 : TX (((w3.setCell ⟨b, 4, none⟩ (.slice (some ⟨g3, 0, none⟩) n cap3)).setCell ⟨p, 0, none⟩ (.int .i64 (ck + 1))).setCell ⟨b, 5, none⟩ (.int .i64 (ck + 1))) (Fx (G i) w (((w3.setCell ⟨b, 4, none⟩ (.slice (some ⟨g3, 0, none⟩) n cap3)).setCell ⟨p, 0, none⟩ (.int .i64 (ck + 1))).setCell ⟨b, 5, none⟩ (.int .i64 (ck + 1)))) b { x with stamp := ck + 1 } ((sortR x.puts 1).map (·.n)) rv pv (.slice (some ⟨g3, 0, none⟩) n cap3) [m] := by
        have h := TC.tx (x := { x with stamp := ck + 1 }) hT7 hX6.np hX6.isp hX6.nd hX6.ne hX6.inb hX6.inr hX6.inp hX6.inl hX6.inm (fun c h => by rw [World.size_setCell]; exact hX6.lt c h)
        exact h.weak (fun c hc => by
          rcases hc with hc | hc
          · exact .inl hc
          · exact .inr ⟨hc.1, by rw [hsz7]; exact hc.2⟩) (fun c hc => by
          rcases hc with hc | hc
          · exact Nat.lt_of_lt_of_le (HXX.out.lt c hc) hon7.size
          · exact hc.2)
      have hb5 : Bk ((w3.setCell ⟨b, 4, none⟩ (.slice (some ⟨g3, 0, none⟩) n cap3)).setCell ⟨p, 0, none⟩ (.int .i64 (ck + 1))) p (ecells (ck + 1) vv tv) 83 := hq4.set 0 (.int .i64 (ck + 1))
      have hb7 := hb5.other HPB.out 5 (.int .i64 (ck + 1))
      have hv5 : OwnF TVp ((w3.setCell ⟨b, 4, none⟩ (.slice (some ⟨g3, 0, none⟩) n cap3)).setCell ⟨p, 0, none⟩ (.int .i64 (ck + 1))) vv E.V := ownF_wr hv4 hq4 (by decide) _ _
      have hv7 := ownF_wr hv5 hX6.bk (by decide) 5 (.int .i64 (ck + 1))
      have hlf : lftR E.V (i : Int) { x with stamp := ck + 1 } = (sortR x.puts 1).map (·.n) := by
        unfold lftR
        rw [if_pos (show 0 < ck + 1 by omega)]
        show ((sortR x.puts 1).map (·.n)).drop x.done.toNat = _
        rw [HDN.out]
        rfl
      have hei := ei_gen (V := E.V) (c := ck + 1) (x' := { x with stamp := ck + 1 }) HH.out HX0.out hon7 (fun c h1 h => by
        rcases h with h | h
        · exact .inr (.inr (by rw [h]; exact HXX.out.inb))
        · exact .inl h) hb7 hv7 (fun _ _ => rfl) (fun h => by rw [show x.is = false from h] at HS; exact absurd HS.out (by decide)) (fun _ => ⟨b, HB.out, rv, pv, _, [m], hlf.symm ▸ hX7⟩) (fun _ _ _ _ _ => rfl)
      rw [hcke.out]
      exact .inr (.inr ⟨by simp, HNE.out, rfl, hon7.weak fun c _ h => by
        rcases h with h | h
        · rw [h]; exact HH.out.gf i b HXX.out.inb
        · rw [h]; exact HH.out.own, _, ⟨_, _, hei⟩, gr_ei _ _ _⟩)
  · have hb0 : (f != 0) = true := by rw [bne_iff_ne]; exact h0
    clear H HX hx hs hb hp1 hcm hst hdn hlo hr hrl hin hf hck
    go_enter Try.func58, Try.ntmps58
    go_wp2_with (go_at_call 72; refine HA.out.mono ?_; rintro e w1 ⟨rfl, hb1⟩; have HB1 := Lib.hid hb1; clear hb1)
    go_ret2
    exact .inl ⟨h0, rfl, HB1.out⟩
end
end Go.Proofs.Ytjoifodjbdbicaa.PO
