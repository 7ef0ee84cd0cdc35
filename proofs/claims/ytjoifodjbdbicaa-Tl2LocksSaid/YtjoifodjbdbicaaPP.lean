/- The program's engine: a step that writes. -/
import Derived.Test.YtjoifodjbdbicaaZU
namespace Go.Proofs.Ytjoifodjbdbicaa.PP
open Go.RowKit Go.Proofs.Ytjoifodjbdbicaa.RG Go.Proofs.Ytjoifodjbdbicaa.RB Go.Proofs.Ytjoifodjbdbicaa.RI Go.Proofs.Ytjoifodjbdbicaa.RM Go.Proofs.Ytjoifodjbdbicaa.UA Go.Proofs.Ytjoifodjbdbicaa.UB Go.Proofs.Ytjoifodjbdbicaa.UD Go.Proofs.Ytjoifodjbdbicaa.UE Go.Proofs.Ytjoifodjbdbicaa.UH Go.Proofs.Ytjoifodjbdbicaa.UI Go.Proofs.Ytjoifodjbdbicaa.UK Go.Proofs.Ytjoifodjbdbicaa.PA Go.Proofs.Ytjoifodjbdbicaa.PB Go.Proofs.Ytjoifodjbdbicaa.PC Go.Proofs.Ytjoifodjbdbicaa.PD Go.Proofs.Ytjoifodjbdbicaa.PE Go.Proofs.Ytjoifodjbdbicaa.PF Go.Proofs.Ytjoifodjbdbicaa.PG Go.Proofs.Ytjoifodjbdbicaa.PJ Go.Proofs.Ytjoifodjbdbicaa.PK Go.Proofs.Ytjoifodjbdbicaa.PM Go.Proofs.Ytjoifodjbdbicaa.PN Go.Proofs.Ytjoifodjbdbicaa.PO
set_option linter.unusedVariables false
set_option maxRecDepth 100000
set_option maxRecDepth 100000

section
variable {F : Nat → Prop} {p : Nat} {E : Eg} {vv : Value} {tv : Nat → Option Nat} {G : Nat → Nat → Prop}
/-- A var's three cells, written one behind the other. -/
abbrev put3 (w : World) (g o : Nat) (a b c : Int) : World := ((w.setCell ⟨g, o, none⟩ (.int .i64 a)).setCell ⟨g, o + 1, none⟩ (.int .i64 b)).setCell ⟨g, o + 2, none⟩ (.int .i64 c)
theorem vs_put3 {w : World} {g n cap : Nat} {V : List Vr} (h : OwnF TVp w (.slice (some ⟨g, 0, none⟩) n cap) V) {k : Nat} {v : Vr} (hv : V[k]? = some v) (a b c : Int) : OwnF TVp (put3 w g (k * 3) a b c) (.slice (some ⟨g, 0, none⟩) n cap) (V.set k ⟨a, b, c⟩) ∧ OnS (fun x => x = g) w (put3 w g (k * 3) a b c) := by
  obtain ⟨va, ve, lo⟩ := v
  have h1 := vs_cell h (v' := ⟨a, ve, lo⟩) (j := 0) (u := .int .i64 a) hv (by decide) rfl
  have h2 := vs_cell h1 (v' := ⟨a, b, lo⟩) (j := 1) (u := .int .i64 b) (set_some hv) (by decide) rfl
  have h3 := vs_cell h2 (v' := ⟨a, b, c⟩) (j := 2) (u := .int .i64 c) (set_some (set_some hv)) (by decide) rfl
  rw [List.set_set, List.set_set] at h3
  exact ⟨h3, ((OnS.cell g _ _).trans (OnS.cell g _ _)).trans (OnS.cell g _ _)⟩
/-- Behind a step in which a var was written, and what is left is less by one: the engine without its transaction's own. -/
theorem put_mid {w : World} {gv capv : Nat} (H : EI w F p E (.slice (some ⟨gv, 0, none⟩) E.V.length capv) tv G) {i : Nat} {x : Tx} {b : Nat} (hb : tv i = some b) {rv pv lv lv' : Value} {ms : List Mp} {L : List Int} (HX : TX w (G i) b x L rv pv lv ms) {n0 : Nat} {v : Vr} (hv : E.V[n0]? = some v) (a c d : Int) {rest : List Int}
    (hl : RowI w lv' rest) (hlb : ∀ c, lv'.ownBlock = some c → lv.ownBlock = some c) :
    Bk ((put3 w gv (n0 * 3) a c d).setCell ⟨b, 4, none⟩ lv') p (ecells E.clock (.slice (some ⟨gv, 0, none⟩) E.V.length capv) tv) 83 ∧ OwnF TVp ((put3 w gv (n0 * 3) a c d).setCell ⟨b, 4, none⟩ lv') (.slice (some ⟨gv, 0, none⟩) E.V.length capv) (E.V.set n0 ⟨a, c, d⟩) ∧ OnS (fun c => c = gv ∨ c = b) w ((put3 w gv (n0 * 3) a c d).setCell ⟨b, 4, none⟩ lv') ∧
    TC ((put3 w gv (n0 * 3) a c d).setCell ⟨b, 4, none⟩ lv') b (txc x rv pv lv') x.reads rest rv pv lv' ms := by
  obtain ⟨⟨cur, hk⟩, _⟩ := own_blk H.vs (b := gv) rfl
  have hgp : ¬ p = gv := fun e => absurd (bk_typ (e ▸ H.bk) hk) (by decide)
  have hpb : ¬ p = b := fun e => absurd (bk_typ (e ▸ H.bk) HX.bk) (by decide)
  obtain ⟨hv1, ho1⟩ := vs_put3 H.vs hv a c d
  have hX1 := HX.on ho1 (fun c hc e => (H.gp i c hc).2 (by rw [e]; rfl))
  have hl1 : RowI (put3 w gv (n0 * 3) a c d) lv' rest := row_onS hl ho1 fun c hc e => (H.gp i c (HX.inl c (hlb c hc))).2 (by rw [e]; rfl)
  have hT1 : TC (put3 w gv (n0 * 3) a c d) b (txc x rv pv lv) x.reads rest rv pv lv' ms := ⟨hX1.bk, hX1.rd, hX1.pt, hl1, hX1.mp, fun c hc => hX1.lk c (hlb c hc)⟩
  have hon : OnS (fun c => c = gv ∨ c = b) w ((put3 w gv (n0 * 3) a c d).setCell ⟨b, 4, none⟩ lv') := (ho1.weak fun c _ h => .inl h).trans ((OnS.cell b 4 _).weak fun c _ h => .inr h)
  exact ⟨hon.bk H.bk (fun h => by
    rcases h with h | h
    · exact hgp h
    · exact hpb h), ownF_wr hv1 hX1.bk (by decide) 4 lv', hon, hT1.wr 4 lv'⟩
theorem ei_put {w : World} {gv capv : Nat} (H : EI w F p E (.slice (some ⟨gv, 0, none⟩) E.V.length capv) tv G) {i : Nat} {x x1 : Tx} {b : Nat} (hx : E.T[i]? = some x) (hb : tv i = some b) {rv pv lv lv' : Value} {ms : List Mp} {L : List Int} (HX : TX w (G i) b x L rv pv lv ms) {n0 : Nat} {v : Vr} (hv : E.V[n0]? = some v) (a c d : Int) {rest : List Int}
    (hl : RowI w lv' rest) (hlb : ∀ c, lv'.ownBlock = some c → lv.ownBlock = some c) (hx1 : txc x1 = txc x) (hr1 : x1.reads = x.reads) (hpu : x1.puts = x.puts) (hpa : x1.parts = x.parts) (his : x1.is = true) (h1 : lftR (E.V.set n0 ⟨a, c, d⟩) (i : Int) x1 = rest) (h2 : ∀ (j : Nat) (y : Tx), j ≠ i → E.T[j]? = some y → y.is = true → lftR (E.V.set n0 ⟨a, c, d⟩) (j : Int) y = lftR E.V (j : Int) y) :
    ∃ w' : World, w' = (put3 w gv (n0 * 3) a c d).setCell ⟨b, 4, none⟩ lv' ∧ OnS F w w' ∧ ∃ F', (∃ tv' G', EI w' F' p { setT E (i : Int) x1 with V := E.V.set n0 ⟨a, c, d⟩ } (.slice (some ⟨gv, 0, none⟩) E.V.length capv) tv' G') ∧ Gr w F F' := by
  obtain ⟨h3, h4, hon, hT⟩ := put_mid H hb HX hv a c d hl hlb
  have hX2 : TX _ (Fx (G i) w ((put3 w gv (n0 * 3) a c d).setCell ⟨b, 4, none⟩ lv')) b x1 rest rv pv lv' ms := TC.tx (x := x1) (by rw [hx1, hr1]; exact hT) (hpa ▸ HX.np) (by rw [hpu]; exact HX.isp) HX.nd (fun c hc e => HX.ne c hc (hlb c e)) (.inl HX.inb) (fun c h => .inl (HX.inr c h)) (fun c h => .inl (HX.inp c h)) (fun c h => .inl (HX.inl c (hlb c h))) (fun m hm => .inl (HX.inm m hm)) (fun c h => by
    rcases h with h | h
    · exact Nat.lt_of_lt_of_le (HX.lt c h) hon.size
    · exact h.2)
  have hei := ei_gen (V := E.V.set n0 ⟨a, c, d⟩) (c := E.clock) (x' := x1) H hx hon (fun c _ h => by
    rcases h with h | h
    · exact .inr (.inl (by rw [h]; rfl))
    · exact .inr (.inr (by rw [h]; exact HX.inb))) h3 h4 (fun _ _ => rfl) (fun h => by rw [his] at h; cases h) (fun _ => ⟨b, hb, rv, pv, lv', ms, by rw [h1]; exact hX2⟩) h2
  exact ⟨_, rfl, hon.weak fun c _ h => by
    rcases h with h | h
    · rw [h]; exact H.inv gv rfl
    · rw [h]; exact H.gf i b HX.inb, _, ⟨_, _, hei⟩, gr_ei _ _ _⟩
theorem ei_put4 {w : World} {gv capv : Nat} (H : EI w F p E (.slice (some ⟨gv, 0, none⟩) E.V.length capv) tv G) {i : Nat} (hi : i < 8) {x : Tx} {b : Nat} (hx : E.T[i]? = some x) (hb : tv i = some b) {rv pv lv lv' : Value} {ms : List Mp} {L : List Int} (HX : TX w (G i) b x L rv pv lv ms) {n0 : Nat} {v : Vr} (hv : E.V[n0]? = some v) (a c d : Int) {rest : List Int}
    (hl : RowI w lv' rest) (hlb : ∀ c, lv'.ownBlock = some c → lv.ownBlock = some c) (h2 : ∀ (j : Nat) (y : Tx), j ≠ i → E.T[j]? = some y → y.is = true → lftR (E.V.set n0 ⟨a, c, d⟩) (j : Int) y = lftR E.V (j : Int) y) :
    ∃ w' : World, w' = ((put3 w gv (n0 * 3) a c d).setCell ⟨b, 4, none⟩ lv').setCell ⟨p, 2 + i, none⟩ (.pointer none) ∧ OnS F w w' ∧ ∃ F', (∃ tv' G', EI w' F' p { setT E (i : Int) tx0 with V := E.V.set n0 ⟨a, c, d⟩ } (.slice (some ⟨gv, 0, none⟩) E.V.length capv) tv' G') ∧ Gr w F F' := by
  obtain ⟨h3, h4, hon, hT⟩ := put_mid H hb HX hv a c d hl hlb
  obtain ⟨h5, h6⟩ := ei_over (V := E.V.set n0 ⟨a, c, d⟩) (c := E.clock) H hi hx hon (fun c _ h => by
    rcases h with h | h
    · exact .inr (.inl (by rw [h]; rfl))
    · exact .inr (.inr (by rw [h]; exact HX.inb))) h3 h4 h2
  exact ⟨_, rfl, h6, _, ⟨_, _, h5⟩, gr_ei _ _ _⟩
set_option maxHeartbeats 3200000 in
theorem put_c (w : World) (H : EI w F p E vv tv G) (i : Nat) (x : Tx) (hi : i < 8) (hx : E.T[i]? = some x) (hs : x.is = true) (hp1 : x.parts = 1) (q0 : Pt) (n0 : Nat) (rest : List Int) (hL : lftR E.V (i : Int) x = (n0 : Int) :: rest) (v : Vr) (hv : E.V[n0]? = some v) (hval : gt x.puts (n0 : Int) 1 = some q0.v) (hrl : rest.length ≤ 1000000)
    (x1 : Tx) (hx1 : txc x1 = txc x) (hr1 : x1.reads = x.reads) (hpu : x1.puts = x.puts) (hpa : x1.parts = x.parts) (his : x1.is = true) (h1 : lftR (E.V.set n0 ⟨q0.v, x.stamp, -1⟩) (i : Int) x1 = rest) (h2 : ∀ (j : Nat) (y : Tx), j ≠ i → E.T[j]? = some y → y.is = true → lftR (E.V.set n0 ⟨q0.v, x.stamp, -1⟩) (j : Int) y = lftR E.V (j : Int) y) :
    Calls Try.prog 56 #[.pointer (some ⟨p, 0, none⟩), .int .i64 (i : Int)] w fun e w' =>
      (rest ≠ [] ∧ e = .returned (.int .i64 3) ∧ OnS F w w' ∧ ∃ F', (∃ tv' G', EI w' F' p { setT E (i : Int) x1 with V := E.V.set n0 ⟨q0.v, x.stamp, -1⟩ } vv tv' G') ∧ Gr w F F') ∨
      (rest = [] ∧ e = .returned (.int .i64 4) ∧ OnS F w w' ∧ ∃ F', (∃ tv' G', EI w' F' p { setT E (i : Int) tx0 with V := E.V.set n0 ⟨q0.v, x.stamp, -1⟩ } vv tv' G') ∧ Gr w F F') := by
  have HH := Lib.hid H
  obtain ⟨b, hb, rv, pv, lv, ms, HX⟩ := H.th1 i x hx hs
  have hm1 : ∃ m, ms = [m] := by
    have hl : ms.length = 1 := by have := HX.np; rw [hp1] at this; omega
    match ms, hl with
    | [m], _ => exact ⟨m, rfl⟩
  obtain ⟨m, rfl⟩ := hm1
  have hisp : IsP m.2 x.puts 1 := HX.isp 0 m rfl
  obtain ⟨gv, capv, curv, hvv, hkv, hgv, hfv, hFv, v0, v1, v2⟩ := H.vr hv
  subst hvv
  rw [hL] at HX
  obtain ⟨c0, c1, c2, c3, c4, c5⟩ := HX.cells
  obtain ⟨lb, off, lc, hlv, hlc, hlbl, l0⟩ := row_cons HX.lf
  have y1 : w.cell? ⟨p, 1, none⟩ = some (.slice (some ⟨gv, 0, none⟩) E.V.length capv) := H.bk.cell 1 _ rfl
  have y2 := H.tc hi
  rw [hb, ptr_some] at y2
  have hn := (List.getElem?_eq_some_iff.1 hv).1
  obtain ⟨N, hN⟩ : ∃ N, Hid (E.V.length = N) := ⟨_, Lib.hid rfl⟩
  rw [hN.out] at y1 hn
  have HXX := Lib.hid HX
  have HV := Lib.hid hv
  have i0 : (0 : Int) ≤ (i : Int) := by omega
  have i1 : (i : Int) < 8 := by omega
  have n1 : (0 : Int) ≤ (n0 : Int) := by omega
  have n2 : (n0 : Int) < (N : Int) := by omega
  have hbl := HX.bk.lt
  have hpl := H.bk.lt
  have hgb : gv ≠ b := fun e => absurd (bk_typ (e ▸ hkv) HX.bk) (by decide)
  have hpg : p ≠ gv := fun e => absurd (bk_typ (e ▸ H.bk) hkv) (by decide)
  have hpb : p ≠ b := fun e => absurd (bk_typ (e ▸ H.bk) HX.bk) (by decide)
  have f0 := hfv (n0 * 3)
  have f1 := hfv (n0 * 3 + 1)
  have f2 := hfv (n0 * 3 + 2)
  have f4 := HX.bk.free 4
  have pf := H.bk.free (2 + i)
  obtain ⟨R, hR⟩ : ∃ R, Hid (rest.length = R) := ⟨_, Lib.hid rfl⟩
  have HLV := Lib.hid hlv
  rw [hR.out] at hlv hlc hrl
  have HLF := Lib.hid (show RowI w (.slice (some ⟨lb, off, none⟩) (R + 1) lc) ((n0 : Int) :: rest) from hlv ▸ HX.lf)
  rw [hlv] at c4
  have r1 : (1 : Int) ≤ (R : Int) + 1 := by omega
  have r0 : (0 : Int) < (R : Int) + 1 := by omega
  have HX0 := Lib.hid hx
  have HB := Lib.hid hb
  have HS := Lib.hid hs
  have HY := Lib.hid (youngest_d (ms := []) w HX (Nat.zero_le _))
  have HYD := Lib.hid (youngest_d (ms := []) w.drew (HX.keep (bdr w)) (Nat.zero_le _))
  have hlk := (run_look (P := Try.prog) (MT := 88) (KT := 3) (ET := 3) Try.underlying88 Try.underlying3 Try.zeroValue3 w.drew.drew m.1 m.2 (n0 : Int) (HX.mp m (by simp))).2
  rw [hisp.eq, hval] at hlk
  obtain ⟨va, ve, lo⟩ := v
  simp only at v0 v1 v2
  obtain ⟨q, hq⟩ : ∃ q, q0.v = q := ⟨_, rfl⟩
  obtain ⟨st, hst⟩ : ∃ st, x.stamp = st := ⟨_, rfl⟩
  rw [hq] at hlk h1 h2 ⊢
  rw [hst] at c5 h1 h2 ⊢
  have H1 := Lib.hid h1
  have H2 := Lib.hid h2
  have HI := Lib.hid (And.intro hx1 (And.intro hr1 (And.intro hpu (And.intro hpa his))))
  have hlk : (Instr.lookup 88 (.map (some m.1)) (.int .i64 (n0 : Int)) false).run Try.prog w.drew.drew = .ok (.int .i64 q) w.drew.drew := hlk
  clear H HX hx hs hv hL c0 c1 c3 hkv hfv hFv hlv hb hval hp1 h1 h2 hx1 hr1 hpu hpa his hq hst
  by_cases q2 : lc = 1
  · subst q2
    obtain rfl : R = 0 := by omega
    obtain rfl : rest = [] := List.length_eq_zero_iff.1 hR.out
    go_enter Try.func56, Try.ntmps56
    go_wp2_with fail
    go_region_law (first | (go_simp; go_at_call 55; refine HYD.out.mono ?_; rintro e w2 ⟨rfl, rfl⟩))
    all_goals
      go_wp2_with fail
      go_ret
      obtain ⟨w', hw', ho, F', ⟨tv', G', hE⟩, hg⟩ := ei_put4 HH.out hi HX0.out HB.out HXX.out HV.out q st (-1) (lv' := .slice (some ⟨lb, off, none⟩) 0 0) (rest := []) (rowR_nil _ _) (fun c h => by rw [HLV.out]; exact h) H2.out
      subst hw'
      exact .inr ⟨by simp, rfl, (ho.trans (OnS.of (bdr _))).trans (OnS.of (bdr _)), F', ⟨tv', G', (hE.keep (bdr _)).keep (bdr _)⟩, hg⟩
  · have q3 : 1 < lc := by omega
    by_cases hR0 : R = 0
    · subst hR0
      obtain rfl : rest = [] := List.length_eq_zero_iff.1 hR.out
      go_enter Try.func56, Try.ntmps56
      go_wp2_with fail
      go_region_law (first | (go_simp; go_at_call 55; refine HYD.out.mono ?_; rintro e w2 ⟨rfl, rfl⟩))
      all_goals
        go_wp2_with fail
        go_ret
        obtain ⟨w', hw', ho, F', ⟨tv', G', hE⟩, hg⟩ := ei_put4 HH.out hi HX0.out HB.out HXX.out HV.out q st (-1) (lv' := .slice (some ⟨lb, off + 1, none⟩) 0 (lc - 1)) (rest := []) (rowR_nil _ _) (fun c h => by rw [HLV.out]; exact h) H2.out
        subst hw'
        exact .inr ⟨by simp, rfl, (ho.trans (OnS.of (bdr _))).trans (OnS.of (bdr _)), F', ⟨tv', G', (hE.keep (bdr _)).keep (bdr _)⟩, hg⟩
    · have HRN := Lib.hid (show rest ≠ [] from fun e => hR0 (by rw [← hR.out, e]; rfl))
      have hRp : (0 : Int) < (R : Int) := by omega
      go_enter Try.func56, Try.ntmps56
      go_wp2_with fail
      go_region_law (first | (go_simp; go_at_call 55; refine HYD.out.mono ?_; rintro e w2 ⟨rfl, rfl⟩))
      all_goals
        go_wp2_with fail
        go_ret
        obtain ⟨w', hw', ho, F', ⟨tv', G', hE⟩, hg⟩ := ei_put HH.out HX0.out HB.out HXX.out HV.out q st (-1) (lv' := .slice (some ⟨lb, off + 1, none⟩) R (lc - 1)) (rest := rest) (row_tail HLF.out hR.out) (fun c h => by rw [HLV.out]; exact h) HI.out.1 HI.out.2.1 HI.out.2.2.1 HI.out.2.2.2.1 HI.out.2.2.2.2 H1.out H2.out
        subst hw'
        exact .inl ⟨HRN.out, rfl, (ho.trans (OnS.of (bdr _))).trans (OnS.of (bdr _)), F', ⟨tv', G', (hE.keep (bdr _)).keep (bdr _)⟩, hg⟩
end
end Go.Proofs.Ytjoifodjbdbicaa.PP
