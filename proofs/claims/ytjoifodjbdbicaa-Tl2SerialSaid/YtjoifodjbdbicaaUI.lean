/- The document's engine: Write. -/
import Derived.Test.YtjoifodjbdbicaaZD
namespace Go.Proofs.Ytjoifodjbdbicaa.UI
open Go.RowKit Go.Proofs.Ytjoifodjbdbicaa.RG Go.Proofs.Ytjoifodjbdbicaa.RB Go.Proofs.Ytjoifodjbdbicaa.RI Go.Proofs.Ytjoifodjbdbicaa.UA Go.Proofs.Ytjoifodjbdbicaa.UB Go.Proofs.Ytjoifodjbdbicaa.UC Go.Proofs.Ytjoifodjbdbicaa.UD Go.Proofs.Ytjoifodjbdbicaa.UE Go.Proofs.Ytjoifodjbdbicaa.UF Go.Proofs.Ytjoifodjbdbicaa.UG Go.Proofs.Ytjoifodjbdbicaa.UH
set_option linter.unusedVariables false
set_option maxRecDepth 100000
set_option maxRecDepth 100000

/-- The blocks that were, and all that are new. -/
def Fx (F : Nat → Prop) (w w' : World) : Nat → Prop := fun b => F b ∨ (w.heap.size ≤ b ∧ b < w'.heap.size)
theorem gr_fx (F : Nat → Prop) (w w' : World) : Gr w F (Fx F w w') := fun b h => by
  rcases h with h | h
  · exact .inl h
  · exact .inr h.1
/-- Where a transaction's rows, and new blocks, have turned, all other rows are as they were. -/
theorem di_row {w w1 : World} {F S : Nat → Prop} {r : Nat} {E : Eg} {vv : Value} {g n cap : Nat} {Z : List Tz} (H : DI w F r E vv (.slice (some ⟨g, 0, none⟩) n cap) Z) {i : Nat} {z z' : Tz} (hz : Z[i]? = some z) (ho : OnS S w w1) (hS : ∀ b, S b → z.rv.ownBlock = some b ∨ z.pv.ownBlock = some b ∨ w.heap.size ≤ b)
    (hr : OwnF TI w1 z'.rv z'.x.reads) (hp : OwnF TPt w1 z'.pv z'.x.puts) (hbr : Blk w z.rv z'.rv) (hbp : Blk w z.pv z'.pv) {j : Nat} {u : Value} (hj : j < 8) (he : encZ z' = (encZ z).set j u) : DI (w1.setCell ⟨g, i * 8 + j, none⟩ u) (Fx F w w1) r { E with T := E.T.set i z'.x } vv (.slice (some ⟨g, 0, none⟩) n cap) (Z.set i z') := by
  obtain ⟨⟨cur, hk⟩, _⟩ := own_blk (b := g) H.ts rfl
  have hzr := (H.rows i z hz).1
  have hzp := (H.rows i z hz).2
  have key : ∀ {α : Type} {R : Ty Try.prog α} {v : Value} {L : List α}, OwnF R w v L → (R.e ≠ TI.e ∨ ∀ b, z.rv.ownBlock = some b → v.ownBlock ≠ some b) → (R.e ≠ TPt.e ∨ ∀ b, z.pv.ownBlock = some b → v.ownBlock ≠ some b) → OwnF R w1 v L := fun {α R v L} h h1 h2 => ownF_on h ho fun b e hs => by
    rcases hS b hs with h3 | h3 | h3
    · rcases h1 with h1 | h1
      · exact own_diff h hzr h1 e h3
      · exact h1 b h3 e
    · rcases h2 with h2 | h2
      · exact own_diff h hzp h2 e h3
      · exact h2 b h3 e
    · have := (h.own e).2; omega
  have hts := key H.ts (.inl (by decide)) (.inl (by decide))
  have hvs := key H.vs (.inl (by decide)) (.inl (by decide))
  have hrw : ∀ (k : Nat) (y : Tz), k ≠ i → Z[k]? = some y → OwnF TI w1 y.rv y.x.reads ∧ OwnF TPt w1 y.pv y.x.puts := fun k y hne hy =>
    ⟨key (H.rows k y hy).1 (.inr fun b e => (H.sep i k z y (Ne.symm hne) hz hy b).1 e) (.inl (by decide)), key (H.rows k y hy).2 (.inl (by decide)) (.inr fun b e => (H.sep i k z y (Ne.symm hne) hz hy b).2 e)⟩
  have hbk : Bk w1 r _ _ := ho.bk H.bk fun hs => by
    rcases hS r hs with h3 | h3 | h3
    · exact own_typ hzr H.bk (by decide) h3 rfl
    · exact own_typ hzp H.bk (by decide) h3 rfl
    · have := H.bk.lt; omega
  have hk1 : Bk w1 g cur _ := ho.bk hk fun hs => by
    rcases hS g hs with h3 | h3 | h3
    · exact own_typ hzr hk (by decide) h3 rfl
    · exact own_typ hzp hk (by decide) h3 rfl
    · have := hk.lt; omega
  have hgr : r ≠ g := fun e => by
    have h1 : 47 = 43 := bk_typ (e ▸ H.bk) hk
    exact absurd h1 (by decide)
  have hFx : ∀ b, F b → Fx F w w1 b := fun b h => .inl h
  have hsz : (w1.setCell ⟨g, i * 8 + j, none⟩ u).heap.size = w1.heap.size := World.size_setCell _ _ _
  refine ⟨hbk.other hgr _ _, ownF_wr hvs hk1 (by decide) _ _, ?_, by rw [List.map_set, H.ex], fun k y hy => ?_, sep_set H.sep fun k y hne hy b => ⟨fun e1 e2 => ?_, fun e1 e2 => ?_⟩, fun b e => .inl (H.inv b e), fun b e => .inl (H.int b e), fun k y hy b => ?_, .inl H.own, fun b hb => ?_⟩
  · exact own_set hts hz hj fun q hq => ⟨[], by
      obtain ⟨rfl, _⟩ := hq
      exact he, rfl, hr.row.one, hp.row.one⟩
  · rw [List.getElem?_set] at hy
    split at hy
    · split at hy
      · injection hy with hy
        subst hy
        exact ⟨ownF_wr hr hk1 (by decide) _ _, ownF_wr hp hk1 (by decide) _ _⟩
      · cases hy
    · next hne => exact ⟨ownF_wr (hrw k y (Ne.symm hne) hy).1 hk1 (by decide) _ _, ownF_wr (hrw k y (Ne.symm hne) hy).2 hk1 (by decide) _ _⟩
  · rcases hbr b e1 with h | h
    · exact (H.sep i k z y (Ne.symm hne) hz hy b).1 h e2
    · have := ((H.rows k y hy).1.own e2).2; omega
  · rcases hbp b e1 with h | h
    · exact (H.sep i k z y (Ne.symm hne) hz hy b).2 h e2
    · have := ((H.rows k y hy).2.own e2).2; omega
  · rw [List.getElem?_set] at hy
    split at hy
    · split at hy
      · injection hy with hy
        subst hy
        refine ⟨fun e => ?_, fun e => ?_⟩
        · rcases hbr b e with h | h
          · exact .inl ((H.inz i z hz b).1 h)
          · exact .inr ⟨h, (hr.own e).2⟩
        · rcases hbp b e with h | h
          · exact .inl ((H.inz i z hz b).2 h)
          · exact .inr ⟨h, (hp.own e).2⟩
      · cases hy
    · exact ⟨fun e => .inl ((H.inz k y hy b).1 e), fun e => .inl ((H.inz k y hy b).2 e)⟩
  · rw [hsz]
    rcases hb with hb | hb
    · exact Nat.lt_of_lt_of_le (H.lt b hb) ho.size
    · exact hb.2
theorem addr_ne {g i j : Nat} (h : i ≠ j) : (⟨g, i, none⟩ : Addr) ≠ ⟨g, j, none⟩ := fun e => h (by injection e)
set_option maxHeartbeats 1600000 in
theorem rwrite_c (w : World) (F : Nat → Prop) (r : Nat) (E : Eg) (H : DE w F r E) (m : Nat) (HW : Wf m E) (hm : m ≤ 1000000) (t n v : Int) :
    Calls Try.prog 41 #[.pointer (some ⟨r, 0, none⟩), .int .i64 t, .int .i64 n, .int .i64 v] w fun e w' => e = .returned (.int .i64 (writeR E t n v).2) ∧ OnS F w w' ∧ ∃ F', DE w' F' r (writeR E t n v).1 ∧ Gr w F F' := by
  have HH := Lib.hid H
  have HO := Lib.hid (ropen_c w F r E H HW.th t)
  have HS := Lib.hid (fun w1 (h : DE w1 F r E) => ris_c w1 F r E h n)
  by_cases hok : openR E t = true ∧ (vrR E n).isSome = true
  · obtain ⟨ho, hs⟩ := hok
    rcases thR_cases E HW.th t with ⟨hn, h1⟩ | ⟨i, x, rfl, hi, hx, hth⟩
    · unfold openR at ho; rw [hn] at ho; cases ho
    have hop : opn x = true := by unfold openR at ho; rw [hth] at ho; exact ho
    obtain ⟨vr, hvr⟩ := Option.isSome_iff_exists.1 hs
    have hr : writeR E (i : Int) n v = (setT E (i : Int) { x with puts := putR n v x.parts x.puts }, 0) := by unfold writeR; rw [hth, hvr]; exact if_pos hop
    rw [hr]
    rw [ho] at HO
    rw [hs] at HS
    have HX := Lib.hid hx
    have H8 := Lib.hid HW.th
    have HPL := Lib.hid (Nat.le_trans (HW.tx x (mem_of hx)).puts hm)
    have i0 : (0 : Int) ≤ (i : Int) := by omega
    have i1 : (i : Int) < 8 := by omega
    clear hr hth hop hvr hx HW H ho hs hm
    go_enter Try.func41, Try.ntmps41
    go_wp2_with fail
    refine HO.out.mono ?_
    rintro e w1 ⟨rfl, hb⟩
    have HB := Lib.hid hb
    clear hb
    go_wp2_with fail
    refine (HS.out w1 (HH.out.keep HB.out)).mono ?_
    rintro e w2 ⟨rfl, hb⟩
    have HB2 := Lib.hid (bnext HB.out hb)
    clear hb
    obtain ⟨vv, tv, Z, hd⟩ := HH.out.keep HB2.out
    obtain ⟨z, hz, hzx⟩ := hd.zat HX.out
    obtain ⟨g, cap, cur, rfl, hk, hg, hf, hF, c0, c1, c2, c3, c4, c5, c6, c7⟩ := hd.tx hz
    have y2 : w2.cell? ⟨r, 2, none⟩ = some (.slice (some ⟨g, 0, none⟩) E.T.length cap) := hd.bk.cell 2 _ rfl
    rw [H8.out] at y2
    have HI := Lib.hid hd
    have HZ := Lib.hid hz
    have hpl : z.x.puts.length ≤ 1000000 := by rw [hzx]; exact HPL.out
    have HPT := Lib.hid (fun w3 (hb : Below w2.heap.size w2 w3) => rput_c w3 z.pv z.x.puts (ownF_on (hd.rows i z hz).2 (OnS.none hb) (fun _ _ h => h)) hpl n v z.x.parts)
    have f3 := hf (i * 8 + 3)
    have HK := Lib.hid hk
    have hrg : r ≠ g := fun e => absurd (show 47 = 43 from bk_typ (e ▸ hd.bk) hk) (by decide)
    have HR0 := Lib.hid hd.bk
    have HNR := Lib.hid (fun (e : z.pv.ownBlock = some r) => own_typ (hd.rows i z hz).2 hd.bk (by decide) e rfl)
    have HNG := Lib.hid (fun (e : z.pv.ownBlock = some g) => own_typ (hd.rows i z hz).2 hk (by decide) e rfl)
    obtain ⟨pv, hpv⟩ : ∃ pv, Hid (z.pv = pv) := ⟨_, Lib.hid rfl⟩
    rw [hpv.out] at c3 HPT HNR HNG
    have HC3 := Lib.hid c3
    have HRG := Lib.hid hrg
    have hpo : pv.oneCell' = true := by rw [← hpv.out]; exact (hd.rows i z hz).2.row.one
    obtain ⟨pt, hpt⟩ : ∃ p, Hid (z.x.parts = p) := ⟨_, Lib.hid rfl⟩
    rw [hpt.out] at c4 HPT
    have HC4 := Lib.hid c4
    clear hd hz hk hf c0 c1 c2 c5 c6 c7 hF
    go_wp2_with fail
    have HC := Lib.hid (show w2.drew.cell? ⟨r, 2, none⟩ = some (.slice (some ⟨g, 0, none⟩) 8 cap) ∧ w2.drew.cell? ⟨g, i * 8 + 4, none⟩ = some (.int .i64 pt) from ⟨y2, c4⟩)
    go_region_law (first | (go_simp; go_at_call 71; refine (HPT.out _ (bdr w2)).mono ?_; rintro e w3 ⟨pv', rfl, hO, hS, hB⟩; obtain ⟨pa, pc, hpe, _⟩ := hO.val; obtain ⟨pn, hpn⟩ : ∃ k, Hid ((putR n v pt z.x.puts).length = k) := ⟨_, Lib.hid rfl⟩; rw [hpn.out] at hpe; subst hpe; have HO3 := Lib.hid hO; have HS3 := Lib.hid hS; have HB3 := Lib.hid hB; have yr3 := hS.bk (HR0.out.keep (bdr w2)) HNR.out; have y23 : w3.cell? ⟨r, 2, none⟩ = some (.slice (some ⟨g, 0, none⟩) E.T.length cap) := yr3.cell 2 _ rfl; rw [H8.out] at y23; have c43 : w3.cell? ⟨g, i * 8 + 4, none⟩ = some (.int .i64 pt) := (World.cell?_of_block (w := w2) (a := ⟨g, i * 8 + 4, none⟩) (hS.block g HK.out.lt HNG.out)).trans HC4.out; have HS33 := Lib.hid (And.intro y23 c43); have HS34 := Lib.hid (show (w3.setCell ⟨g, i * 8 + 3, none⟩ (.slice pa pn pc)).cell? ⟨r, 2, none⟩ = some (.slice (some ⟨g, 0, none⟩) 8 cap) ∧ (w3.setCell ⟨g, i * 8 + 3, none⟩ (.slice pa pn pc)).cell? ⟨g, i * 8 + 4, none⟩ = some (.int .i64 pt) from ⟨(World.cell?_of_block (w := w3) (a := ⟨r, 2, none⟩) (Below.heap_setCell _ _ _ _ HRG.out)).trans y23, (World.cell?_setCell_other w3 ⟨g, i * 8 + 3, none⟩ ⟨g, i * 8 + 4, none⟩ _ (addr_ne (by omega))).trans c43⟩); have c33 : w3.cell? ⟨g, i * 8 + 3, none⟩ = some pv := (World.cell?_of_block (w := w2) (a := ⟨g, i * 8 + 3, none⟩) (hS.block g HK.out.lt HNG.out)).trans HC3.out; have f33 := (hS.bk (HK.out.keep (bdr w2)) HNG.out).free (i * 8 + 3); clear hO hS hB yr3))
    all_goals
      go_wp2_with fail
      go_ret
      have hd := HI.out.keep (bdr w2)
      have hr3 : OwnF TI w3 z.rv z.x.reads := ownF_on (hd.rows i z HZ.out).1 HS3.out (fun b e e2 => own_diff (hd.rows i z HZ.out).1 (hd.rows i z HZ.out).2 (by decide) e (by rw [hpv.out]; exact e2))
      have hd3 := di_row hd HZ.out (z' := ⟨{ z.x with puts := putR n v z.x.parts z.x.puts }, z.rv, .slice pa pn pc⟩) HS3.out (fun b hb => .inr (.inl (by rw [hpv.out]; exact hb))) hr3 (by rw [hpt.out]; exact HO3.out) (fun b e => .inl e) (by rw [hpv.out]; exact HB3.out) (j := 3) (u := .slice pa pn pc) (by decide) rfl
      simp only [hzx] at hd3
      refine ⟨rfl, ?_, _, ⟨vv, _, _, hd3⟩, ?_⟩
      · exact ((OnS.of HB2.out).trans (OnS.of (bdr w2))).trans ((HS3.out.weak (fun b _ hb => (hd.inz i z HZ.out b).2 (by rw [hpv.out]; exact hb))).trans ((OnS.cell g _ _).weak fun b _ hb => by rw [hb]; exact hd.int g rfl))
      · intro b hb
        rcases hb with hb | hb
        · exact .inl hb
        · exact .inr (Nat.le_trans HB2.out.size hb.1)
  · have hr : writeR E t n v = (E, 1) := by
      unfold writeR
      unfold openR at hok
      cases h1 : thR E t with
      | none => rfl
      | some x =>
        cases h2 : vrR E n with
        | none => rfl
        | some y =>
          rw [h1, h2] at hok
          exact if_neg (fun h => hok ⟨h, rfl⟩)
    rw [hr]
    obtain ⟨a, ha⟩ : ∃ a, openR E t = a := ⟨_, rfl⟩
    obtain ⟨b, hb⟩ : ∃ b, (vrR E n).isSome = b := ⟨_, rfl⟩
    rw [ha] at HO hok
    rw [hb] at HS hok
    have hab : a = false ∨ (a = true ∧ b = false) := by cases a <;> cases b <;> simp at hok ⊢
    clear hr ha hb hok H HW hm
    rcases hab with rfl | ⟨rfl, rfl⟩
    all_goals
      go_enter Try.func41, Try.ntmps41
      go_wp2_with fail
      refine HO.out.mono ?_
      rintro e w1 ⟨rfl, hb⟩
      have HB := Lib.hid hb
      clear hb
      go_wp2_with fail
      refine (HS.out w1 (HH.out.keep HB.out)).mono ?_
      rintro e w2 ⟨rfl, hb⟩
      have HB2 := Lib.hid (bnext HB.out hb)
      clear hb
      go_wp2_with fail
      go_ret
      exact ⟨rfl, OnS.of HB2.out, F, HH.out.keep HB2.out, Gr.refl _ _⟩
end Go.Proofs.Ytjoifodjbdbicaa.UI
