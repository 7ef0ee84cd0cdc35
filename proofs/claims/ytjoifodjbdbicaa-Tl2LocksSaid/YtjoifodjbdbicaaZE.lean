/- ZE: several texts in one (UK UL UM). -/
import Derived.Test.YtjoifodjbdbicaaUJ

/- The document's engine: Abort. -/
namespace Go.Proofs.Ytjoifodjbdbicaa.UK
open Go.RowKit Go.Proofs.Ytjoifodjbdbicaa.RG Go.Proofs.Ytjoifodjbdbicaa.RB Go.Proofs.Ytjoifodjbdbicaa.RI Go.Proofs.Ytjoifodjbdbicaa.UA Go.Proofs.Ytjoifodjbdbicaa.UB Go.Proofs.Ytjoifodjbdbicaa.UC Go.Proofs.Ytjoifodjbdbicaa.UD Go.Proofs.Ytjoifodjbdbicaa.UE Go.Proofs.Ytjoifodjbdbicaa.UF Go.Proofs.Ytjoifodjbdbicaa.UG Go.Proofs.Ytjoifodjbdbicaa.UH Go.Proofs.Ytjoifodjbdbicaa.UI Go.Proofs.Ytjoifodjbdbicaa.UJ
set_option linter.unusedVariables false
set_option maxRecDepth 100000
set_option maxRecDepth 100000

def encV (v : Vr) : List Value := [.int .i64 v.val, .int .i64 v.ver, .int .i64 v.lock]
/-- A cell of a var is written. -/
theorem di_vcell {w : World} {F : Nat → Prop} {r : Nat} {E : Eg} {tv : Value} {g n cap : Nat} {Z : List Tz} (H : DI w F r E (.slice (some ⟨g, 0, none⟩) n cap) tv Z) {k : Nat} {v v' : Vr} {j : Nat} {u : Value} (hv : E.V[k]? = some v) (hj : j < 3) (he : encV v' = (encV v).set j u) :
    DI (w.setCell ⟨g, k * 3 + j, none⟩ u) F r { E with V := E.V.set k v' } (.slice (some ⟨g, 0, none⟩) n cap) tv Z := by
  obtain ⟨⟨cur, hk⟩, _⟩ := own_blk (b := g) H.vs rfl
  have hgr : r ≠ g := fun e => by
    have h1 : 47 = 69 := bk_typ (e ▸ H.bk) hk
    exact absurd h1 (by decide)
  refine ⟨H.bk.other hgr _ _, ?_, ownF_wr H.ts hk (by decide) _ _, H.ex, fun i z hz => ⟨ownF_wr (H.rows i z hz).1 hk (by decide) _ _, ownF_wr (H.rows i z hz).2 hk (by decide) _ _⟩, H.sep, H.inv, H.int, H.inz, H.own, fun b hb => by have := H.lt b hb; simpa using this⟩
  exact own_set H.vs hv hj fun q hq => ⟨[], by
    obtain rfl : q = [] := hq
    exact he, rfl⟩
/-- The vars, where the first j are looked at. -/
def upV (f : Vr → Vr) (V : List Vr) (j : Nat) : List Vr := (V.take j).map f ++ V.drop j
theorem upV_len (f : Vr → Vr) (V : List Vr) (j : Nat) : (upV f V j).length = V.length := by unfold upV; simp; omega
theorem upV_at {f : Vr → Vr} {V : List Vr} {j : Nat} {v : Vr} (h : V[j]? = some v) : (upV f V j)[j]? = some v := by
  have hi := (List.getElem?_eq_some_iff.1 h).1
  unfold upV
  rw [List.getElem?_append_right (by simp; omega), List.getElem?_drop]
  simp only [List.length_map, List.length_take]
  rw [show j + (j - min j V.length) = j by omega, h]
theorem upV_next {f : Vr → Vr} {V : List Vr} {j : Nat} {v : Vr} (h : V[j]? = some v) : upV f V (j + 1) = (upV f V j).set j (f v) := by
  have hi := (List.getElem?_eq_some_iff.1 h).1
  unfold upV
  rw [List.take_add_one, h, List.map_append, List.set_append_right _ _ (by simp; omega)]
  simp only [List.length_map, List.length_take]
  rw [show j - min j V.length = 0 by omega, List.drop_eq_getElem_cons hi, List.set_cons_zero, List.append_assoc]
  rfl
theorem set_same : ∀ (l : List Vr) (i : Nat) (t : Vr), l[i]? = some t → l.set i t = l
  | [], i, t, h => by simp at h
  | a :: l, 0, t, h => by simp at h; subst h; rfl
  | a :: l, i + 1, t, h => by rw [List.set_cons_succ, set_same l i t (by simpa using h)]
theorem upV_zero (f : Vr → Vr) (V : List Vr) : upV f V 0 = V := by unfold upV; simp
theorem upV_all {f : Vr → Vr} {V : List Vr} {n : Nat} (h : V.length = n) : upV f V n = V.map f := by unfold upV; rw [List.take_of_length_le (by omega), List.drop_eq_nil_of_le (by omega), List.append_nil]
theorem unlock_yes {t : Int} {v : Vr} (h : v.lock = t) : unlock t v = ⟨v.val, v.ver, -1⟩ := if_pos h
theorem unlock_no {t : Int} {v : Vr} (h : ¬ v.lock = t) : unlock t v = v := if_neg h
set_option maxHeartbeats 3200000 in
theorem rabort_c (w : World) (F : Nat → Prop) (r : Nat) (E : Eg) (H : DE w F r E) (m : Nat) (HW : Wf m E) (t : Int) :
    Calls Try.prog 33 #[.pointer (some ⟨r, 0, none⟩), .int .i64 t] w fun e w' => e = .returned (.int .i64 (abortR E t).2) ∧ OnS F w w' ∧ DE w' F r (abortR E t).1 := by
  have HH := Lib.hid H
  have HO := Lib.hid (rhas_c w F r E H HW.th t)
  rcases thR_cases E HW.th t with ⟨hn, h1⟩ | ⟨i, x, rfl, hi, hx, hth⟩
  · have hr : abortR E t = (E, 1) := by unfold abortR; rw [hn]
    have ho : hasR E t = false := by unfold hasR; rw [hn]
    rw [hr]
    rw [ho] at HO
    clear H hn hr HW h1 ho
    go_enter Try.func33, Try.ntmps33
    go_wp2_with fail
    refine HO.out.mono ?_
    rintro e w1 ⟨rfl, hb⟩
    have HB := Lib.hid hb
    clear hb
    go_wp2_with fail
    go_ret
    exact ⟨rfl, OnS.of HB.out, HH.out.keep HB.out⟩
  · have hr : abortR E (i : Int) = if x.is = false ∨ 0 < x.stamp then (E, 1) else ({ setT E (i : Int) tx0 with V := E.V.map (unlock (i : Int)) }, 0) := by unfold abortR; rw [hth]
    have ho : hasR E (i : Int) = x.is := by unfold hasR; rw [hth]
    rw [hr]
    rw [ho] at HO
    have HX := Lib.hid hx
    have H8 := Lib.hid HW.th
    have i0 : (0 : Int) ≤ (i : Int) := by omega
    have i1 : (i : Int) < 8 := by omega
    obtain ⟨b, hb⟩ : ∃ b, x.is = b := ⟨_, rfl⟩
    obtain ⟨st, hst⟩ : ∃ st, Hid (x.stamp = st) := ⟨_, Lib.hid rfl⟩
    rw [hb] at HO ⊢
    rw [hst.out]
    have hv4 := HW.vs
    obtain ⟨N, hN⟩ : ∃ N, Hid (E.V.length = N) := ⟨_, Lib.hid rfl⟩
    rw [hN.out] at hv4
    clear hr hth ho hx H hb HW
    cases b
    · rw [if_pos (.inl rfl)]
      go_enter Try.func33, Try.ntmps33
      go_wp2_with fail
      refine HO.out.mono ?_
      rintro e w1 ⟨rfl, hb⟩
      have HB := Lib.hid hb
      clear hb
      go_wp2_with fail
      go_ret
      exact ⟨rfl, OnS.of HB.out, HH.out.keep HB.out⟩
    · by_cases hs : 0 < st
      · rw [if_pos (.inr hs)]
        go_enter Try.func33, Try.ntmps33
        go_wp2_with fail
        refine HO.out.mono ?_
        rintro e w1 ⟨rfl, hb⟩
        have HB := Lib.hid hb
        obtain ⟨vv, tv, Z, hd⟩ := HH.out.keep hb
        obtain ⟨z, hz, hzx⟩ := hd.zat HX.out
        obtain ⟨g, cap, cur, rfl, hk, hg, hf, hF, c0, c1, c2, c3, c4, c5, c6, c7⟩ := hd.tx hz
        have y2 : w1.cell? ⟨r, 2, none⟩ = some (.slice (some ⟨g, 0, none⟩) E.T.length cap) := hd.bk.cell 2 _ rfl
        rw [H8.out] at y2
        rw [hzx, hst.out] at c6
        clear hd hz hzx hk hf hF c0 c1 c2 c3 c4 c5 c7 hb
        go_wp2_with fail
        go_ret
        exact ⟨rfl, OnS.of HB.out, HH.out.keep HB.out⟩
      · rw [if_neg (by simp [hs])]
        have hs' : decide (0 < st) = false := decide_eq_false hs
        go_enter Try.func33, Try.ntmps33
        go_wp2_with fail
        refine HO.out.mono ?_
        rintro e w1 ⟨rfl, hb⟩
        have HB := Lib.hid hb
        obtain ⟨vv, tv, Z, hd⟩ := HH.out.keep hb
        have HD := Lib.hid hd
        obtain ⟨z, hz, hzx⟩ := hd.zat HX.out
        obtain ⟨g, cap, cur, rfl, hk, hg, hf, hF, c0, c1, c2, c3, c4, c5, c6, c7⟩ := hd.tx hz
        have y2 : w1.cell? ⟨r, 2, none⟩ = some (.slice (some ⟨g, 0, none⟩) E.T.length cap) := hd.bk.cell 2 _ rfl
        rw [H8.out] at y2
        rw [hzx, hst.out] at c6
        clear hd hz hzx hk hf hF c0 c1 c2 c3 c4 c5 c7 hb hs
        go_wp2_with fail
        go_loopg [6] N (fun gg iv wr => ∃ j : Nat, j + gg = N ∧ iv = .int .i64 (j : Int) ∧ Hid (OnS F w1 wr) ∧ Hid (DI wr F r { E with V := upV (unlock (i : Int)) E.V j } vv (.slice (some ⟨g, 0, none⟩) E.T.length cap) Z))
        case atStart => exact ⟨0, Nat.zero_add _, rfl, Lib.hid (OnS.refl _ _), Lib.hid (by rw [upV_zero]; exact HD.out)⟩
        case round =>
          obtain ⟨j, hj, rfl, HX1, HD1⟩ := hrel
          have HJ := Lib.hid hj
          obtain ⟨va, vc, hvv, _⟩ := HD1.out.vs.val
          have y1 : wr.cell? ⟨r, 1, none⟩ = some vv := HD1.out.bk.cell 1 _ rfl
          rw [hvv] at y1
          simp only [upV_len, hN.out] at y1
          by_cases hlt : j < N
          · obtain ⟨g', rfl⟩ : ∃ g, gk = g + 1 := ⟨gk - 1, by omega⟩
            obtain ⟨v, hv⟩ := getElem?_of_lt (l := E.V) (k := j) (by rw [hN.out]; exact hlt)
            obtain ⟨gv, cv, cuv, hv2, hkv, hgv, hfv, hFv, v0, v1, v2⟩ := HD1.out.vr (upV_at (f := unlock (i : Int)) hv)
            simp only [upV_len, hN.out] at hv2
            rw [hvv] at hv2
            simp only [upV_len, hN.out] at hv2
            injection hv2 with e1 e2 e3
            subst e1
            subst e3
            clear e2
            have HNX := Lib.hid (upV_next (f := unlock (i : Int)) hv)
            have HVA := Lib.hid (upV_at (f := unlock (i : Int)) hv)
            have j0 : (0 : Int) ≤ (j : Int) := by omega
            have j1 : (j : Int) < (N : Int) := by omega
            have f2 := hfv (j * 3 + 2)
            have HFV := Lib.hid hFv
            have HVV := Lib.hid hvv
            obtain ⟨va1, ve, lo⟩ := v
            simp only at v0 v1 v2
            clear hv hkv hfv hFv v0 v1 hvv
            by_cases q1 : lo = (i : Int)
            · subst q1
              have hd2 : DI (wr.setCell ⟨gv, j * 3 + 2, none⟩ (.int .i64 (-1))) F r { E with V := upV (unlock (i : Int)) E.V (j + 1) } vv (.slice (some ⟨g, 0, none⟩) E.T.length cap) Z := by
                have h := HD1.out
                rw [HVV.out] at h ⊢
                have := di_vcell h (v' := ⟨va1, ve, -1⟩) (j := 2) (u := .int .i64 (-1)) HVA.out (by decide) rfl
                rw [HNX.out, unlock_yes (t := (i : Int)) (v := ⟨va1, ve, (i : Int)⟩) rfl]
                exact this
              have HD2 := Lib.hid hd2
              clear hd2
              go_wp2_with fail
              go_roundg g'
              case rel => exact ⟨j + 1, by have := HJ.out; omega, by go_num, Lib.hid (HX1.out.trans ((OnS.cell gv _ _).weak fun b _ hb => by rw [hb]; exact HFV.out)), HD2⟩
              case measure => omega
            · have e1 : (lo == (i : Int)) = false := by rw [beq_eq_false_iff_ne]; exact q1
              have HD2 : Hid (DI wr F r { E with V := upV (unlock (i : Int)) E.V (j + 1) } vv (.slice (some ⟨g, 0, none⟩) E.T.length cap) Z) := Lib.hid (by rw [HNX.out, unlock_no q1, set_same _ _ _ HVA.out]; exact HD1.out)
              go_wp2_with fail
              go_roundg g'
              case rel => exact ⟨j + 1, by have := HJ.out; omega, by go_num, HX1, HD2⟩
              case measure => omega
          · have hjn : j = N := by omega
            subst hjn
            have hd1 := HD1.out
            rw [upV_all hN.out] at hd1
            have HD3 := Lib.hid hd1
            obtain ⟨z, hz, hzx⟩ := hd1.zat (x := x) HX.out
            obtain ⟨g2, cap2, cur2, htv, hk, hg2, hf, hF, c0, c1, c2, c3, c4, c5, c6, c7⟩ := hd1.tx hz
            injection htv with e1 e2 e3
            injection e1 with e1
            injection e1 with e1
            subst e1
            subst e3
            clear e2
            have HP2 := Lib.hid (di_put hd1 hz tx0 rfl rfl)
            have y2 : wr.cell? ⟨r, 2, none⟩ = some (.slice (some ⟨g, 0, none⟩) E.T.length cap) := hd1.bk.cell 2 _ rfl
            rw [H8.out] at y2
            have f0 := hf (i * 8)
            have f1 := hf (i * 8 + 1)
            have f2 := hf (i * 8 + 2)
            have f3 := hf (i * 8 + 3)
            have f4 := hf (i * 8 + 4)
            have f5 := hf (i * 8 + 5)
            have f6 := hf (i * 8 + 6)
            have f7 := hf (i * 8 + 7)
            have HFg := Lib.hid hF
            clear hd1 hz hzx hk hf hF hvv
            go_wp2_with fail
            go_ret
            exact ⟨rfl, ((OnS.of HB.out).trans HX1.out).trans (on_put8 HFg.out _ _ _ _ _ _ _ _ _), vv, _, _, HP2.out⟩
end Go.Proofs.Ytjoifodjbdbicaa.UK

/- The document's engine: Join and Undo. -/
namespace Go.Proofs.Ytjoifodjbdbicaa.UL
open Go.RowKit Go.Proofs.Ytjoifodjbdbicaa.RG Go.Proofs.Ytjoifodjbdbicaa.RB Go.Proofs.Ytjoifodjbdbicaa.RI Go.Proofs.Ytjoifodjbdbicaa.UA Go.Proofs.Ytjoifodjbdbicaa.UB Go.Proofs.Ytjoifodjbdbicaa.UC Go.Proofs.Ytjoifodjbdbicaa.UD Go.Proofs.Ytjoifodjbdbicaa.UE Go.Proofs.Ytjoifodjbdbicaa.UF Go.Proofs.Ytjoifodjbdbicaa.UG Go.Proofs.Ytjoifodjbdbicaa.UH Go.Proofs.Ytjoifodjbdbicaa.UI Go.Proofs.Ytjoifodjbdbicaa.UJ Go.Proofs.Ytjoifodjbdbicaa.UK
set_option linter.unusedVariables false
set_option maxRecDepth 100000
set_option maxRecDepth 100000

def ownP (k : Int) (l : List Pt) : List Pt := l.filter fun p => decide (p.part = k)
def rstP (k : Int) (l : List Pt) : List Pt := l.filter fun p => !decide (p.part = k)
theorem ownP_len (k : Int) : ∀ l : List Pt, (ownP k l).length + (rstP k l).length = l.length
  | [] => rfl
  | p :: l => by
    have ih := ownP_len k l
    unfold ownP rstP at ih ⊢
    by_cases h : p.part = k
    · rw [List.filter_cons_of_pos (by simp [h]), List.filter_cons_of_neg (by simp [h])]; simp only [List.length_cons]; omega
    · rw [List.filter_cons_of_neg (by simp [h]), List.filter_cons_of_pos (by simp [h])]; simp only [List.length_cons]; omega
theorem ownP_take {k : Int} {l : List Pt} {j : Nat} {p : Pt} (h : l[j]? = some p) : ownP k (l.take (j + 1)) = ownP k (l.take j) ++ (if p.part = k then [p] else []) := by
  unfold ownP
  rw [List.take_add_one, h, List.filter_append]
  by_cases q : p.part = k <;> simp [q]
theorem rstP_take {k : Int} {l : List Pt} {j : Nat} {p : Pt} (h : l[j]? = some p) : rstP k (l.take (j + 1)) = rstP k (l.take j) ++ (if p.part = k then [] else [p]) := by
  unfold rstP
  rw [List.take_add_one, h, List.filter_append]
  by_cases q : p.part = k <;> simp [q]
theorem putR_len (n x part : Int) : ∀ l : List Pt, (putR n x part l).length ≤ l.length + 1
  | [] => Nat.le_refl _
  | p :: l => by
    have ih := putR_len n x part l
    unfold putR
    split <;> simp only [List.length_cons] <;> omega
theorem shutX_keep (x : Tx) : shutX x true = (ownP x.parts x.puts).foldl (joinS x.parts) (rstP x.parts x.puts) := rfl
theorem shutX_drop (x : Tx) : shutX x false = rstP x.parts x.puts := rfl
theorem below_onS {B : Nat} {w w' : World} (h : Below B w w') : OnS (fun b => B ≤ b) w w' := ⟨h.os, h.tape, h.output, h.size, fun k hk hn => h.block k (Nat.lt_of_not_le hn)⟩
theorem own_up {α : Type} {R : Ty Try.prog α} {w : World} {B : Nat} {v : Value} {L : List α} (h : OwnF R w v L) (hB : ∀ b, v.ownBlock = some b → B ≤ b) : OwnR R w B Nobody v L := by
  obtain ⟨qs, ⟨h1, h2⟩, h3⟩ := h
  refine ⟨qs, ⟨h1, ?_⟩, h3⟩
  rcases h2 with h2 | ⟨g, cap, cur, hv, hg, r⟩
  · exact .inl h2
  · exact .inr ⟨g, cap, cur, hv, hB g (by rw [hv]; rfl), r⟩
set_option maxHeartbeats 6400000 in
theorem rshut_c (w : World) (F : Nat → Prop) (r : Nat) (E : Eg) (H : DE w F r E) (m : Nat) (HW : Wf m E) (hm : m ≤ 1000000) (t : Int) (keep : Bool) :
    Calls Try.prog 43 #[.pointer (some ⟨r, 0, none⟩), .int .i64 t, .bool keep] w fun e w' => e = .returned (.int .i64 (shutR E t keep).2) ∧ OnS F w w' ∧ ∃ F', DE w' F' r (shutR E t keep).1 ∧ Gr w F F' := by
  have HH := Lib.hid H
  have HO := Lib.hid (ropen_c w F r E H HW.th t)
  rcases thR_cases E HW.th t with ⟨hn, h1⟩ | ⟨i, x, rfl, hi, hx, hth⟩
  · have hr : shutR E t keep = (E, 1) := by unfold shutR; rw [hn]
    have ho : openR E t = false := by unfold openR; rw [hn]
    rw [hr]
    rw [ho] at HO
    clear H hn hr HW h1 ho hm
    go_enter Try.func43, Try.ntmps43
    go_wp2_with fail
    refine HO.out.mono ?_
    rintro e w1 ⟨rfl, hb⟩
    have HB := Lib.hid hb
    clear hb
    go_wp2_with fail
    go_ret
    exact ⟨rfl, OnS.of HB.out, F, HH.out.keep HB.out, Gr.refl _ _⟩
  · have hr : shutR E (i : Int) keep = if opn x ∧ x.parts ≠ 1 then (setT E (i : Int) { x with puts := shutX x keep, parts := x.parts - 1 }, 0) else (E, 1) := by unfold shutR; rw [hth]
    rw [hr]
    rw [open_of hth] at HO
    have HX := Lib.hid hx
    have H8 := Lib.hid HW.th
    have hwx := HW.tx x (mem_of hx)
    have hp1 := hwx.parts1
    have hpm := hwx.parts
    have HPL := Lib.hid (Nat.le_trans hwx.puts hm)
    have i0 : (0 : Int) ≤ (i : Int) := by omega
    have i1 : (i : Int) < 8 := by omega
    obtain ⟨b, hb⟩ : ∃ b, opn x = b := ⟨_, rfl⟩
    have hp2 : b = true → 1 ≤ x.parts := fun e => hp1 (by rw [e] at hb; unfold opn at hb; cases h : x.is <;> simp [h] at hb ⊢)
    rw [hb] at HO ⊢
    obtain ⟨pt, hpt⟩ : ∃ p, Hid (x.parts = p) := ⟨_, Lib.hid rfl⟩
    rw [hpt.out] at hp2 hpm ⊢
    obtain ⟨SX, hSX⟩ : ∃ l, Hid (shutX x keep = l) := ⟨_, Lib.hid rfl⟩
    rw [hSX.out]
    obtain ⟨np, hnp⟩ : ∃ np, Hid (x.puts.length = np) := ⟨_, Lib.hid rfl⟩
    have hnpm : np ≤ 1000000 := by rw [← hnp.out]; exact HPL.out
    clear hr hth hx H hb HW hwx hp1
    cases b
    · rw [if_neg (by simp)]
      go_enter Try.func43, Try.ntmps43
      go_wp2_with fail
      refine HO.out.mono ?_
      rintro e w1 ⟨rfl, hb⟩
      have HB := Lib.hid hb
      clear hb
      go_wp2_with fail
      go_ret
      exact ⟨rfl, OnS.of HB.out, F, HH.out.keep HB.out, Gr.refl _ _⟩
    · have hp3 := hp2 rfl
      by_cases q1 : pt = 1
      · subst q1
        rw [if_neg (by simp)]
        go_enter Try.func43, Try.ntmps43
        go_wp2_with fail
        refine HO.out.mono ?_
        rintro e w1 ⟨rfl, hb⟩
        have HB := Lib.hid hb
        obtain ⟨vv, tv, Z, hd⟩ := HH.out.keep hb
        obtain ⟨z, hz, hzx⟩ := hd.zat HX.out
        obtain ⟨g, cap, cur, rfl, hk, hg, hf, hF, c0, c1, c2, c3, c4, c5, c6, c7⟩ := hd.tx hz
        have y2 : w1.cell? ⟨r, 2, none⟩ = some (.slice (some ⟨g, 0, none⟩) E.T.length cap) := hd.bk.cell 2 _ rfl
        rw [H8.out] at y2
        rw [hzx, hpt.out] at c4
        clear hd hz hzx hk hf hF c0 c1 c2 c3 c5 c6 c7 hb
        go_wp2_with fail
        go_ret
        exact ⟨rfl, OnS.of HB.out, F, HH.out.keep HB.out, Gr.refl _ _⟩
      · rw [if_pos ⟨rfl, q1⟩]
        have e1 : (pt == 1) = false := by rw [beq_eq_false_iff_ne]; exact q1
        go_enter Try.func43, Try.ntmps43
        go_wp2_with fail
        refine HO.out.mono ?_
        rintro e w1 ⟨rfl, hb⟩
        have HB := Lib.hid hb
        obtain ⟨vv, tv, Z, hd⟩ := HH.out.keep hb
        have HD := Lib.hid hd
        obtain ⟨z, hz, hzx⟩ := hd.zat HX.out
        have HZ := Lib.hid hz
        have HZX := Lib.hid hzx
        obtain ⟨g, cap, cur, rfl, hk, hg, hf, hF, c0, c1, c2, c3, c4, c5, c6, c7⟩ := hd.tx hz
        have y2 : w1.cell? ⟨r, 2, none⟩ = some (.slice (some ⟨g, 0, none⟩) E.T.length cap) := hd.bk.cell 2 _ rfl
        rw [H8.out] at y2
        rw [hzx, hpt.out] at c4
        clear hd hz hzx hk hf hF c0 c1 c2 c3 c5 c6 c7 hb q1
        go_wp2_with fail
        go_loopg [9, 10, 11, 12] np (fun gg rv ov iv pv wr => ∃ j : Nat, j + gg = np ∧ iv = .int .i64 (j : Int) ∧ Hid (OwnR TPt wr w1.heap.size Nobody ov (ownP pt (x.puts.take j))) ∧ Hid (OwnR TPt wr w1.heap.size Nobody rv (rstP pt (x.puts.take j))) ∧ Hid (∀ b, ov.ownBlock = some b → rv.ownBlock ≠ some b) ∧ Hid (Below w1.heap.size w1 wr))
        case atStart => exact ⟨0, Nat.zero_add _, rfl, Lib.hid (OwnR.nil _ _ _), Lib.hid (OwnR.nil _ _ _), Lib.hid (fun b e => by cases e), Lib.hid (Below.refl _ _)⟩
        case round =>
          obtain ⟨j, hj, rfl, HOW, HRS, HAP, HB3⟩ := hrel
          have HJ := Lib.hid hj
          have hd := HD.out.keep HB3.out
          obtain ⟨g2, cap2, cur2, htv, hk, hg, hf, hF, c0, c1, c2, c3, c4, c5, c6, c7⟩ := hd.tx HZ.out
          injection htv with e1 e2 e3
          injection e1 with e1
          injection e1 with e1
          subst e1
          subst e3
          clear e2
          have y2 : wr.cell? ⟨r, 2, none⟩ = some (.slice (some ⟨g, 0, none⟩) E.T.length cap) := hd.bk.cell 2 _ rfl
          rw [H8.out] at y2
          have hpp := (hd.rows i z HZ.out).2
          rw [HZX.out] at hpp
          obtain ⟨oa, oc, hov, _⟩ := HOW.out.val
          obtain ⟨ra, rc, hrv, _⟩ := HRS.out.val
          obtain ⟨OW, hOW⟩ : ∃ l, Hid (ownP pt (x.puts.take j) = l) := ⟨_, Lib.hid rfl⟩
          obtain ⟨RS, hRS⟩ : ∃ l, Hid (rstP pt (x.puts.take j) = l) := ⟨_, Lib.hid rfl⟩
          rw [hOW.out] at HOW hov
          rw [hRS.out] at HRS hrv
          obtain ⟨no, hno⟩ : ∃ l, Hid (OW.length = l) := ⟨_, Lib.hid rfl⟩
          obtain ⟨ns, hns⟩ : ∃ l, Hid (RS.length = l) := ⟨_, Lib.hid rfl⟩
          rw [hno.out] at hov
          rw [hns.out] at hrv
          subst hov hrv
          have HSUM := Lib.hid (show no + ns ≤ np from by
            have := ownP_len pt (x.puts.take j)
            rw [hOW.out, hRS.out, hno.out, hns.out, List.length_take] at this
            rw [← hnp.out]
            omega)
          by_cases hlt : j < np
          · obtain ⟨g', rfl⟩ : ∃ g, gk = g + 1 := ⟨gk - 1, by omega⟩
            obtain ⟨p, hp⟩ := getElem?_of_lt (l := x.puts) (k := j) (by rw [hnp.out]; exact hlt)
            obtain ⟨gp, cp, cu, hpv, hkp, hgp, hfp, x0, x1, x2⟩ := own_pt hpp hp
            rw [hpv, hnp.out] at c3
            have j0 : (0 : Int) ≤ (j : Int) := by omega
            have j1 : (j : Int) < (np : Int) := by omega
            have HTO := Lib.hid (ownP_take (k := pt) hp)
            have HTR := Lib.hid (rstP_take (k := pt) hp)
            rw [hOW.out] at HTO
            rw [hRS.out] at HTR
            obtain ⟨pn, pv2, pp⟩ := p
            simp only at x0 x1 x2 HTO HTR
            have HBA := Lib.hid (bnext (balloc wr (.cells #[.int .i64 pn, .int .i64 pv2, .int .i64 pp] 53)) (balloc (wr.alloc (.cells #[.int .i64 pn, .int .i64 pv2, .int .i64 pp] 53)) (.cells #[.int .i64 pn, .int .i64 pv2, .int .i64 pp] 53)))
            clear hd hk hf hF c0 c1 c2 c4 c5 c6 c7 hpp hkp hfp hp hpv
            have HOA := Lib.hid (HOW.out.keep HBA.out)
            have HRA := Lib.hid (HRS.out.keep HBA.out)
            have HBS := Lib.hid (Nat.le_trans HB3.out.size HBA.out.size)
            have HRN := Lib.hid (fun S => show RowR TPt ((wr.alloc (.cells #[.int .i64 pn, .int .i64 pv2, .int .i64 pp] 53)).alloc (.cells #[.int .i64 pn, .int .i64 pv2, .int .i64 pp] 53)) S (.slice (some ⟨wr.heap.size + 1, 0, none⟩) 1 1) [⟨pn, pv2, pp⟩] from by
              have h := rowR_new (w := wr.alloc (.cells #[.int .i64 pn, .int .i64 pv2, .int .i64 pp] 53)) (R := TPt) (S := S) (p := ⟨pn, pv2, pp⟩) (q := []) #[.int .i64 pn, .int .i64 pv2, .int .i64 pp] 53 rfl rfl
              rw [World.size_alloc] at h
              exact h)
            by_cases q1 : pp = pt
            · subst q1
              rw [if_pos rfl] at HTO HTR
              rw [List.append_nil] at HTR
              have HRR := Lib.hid (HRN.out (fun b => Nobody b ∧ (Value.slice oa no oc).ownBlock ≠ some b))
              have HLN := Lib.hid (show OW.length + [(⟨pn, pv2, pp⟩ : Pt)].length ≤ 100000000000 from by rw [hno.out]; have := HSUM.out; simp; omega)
              clear HRN
              go_wp2_with (at_builtin; go_loud (refine wpList_row TPt ((wr.alloc (.cells #[.int .i64 pn, .int .i64 pv2, .int .i64 pp] 53)).alloc (.cells #[.int .i64 pn, .int .i64 pv2, .int .i64 pp] 53)) rfl (.tmp 66) (.tmp 68) rfl w1.heap.size Nobody (.slice oa no oc) (.slice (some ⟨wr.heap.size + 1, 0, none⟩) 1 1) OW [⟨pn, pv2, pp⟩] rfl rfl HOA.out HRR.out HLN.out HBS.out ?_); intro ao6 n6 cap6 w6 hO6 hn6 hg6 ha6; clear hn6; have HO6 := Lib.hid hO6; have HG6 := Lib.hid hg6; have HA6 := Lib.hid ha6; clear hO6 hg6 ha6)
              have hb6 := (HB3.out.trans (HBA.out.mono HB3.out.size)).trans (bgrown HG6.out (fun b hb => (HOA.out.own hb).1) HBS.out)
              have hr6 : OwnR TPt w6 w1.heap.size Nobody (.slice ra ns rc) RS := ownF_on HRA.out (ons_grown HG6.out) (fun b e e2 => HAP.out b e2 e)
              have ha6 : ∀ b, (Value.slice ao6 n6 cap6).ownBlock = some b → (Value.slice ra ns rc).ownBlock ≠ some b := fun b e e2 => by
                rcases HA6.out with h | h
                · exact HAP.out b (h ▸ e) e2
                · rw [h] at e
                  have := Option.some.inj e
                  have h2 := (HRA.out.own e2).2
                  omega
              have HB6 := Lib.hid hb6
              have HR6 := Lib.hid hr6
              have HP6 := Lib.hid ha6
              clear hb6 hr6 ha6
              go_roundg g'
              case rel => exact ⟨j + 1, by have := HJ.out; omega, by go_num, by rw [HTO.out]; exact HO6, by rw [HTR.out]; exact HR6, HP6, HB6⟩
              case measure => omega
            · rw [if_neg q1] at HTO HTR
              rw [List.append_nil] at HTO
              have e1 : (pp == pt) = false := by rw [beq_eq_false_iff_ne]; exact q1
              have HRR := Lib.hid (HRN.out (fun b => Nobody b ∧ (Value.slice ra ns rc).ownBlock ≠ some b))
              have HLN := Lib.hid (show RS.length + [(⟨pn, pv2, pp⟩ : Pt)].length ≤ 100000000000 from by rw [hns.out]; have := HSUM.out; simp; omega)
              clear HRN
              go_wp2_with (at_builtin; go_loud (refine wpList_row TPt ((wr.alloc (.cells #[.int .i64 pn, .int .i64 pv2, .int .i64 pp] 53)).alloc (.cells #[.int .i64 pn, .int .i64 pv2, .int .i64 pp] 53)) rfl (.tmp 70) (.tmp 72) rfl w1.heap.size Nobody (.slice ra ns rc) (.slice (some ⟨wr.heap.size + 1, 0, none⟩) 1 1) RS [⟨pn, pv2, pp⟩] rfl rfl HRA.out HRR.out HLN.out HBS.out ?_); intro ao6 n6 cap6 w6 hO6 hn6 hg6 ha6; clear hn6; have HO6 := Lib.hid hO6; have HG6 := Lib.hid hg6; have HA6 := Lib.hid ha6; clear hO6 hg6 ha6)
              have hb6 := (HB3.out.trans (HBA.out.mono HB3.out.size)).trans (bgrown HG6.out (fun b hb => (HRA.out.own hb).1) HBS.out)
              have hr6 : OwnR TPt w6 w1.heap.size Nobody (.slice oa no oc) OW := ownF_on HOA.out (ons_grown HG6.out) (fun b e e2 => HAP.out b e e2)
              have ha6 : ∀ b, (Value.slice oa no oc).ownBlock = some b → (Value.slice ao6 n6 cap6).ownBlock ≠ some b := fun b e e2 => by
                rcases HA6.out with h | h
                · exact HAP.out b e (h ▸ e2)
                · rw [h] at e2
                  have := Option.some.inj e2
                  have h2 := (HOA.out.own e).2
                  omega
              have HB6 := Lib.hid hb6
              have HR6 := Lib.hid hr6
              have HP6 := Lib.hid ha6
              clear hb6 hr6 ha6
              go_roundg g'
              case rel => exact ⟨j + 1, by have := HJ.out; omega, by go_num, by rw [HTO.out]; exact HR6, by rw [HTR.out]; exact HO6, HP6, HB6⟩
              case measure => omega
          · have hjn : j = np := by omega
            subst hjn
            have htk : x.puts.take j = x.puts := List.take_of_length_le (by rw [hnp.out]; exact Nat.le_refl _)
            rw [htk] at hOW hRS
            obtain ⟨pa, pc, hpv, _⟩ := hpp.val
            rw [hpv, hnp.out] at c3
            have HDR := Lib.hid hd
            have hnob : no ≤ 1000000 := by have := HSUM.out; omega
            clear hd hk hf hF c0 c1 c2 c4 c5 c6 c7 hpp hpv htk
            go_wp2_with fail
            rename World => w3
            go_loopg [9, 13] no (fun gg rv iv w4 => ∃ q : Nat, q + gg = no ∧ iv = .int .i64 (q : Int) ∧ Hid (keep = false → q = 0) ∧ Hid (OwnR TPt w4 w1.heap.size Nobody rv ((OW.take q).foldl (joinS pt) RS)) ∧ Hid (∀ b, rv.ownBlock = some b → (Value.slice oa no oc).ownBlock ≠ some b) ∧ Hid (OwnR TPt w4 w1.heap.size Nobody (.slice oa no oc) OW) ∧ Hid (Below w1.heap.size w1 w4) ∧ Hid (((OW.take q).foldl (joinS pt) RS).length ≤ ns + q))
            case atStart => exact ⟨0, Nat.zero_add _, rfl, Lib.hid (fun _ => rfl), HRS, Lib.hid (fun b e e2 => HAP.out b e2 e), HOW, HB3, Lib.hid (by show RS.length ≤ ns + 0; rw [hns.out]; exact Nat.le_refl _)⟩
            case round =>
              obtain ⟨q, hq, rfl, HK0, HRV, HAP2, HOW2, HB5, HLL⟩ := hrel
              have HQ := Lib.hid hq
              by_cases hlt2 : q < no
              · cases keep
                · have hq0 : q = 0 := HK0.out rfl
                  have hsx : (OW.take q).foldl (joinS pt) RS = SX := by rw [hq0, List.take_zero, ← hSX.out, shutX_drop, hpt.out, ← hRS.out]; rfl
                  rw [hsx] at HRV
                  obtain ⟨nx, hnx⟩ : ∃ l, Hid (SX.length = l) := ⟨_, Lib.hid rfl⟩
                  obtain ⟨xa, xc, hxv, _⟩ := HRV.out.val
                  rw [hnx.out] at hxv
                  subst hxv
                  have hd := HD.out.keep HB5.out
                  obtain ⟨g2, cap2, cur2, htv, hk, hg, hf, hF, c0, c1, c2, c3, c4, c5, c6, c7⟩ := hd.tx HZ.out
                  injection htv with e1 e2 e3
                  injection e1 with e1
                  injection e1 with e1
                  subst e1
                  subst e3
                  clear e2
                  have y2 : wr.cell? ⟨r, 2, none⟩ = some (.slice (some ⟨g, 0, none⟩) E.T.length cap) := hd.bk.cell 2 _ rfl
                  rw [H8.out] at y2
                  have f3 := hf (i * 8 + 3)
                  have hda := di_row HD.out HZ.out (z' := ⟨{ z.x with puts := SX }, z.rv, .slice xa nx xc⟩) (below_onS HB5.out) (fun b hb => .inr (.inr hb)) ((HD.out.rows i z HZ.out).1.keep HB5.out) (own_low HRV.out) (fun b e => .inl e) (fun b e => .inr (HRV.out.own e).1) (j := 3) (u := .slice xa nx xc) (by decide) rfl
                  have hza := set_some (b := (⟨{ z.x with puts := SX }, z.rv, .slice xa nx xc⟩ : Tz)) HZ.out
                  obtain ⟨g3, cap3, cur3, htv3, hk3, hg3, hf3, hF3, d0, d1, d2, d3, d4, d5, d6, d7⟩ := hda.tx hza
                  injection htv3 with e1 e2 e3
                  injection e1 with e1
                  injection e1 with e1
                  subst e1
                  clear e2 e3
                  have y2a : (wr.setCell ⟨g, i * 8 + 3, none⟩ (.slice xa nx xc)).cell? ⟨r, 2, none⟩ = some (.slice (some ⟨g, 0, none⟩) E.T.length cap) := hda.bk.cell 2 _ rfl
                  rw [H8.out] at y2a
                  have f4a := hf3 (i * 8 + 4)
                  simp only at d4
                  rw [HZX.out, hpt.out] at d4
                  have hdb := di_cell0 hda { z.x with puts := SX, parts := pt - 1 } (j := 4) (u := .int .i64 (pt - 1)) hza (by decide) rfl rfl rfl
                  simp only [HZX.out, List.set_set] at hdb
                  have HDB := Lib.hid hdb
                  have HFg := Lib.hid hF
                  clear hd hk hf hF c0 c1 c2 c4 c5 c6 c7 hda hza hk3 hf3 hF3 d0 d1 d2 d3 d5 d6 d7 hdb hsx
                  go_wp2_with fail
                  go_ret
                  refine ⟨rfl, ?_, _, ⟨vv, _, _, HDB.out⟩, ?_⟩
                  · exact (((OnS.of HB.out).trans (OnS.of HB5.out)).trans ((OnS.cell g _ _).weak fun b _ hb => by rw [hb]; exact HFg.out)).trans ((OnS.cell g _ _).weak fun b _ hb => by rw [hb]; exact HFg.out)
                  · intro b hb
                    rcases hb with hb | hb
                    · exact .inl hb
                    · exact .inr (Nat.le_trans HB.out.size hb.1)
                · obtain ⟨g', rfl⟩ : ∃ g, gk = g + 1 := ⟨gk - 1, by omega⟩
                  obtain ⟨p, hp⟩ := getElem?_of_lt (l := OW) (k := q) (by rw [hno.out]; exact hlt2)
                  obtain ⟨gp, cp, cu, hpv, hkp, hgp, hfp, x0, x1, x2⟩ := own_pt (own_low HOW2.out) hp
                  rw [hno.out] at hpv
                  injection hpv with e1 e2 e3
                  subst e1
                  subst e3
                  clear e2
                  obtain ⟨nx, hnx⟩ : ∃ l, Hid (((OW.take q).foldl (joinS pt) RS).length = l) := ⟨_, Lib.hid rfl⟩
                  obtain ⟨xa, xc, hxv, _⟩ := HRV.out.val
                  rw [hnx.out] at hxv
                  subst hxv
                  have q0 : (0 : Int) ≤ (q : Int) := by omega
                  have q1 : (q : Int) < (no : Int) := by omega
                  have wk : IntKind.i64.wrap (pt - 1) = pt - 1 := by rw [IntKind.wrap_i64]; omega
                  have hfo : (OW.take (q + 1)).foldl (joinS pt) RS = putR p.n p.v (pt - 1) ((OW.take q).foldl (joinS pt) RS) := by
                    rw [List.take_add_one, hp, List.foldl_append]
                    rfl
                  have HFO := Lib.hid hfo
                  have HPT := Lib.hid (rput_c wr.drew (.slice xa nx xc) ((OW.take q).foldl (joinS pt) RS) ((own_low HRV.out).keep (bdr wr)) (by have := HLL.out; have := HSUM.out; omega) p.n p.v (pt - 1))
                  obtain ⟨pn, pv2, pp⟩ := p
                  simp only at x0 x1 x2 HPT HFO
                  clear hkp hfp hp hfo x2
                  go_wp2_with fail
                  go_region_with (first | (go_at_call 71; refine HPT.out.mono ?_; rintro e w5 ⟨v5, rfl, hO5, hS5, hB5⟩; have HO5 := Lib.hid hO5; have HS5 := Lib.hid hS5; have HB5' := Lib.hid hB5; clear hO5 hS5 hB5))
                  all_goals
                    have hsub : ∀ b, (Value.slice xa nx xc).ownBlock = some b → w1.heap.size ≤ b := fun b e => (HRV.out.own e).1
                    have hbel : Below w1.heap.size wr w5 := (OnS.of (bdr wr)).trans HS5.out |>.below HB5.out.size (fun b hb => hsub b hb)
                    have HB6 := Lib.hid (HB5.out.trans hbel)
                    have hge : ∀ b, v5.ownBlock = some b → w1.heap.size ≤ b := fun b e => by
                      rcases HB5'.out b e with h | h
                      · exact hsub b h
                      · exact Nat.le_trans HB5.out.size h
                    have HR6 := Lib.hid (own_up HO5.out hge)
                    have HO6 := Lib.hid (show OwnR TPt w5 w1.heap.size Nobody (.slice (some ⟨gp, 0, none⟩) no oc) OW from ownF_on (HOW2.out.keep (bdr wr)) HS5.out (fun b e e2 => HAP2.out b e2 e))
                    have HP6 := Lib.hid (show ∀ b, v5.ownBlock = some b → (Value.slice (some ⟨gp, 0, none⟩) no oc).ownBlock ≠ some b from fun b e e2 => by
                      rcases HB5'.out b e with h | h
                      · exact HAP2.out b h e2
                      · have := (HOW2.out.own e2).2
                        have h2 : wr.heap.size ≤ b := h
                        omega)
                    have HL6 := Lib.hid (show (putR pn pv2 (pt - 1) ((OW.take q).foldl (joinS pt) RS)).length ≤ ns + (q + 1) from by
                      have := putR_len pn pv2 (pt - 1) ((OW.take q).foldl (joinS pt) RS)
                      have := HLL.out
                      omega)
                    clear hsub hbel hge
                    go_wp2_with fail
                    go_roundg g'
                    case rel => exact ⟨q + 1, by have := HQ.out; omega, by go_num, Lib.hid (fun e => by cases e), by rw [HFO.out]; exact HR6, HP6, HO6, HB6, by rw [HFO.out]; exact HL6⟩
                    case measure => omega
              · have hqn : q = no := by omega
                subst hqn
                cases keep
                · have hq0 : q = 0 := HK0.out rfl
                  have hsx : (OW.take q).foldl (joinS pt) RS = SX := by rw [hq0, List.take_zero, ← hSX.out, shutX_drop, hpt.out, ← hRS.out]; rfl
                  rw [hsx] at HRV
                  obtain ⟨nx, hnx⟩ : ∃ l, Hid (SX.length = l) := ⟨_, Lib.hid rfl⟩
                  obtain ⟨xa, xc, hxv, _⟩ := HRV.out.val
                  rw [hnx.out] at hxv
                  subst hxv
                  have hd := HD.out.keep HB5.out
                  obtain ⟨g2, cap2, cur2, htv, hk, hg, hf, hF, c0, c1, c2, c3, c4, c5, c6, c7⟩ := hd.tx HZ.out
                  injection htv with e1 e2 e3
                  injection e1 with e1
                  injection e1 with e1
                  subst e1
                  subst e3
                  clear e2
                  have y2 : wr.cell? ⟨r, 2, none⟩ = some (.slice (some ⟨g, 0, none⟩) E.T.length cap) := hd.bk.cell 2 _ rfl
                  rw [H8.out] at y2
                  have f3 := hf (i * 8 + 3)
                  have hda := di_row HD.out HZ.out (z' := ⟨{ z.x with puts := SX }, z.rv, .slice xa nx xc⟩) (below_onS HB5.out) (fun b hb => .inr (.inr hb)) ((HD.out.rows i z HZ.out).1.keep HB5.out) (own_low HRV.out) (fun b e => .inl e) (fun b e => .inr (HRV.out.own e).1) (j := 3) (u := .slice xa nx xc) (by decide) rfl
                  have hza := set_some (b := (⟨{ z.x with puts := SX }, z.rv, .slice xa nx xc⟩ : Tz)) HZ.out
                  obtain ⟨g3, cap3, cur3, htv3, hk3, hg3, hf3, hF3, d0, d1, d2, d3, d4, d5, d6, d7⟩ := hda.tx hza
                  injection htv3 with e1 e2 e3
                  injection e1 with e1
                  injection e1 with e1
                  subst e1
                  clear e2 e3
                  have y2a : (wr.setCell ⟨g, i * 8 + 3, none⟩ (.slice xa nx xc)).cell? ⟨r, 2, none⟩ = some (.slice (some ⟨g, 0, none⟩) E.T.length cap) := hda.bk.cell 2 _ rfl
                  rw [H8.out] at y2a
                  have f4a := hf3 (i * 8 + 4)
                  simp only at d4
                  rw [HZX.out, hpt.out] at d4
                  have hdb := di_cell0 hda { z.x with puts := SX, parts := pt - 1 } (j := 4) (u := .int .i64 (pt - 1)) hza (by decide) rfl rfl rfl
                  simp only [HZX.out, List.set_set] at hdb
                  have HDB := Lib.hid hdb
                  have HFg := Lib.hid hF
                  clear hd hk hf hF c0 c1 c2 c4 c5 c6 c7 hda hza hk3 hf3 hF3 d0 d1 d2 d3 d5 d6 d7 hdb hsx
                  go_wp2_with fail
                  go_ret
                  refine ⟨rfl, ?_, _, ⟨vv, _, _, HDB.out⟩, ?_⟩
                  · exact (((OnS.of HB.out).trans (OnS.of HB5.out)).trans ((OnS.cell g _ _).weak fun b _ hb => by rw [hb]; exact HFg.out)).trans ((OnS.cell g _ _).weak fun b _ hb => by rw [hb]; exact HFg.out)
                  · intro b hb
                    rcases hb with hb | hb
                    · exact .inl hb
                    · exact .inr (Nat.le_trans HB.out.size hb.1)
                · skip
                  have hsx : (OW.take q).foldl (joinS pt) RS = SX := by rw [List.take_of_length_le (by rw [hno.out]; exact Nat.le_refl _), ← hSX.out, shutX_keep, hpt.out, ← hRS.out, ← hOW.out]
                  rw [hsx] at HRV
                  obtain ⟨nx, hnx⟩ : ∃ l, Hid (SX.length = l) := ⟨_, Lib.hid rfl⟩
                  obtain ⟨xa, xc, hxv, _⟩ := HRV.out.val
                  rw [hnx.out] at hxv
                  subst hxv
                  have hd := HD.out.keep HB5.out
                  obtain ⟨g2, cap2, cur2, htv, hk, hg, hf, hF, c0, c1, c2, c3, c4, c5, c6, c7⟩ := hd.tx HZ.out
                  injection htv with e1 e2 e3
                  injection e1 with e1
                  injection e1 with e1
                  subst e1
                  subst e3
                  clear e2
                  have y2 : wr.cell? ⟨r, 2, none⟩ = some (.slice (some ⟨g, 0, none⟩) E.T.length cap) := hd.bk.cell 2 _ rfl
                  rw [H8.out] at y2
                  have f3 := hf (i * 8 + 3)
                  have hda := di_row HD.out HZ.out (z' := ⟨{ z.x with puts := SX }, z.rv, .slice xa nx xc⟩) (below_onS HB5.out) (fun b hb => .inr (.inr hb)) ((HD.out.rows i z HZ.out).1.keep HB5.out) (own_low HRV.out) (fun b e => .inl e) (fun b e => .inr (HRV.out.own e).1) (j := 3) (u := .slice xa nx xc) (by decide) rfl
                  have hza := set_some (b := (⟨{ z.x with puts := SX }, z.rv, .slice xa nx xc⟩ : Tz)) HZ.out
                  obtain ⟨g3, cap3, cur3, htv3, hk3, hg3, hf3, hF3, d0, d1, d2, d3, d4, d5, d6, d7⟩ := hda.tx hza
                  injection htv3 with e1 e2 e3
                  injection e1 with e1
                  injection e1 with e1
                  subst e1
                  clear e2 e3
                  have y2a : (wr.setCell ⟨g, i * 8 + 3, none⟩ (.slice xa nx xc)).cell? ⟨r, 2, none⟩ = some (.slice (some ⟨g, 0, none⟩) E.T.length cap) := hda.bk.cell 2 _ rfl
                  rw [H8.out] at y2a
                  have f4a := hf3 (i * 8 + 4)
                  simp only at d4
                  rw [HZX.out, hpt.out] at d4
                  have hdb := di_cell0 hda { z.x with puts := SX, parts := pt - 1 } (j := 4) (u := .int .i64 (pt - 1)) hza (by decide) rfl rfl rfl
                  simp only [HZX.out, List.set_set] at hdb
                  have HDB := Lib.hid hdb
                  have HFg := Lib.hid hF
                  clear hd hk hf hF c0 c1 c2 c4 c5 c6 c7 hda hza hk3 hf3 hF3 d0 d1 d2 d3 d5 d6 d7 hdb hsx
                  go_wp2_with fail
                  go_ret
                  refine ⟨rfl, ?_, _, ⟨vv, _, _, HDB.out⟩, ?_⟩
                  · exact (((OnS.of HB.out).trans (OnS.of HB5.out)).trans ((OnS.cell g _ _).weak fun b _ hb => by rw [hb]; exact HFg.out)).trans ((OnS.cell g _ _).weak fun b _ hb => by rw [hb]; exact HFg.out)
                  · intro b hb
                    rcases hb with hb | hb
                    · exact .inl hb
                    · exact .inr (Nat.le_trans HB.out.size hb.1)
end Go.Proofs.Ytjoifodjbdbicaa.UL

/- The document's engine: a step of a commit. -/
namespace Go.Proofs.Ytjoifodjbdbicaa.UM
open Go.RowKit Go.Proofs.Ytjoifodjbdbicaa.RG Go.Proofs.Ytjoifodjbdbicaa.RB Go.Proofs.Ytjoifodjbdbicaa.RI Go.Proofs.Ytjoifodjbdbicaa.UA Go.Proofs.Ytjoifodjbdbicaa.UB Go.Proofs.Ytjoifodjbdbicaa.UC Go.Proofs.Ytjoifodjbdbicaa.UD Go.Proofs.Ytjoifodjbdbicaa.UE Go.Proofs.Ytjoifodjbdbicaa.UF Go.Proofs.Ytjoifodjbdbicaa.UG Go.Proofs.Ytjoifodjbdbicaa.UH Go.Proofs.Ytjoifodjbdbicaa.UI Go.Proofs.Ytjoifodjbdbicaa.UJ Go.Proofs.Ytjoifodjbdbicaa.UK Go.Proofs.Ytjoifodjbdbicaa.UL
set_option linter.unusedVariables false
set_option maxRecDepth 100000
set_option maxRecDepth 100000

theorem wf_setT {m : Nat} {E : Eg} (h : Wf m E) (i : Nat) {x : Tx} (hx : WfT m E.V.length x) : Wf m (setT E (i : Int) x) :=
  ⟨by show (E.T.set _ _).length = 8; rw [List.length_set]; exact h.th, h.vs, h.ck, fun y hy => by
    rcases List.mem_or_eq_of_mem_set (show y ∈ E.T.set _ _ from hy) with h1 | rfl
    · exact h.tx y h1
    · exact hx⟩
theorem setT_at {E : Eg} {i : Nat} {x y : Tx} (h : E.T[i]? = some x) : (setT E (i : Int) y).T[i]? = some y := by
  show (E.T.set (i : Int).toNat y)[i]? = some y
  rw [Int.toNat_natCast]
  exact set_some h
theorem firstR_drop {V : List Vr} {t : Int} {l : List Pt} {j : Nat} {p : Pt} {v : Vr} (h : l[j]? = some p) (hv : V[p.n.toNat]? = some v) : firstR V t (l.drop j) = if v.lock = t then firstR V t (l.drop (j + 1)) else some (p.n, v) := by
  have hj := (List.getElem?_eq_some_iff.1 h)
  rw [List.drop_eq_getElem_cons hj.1, hj.2]
  show (match V[p.n.toNat]? with | some v => if v.lock = t then firstR V t (l.drop (j + 1)) else some (p.n, v) | none => firstR V t (l.drop (j + 1))) = _
  rw [hv]
def x1 (x : Tx) : Tx := { x with commits := true }
set_option maxHeartbeats 3200000 in
/-- No step: there is no transaction, or it has parts. -/
theorem rstep_bad (w : World) (F : Nat → Prop) (r : Nat) (E : Eg) (H : DE w F r E) (h8 : E.T.length = 8) (t : Int) (hb : hasR E t = false ∨ ∃ x, thR E t = some x ∧ 1 < x.parts) :
    Calls Try.prog 34 #[.pointer (some ⟨r, 0, none⟩), .int .i64 t] w fun e w' => e = .returned (.tuple #[.int .i64 0, .int .i64 1]) ∧ Below w.heap.size w w' := by
  have HH := Lib.hid H
  have HO := Lib.hid (rhas_c w F r E H h8 t)
  obtain ⟨a, ha⟩ : ∃ a, hasR E t = a := ⟨_, rfl⟩
  rw [ha] at HO hb
  cases a
  · clear H hb ha h8
    go_enter Try.func34, Try.ntmps34
    go_wp2_with fail
    refine HO.out.mono ?_
    rintro e w1 ⟨rfl, hb⟩
    have HB := Lib.hid hb
    clear hb
    go_wp2_with fail
    go_ret2
    exact ⟨rfl, HB.out⟩
  · rcases hb with hb | ⟨x, hx, hp⟩
    · cases hb
    rcases thR_cases E h8 t with ⟨hn, h1⟩ | ⟨i, x', rfl, hi, hx', hth⟩
    · rw [hn] at hx; cases hx
    rw [hth] at hx
    injection hx with hx
    subst hx
    have HX := Lib.hid hx'
    have H8 := Lib.hid h8
    have i0 : (0 : Int) ≤ (i : Int) := by omega
    have i1 : (i : Int) < 8 := by omega
    clear H ha h8 hth hx'
    go_enter Try.func34, Try.ntmps34
    go_wp2_with fail
    refine HO.out.mono ?_
    rintro e w1 ⟨rfl, hb⟩
    have HB := Lib.hid hb
    obtain ⟨vv, tv, Z, hd⟩ := HH.out.keep hb
    obtain ⟨z, hz, hzx⟩ := hd.zat HX.out
    obtain ⟨g, cap, cur, rfl, hk, hg, hf, hF, c0, c1, c2, c3, c4, c5, c6, c7⟩ := hd.tx hz
    have y2 : w1.cell? ⟨r, 2, none⟩ = some (.slice (some ⟨g, 0, none⟩) E.T.length cap) := hd.bk.cell 2 _ rfl
    rw [H8.out] at y2
    rw [hzx] at c4
    clear hd hz hzx hk hf hF c0 c1 c2 c3 c5 c6 c7 hb
    go_wp2_with fail
    go_ret2
    exact ⟨rfl, HB.out⟩
/-- What a thread's cells say. -/
theorem DI.slot {w : World} {F : Nat → Prop} {r : Nat} {E : Eg} {vv : Value} {g n cap : Nat} {Z : List Tz} (H : DI w F r E vv (.slice (some ⟨g, 0, none⟩) n cap) Z) (h8 : E.T.length = 8) {i : Nat} {z : Tz} (hz : Z[i]? = some z) : n = 8 ∧ w.cell? ⟨r, 2, none⟩ = some (.slice (some ⟨g, 0, none⟩) 8 cap) ∧ g < w.heap.size ∧ (∀ i, w.frozen? ⟨g, i, none⟩ = false) ∧ F g ∧
    w.cell? ⟨g, i * 8, none⟩ = some (.bool z.x.is) ∧ w.cell? ⟨g, i * 8 + 1, none⟩ = some (.int .i64 z.x.start) ∧ w.cell? ⟨g, i * 8 + 2, none⟩ = some z.rv ∧ w.cell? ⟨g, i * 8 + 3, none⟩ = some z.pv ∧ w.cell? ⟨g, i * 8 + 4, none⟩ = some (.int .i64 z.x.parts) ∧ w.cell? ⟨g, i * 8 + 5, none⟩ = some (.bool z.x.commits) ∧ w.cell? ⟨g, i * 8 + 6, none⟩ = some (.int .i64 z.x.stamp) ∧ w.cell? ⟨g, i * 8 + 7, none⟩ = some (.int .i64 z.x.done) := by
  obtain ⟨g2, cap2, cur2, htv, hk, hg2, hf, hF, c0, c1, c2, c3, c4, c5, c6, c7⟩ := H.tx hz
  injection htv with e1 e2 e3
  injection e1 with e1
  injection e1 with e1
  subst e1
  subst e3
  have y2 : w.cell? ⟨r, 2, none⟩ = some (.slice (some ⟨g, 0, none⟩) n cap) := H.bk.cell 2 _ rfl
  rw [e2, h8] at y2
  exact ⟨by omega, y2, hg2, hf, hF, c0, c1, c2, c3, c4, c5, c6, c7⟩
/-- The beginning of a step: what was done up to the sorted writes. -/
structure Begun (w : World) (F : Nat → Prop) (r : Nat) (E : Eg) (i : Nat) (x : Tx) (w' : World) (lv : Value) : Prop where
  on : OnS F w w'
  de : DE w' F r (setT E (i : Int) (x1 x))
  row : OwnR TPt w' w.heap.size Nobody lv (sortR x.puts 1)
  gt : ∀ b, lv.ownBlock = some b → ¬ F b
end Go.Proofs.Ytjoifodjbdbicaa.UM
