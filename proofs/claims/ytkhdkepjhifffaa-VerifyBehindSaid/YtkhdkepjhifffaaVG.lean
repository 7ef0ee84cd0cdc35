/- The document's states: marks in memory of their own, whether states are the same, how one is handed on. -/
import Derived.Test.YtkhdkepjhifffaaVE
import Derived.BigQuiet
import Derived.Deep.RegionHeld3
namespace Go.Proofs.Ytkhdkepjhifffaa.VG
open Go.RowKit Go.Proofs.Ytkhdkepjhifffaa.RG Go.Proofs.Ytkhdkepjhifffaa.RB Go.Proofs.Ytkhdkepjhifffaa.KA Go.Proofs.Ytkhdkepjhifffaa.KB Go.Proofs.Ytkhdkepjhifffaa.KH Go.Proofs.Ytkhdkepjhifffaa.VA Go.Proofs.Ytkhdkepjhifffaa.VB Go.Proofs.Ytkhdkepjhifffaa.VC Go.Proofs.Ytkhdkepjhifffaa.VE
set_option linter.unusedVariables false
set_option maxRecDepth 100000
set_option maxRecDepth 100000

theorem rowD_flat {w : World} {S S' : Nat → Prop} {v : Value} {ms : List Mk} (h : RowR TD w S v ms) : RowR TD w S' v ms := by
  obtain ⟨qs, h1, h2⟩ := h
  refine ⟨qs, h1, ?_⟩
  clear h1
  induction ms generalizing qs with
  | nil => cases qs with
    | nil => trivial
    | cons a b => exact h2.elim
  | cons m ms ih => cases qs with
    | nil => exact h2.elim
    | cons q qs => exact ⟨h2.1, ih qs h2.2⟩
def OwnRes (ms : List Mk) (w : World) (e : Ending) (w' : World) : Prop := ∃ ao n cap, e = .returned (.slice ao n cap) ∧ OwnR TD w' w.heap.size (fun _ => False) (.slice ao n cap) ms ∧ Below w.heap.size w w'
set_option maxHeartbeats 2000000 in
theorem own_c (v : Value) (ms : List Mk) (w : World) (S : Nat → Prop) (h : RowR TD w S v ms) (hl : ms.length ≤ 1000000) :
    Calls Try.prog 73 #[v] w (OwnRes ms w) := by
  have H2 := Lib.hid (rowD_flat (S' := fun b => False ∧ (Value.slice none 0 0).ownBlock ≠ some b) h)
  have HN : Hid (([] : List Mk).length + ms.length ≤ 100000000000) := Lib.hid (by simp; omega)
  have HO := Lib.hid (OwnR.nil (R := TD) w w.heap.size (fun _ => False))
  clear h
  go_enter Try.func73, Try.ntmps73
  go_wp2_with (refine wpList_row TD w rfl (.tmp 4) (.tmp 5) rfl w.heap.size (fun _ => False) (.slice none 0 0) v [] ms rfl rfl HO.out H2.out HN.out (Nat.le_refl _) ?_; intro ao9 n9 cap9 w9 hO9 hn9 hg9 ha9; clear hn9 ha9; have HO9 := Lib.hid hO9; have HG9 := Lib.hid hg9; clear hO9 hg9)
  go_ret
  exact ⟨_, _, _, rfl, HO9.out, bgrown HG9.out (fun b e => by cases e) (Nat.le_refl _)⟩
set_option maxHeartbeats 4000000 in
theorem same_c (x1 x2 : Bool) (s t : Sx) (v1 v2 : Value) (w : World) (S1 S2 : Nat → Prop) (h1 : RowM TD w S1 v1 s.ms) (h2 : RowM TD w S2 v2 t.ms) (hl : s.ms.length ≤ 1000000) :
    Calls Try.prog 81 #[.agg #[.bool x1, .int .i64 s.dep, v1], .agg #[.bool x2, .int .i64 t.dep, v2]] w fun e w' => e = .returned (.bool (decide (s = t))) ∧ Below w.heap.size w w' := by
  obtain ⟨R, HR⟩ : ∃ R, Hid (decide (s = t) = R) := ⟨_, Lib.hid rfl⟩
  rw [HR.out]
  obtain ⟨ds, l1⟩ := s
  obtain ⟨dt, l2⟩ := t
  have hd := HR.out
  rw [sx_dec] at hd
  simp only at hd h1 h2 hl ⊢
  clear HR
  have HR := Lib.hid hd
  obtain ⟨a1, c1, e1, _⟩ := h1.val
  obtain ⟨a2, c2, e2, _⟩ := h2.val
  have H1 := Lib.hid h1.row
  have H2 := Lib.hid h2.row
  obtain ⟨N, hN⟩ : ∃ N, Hid (l1.length = N) := ⟨_, Lib.hid rfl⟩
  obtain ⟨N2, hN2⟩ : ∃ N, Hid (l2.length = N) := ⟨_, Lib.hid rfl⟩
  rw [hN.out] at e1 hl
  rw [hN2.out] at e2
  subst e1 e2
  have HX := Lib.hid (bnext (balloc w (.cells #[.bool x1, .int .i64 ds, .slice a1 N c1] 75)) (balloc _ (.cells #[.bool x2, .int .i64 dt, .slice a2 N2 c2] 75)))
  have HB1 := Lib.hid ((Bk.new w #[.bool x1, .int .i64 ds, .slice a1 N c1] 75).alloc (.cells #[.bool x2, .int .i64 dt, .slice a2 N2 c2] 75))
  have HB2 := Lib.hid (Bk.new (w.alloc (.cells #[.bool x1, .int .i64 ds, .slice a1 N c1] 75)) #[.bool x2, .int .i64 dt, .slice a2 N2 c2] 75)
  rw [World.size_alloc] at HB2
  clear h1 h2 hd
  by_cases hdd : ds = dt
  · subst hdd
    have HR2 : Hid (decide (l1 = l2) = R) := Lib.hid (by have := HR.out; simpa using this)
    by_cases hne : N = N2
    · subst hne
      have t0 : ((N : Int) != (N : Int)) = false := by simp
      have t1 : (ds != ds) = false := by simp
      go_enter Try.func81, Try.ntmps81
      go_wp2_with fail
      obtain ⟨X, hX⟩ : ∃ X, Hid (w.heap.size = X) := ⟨_, Lib.hid rfl⟩
      rw [hX.out] at HB1 HB2 ⊢
      generalize World.alloc (World.alloc w _) _ = W at HX HB1 HB2 ⊢
      go_loopg [5] N (fun g jv wr => ∃ i : Nat, i + g = N ∧ jv = .int .i64 (i : Int) ∧ Hid (Below w.heap.size w wr) ∧ Hid (Bk wr X #[.bool x1, .int .i64 ds, .slice a1 N c1] 75) ∧ Hid (Bk wr (X + 1) #[.bool x2, .int .i64 ds, .slice a2 N c2] 75) ∧ Hid (∀ j, j < i → l1[j]? = l2[j]?))
      case atStart => exact ⟨0, Nat.zero_add _, rfl, HX, HB1, HB2, Lib.hid (fun j hj => by omega)⟩
      case round =>
        clear HX HB1 HB2
        obtain ⟨i, hi, rfl, HX, HB1, HB2, HE⟩ := hrel
        have k1 := HB1.out.cell 2 (.slice a1 N c1) rfl
        have k2 := HB2.out.cell 2 (.slice a2 N c2) rfl
        by_cases hlt : i < N
        · obtain ⟨g, rfl⟩ : ∃ g, gk = g + 1 := ⟨gk - 1, by omega⟩
          have hn1 : l1 ≠ [] := by intro e; have := hN.out; rw [e] at this; simp at this; omega
          have hn2 : l2 ≠ [] := by intro e; have := hN2.out; rw [e] at this; simp at this; omega
          obtain ⟨b, off, cap, hv, _, hb, hcell⟩ := H1.out.open_ hn1
          obtain ⟨b2, off2, cap2, hv2, _, hb2, hcell2⟩ := H2.out.open_ hn2
          rw [hN.out] at hv
          rw [hN2.out] at hv2
          cases hv
          cases hv2
          obtain ⟨m, hm⟩ := getElem?_of_lt (l := l1) (k := i) (by rw [hN.out]; exact hlt)
          obtain ⟨m2, hm2⟩ := getElem?_of_lt (l := l2) (k := i) (by rw [hN2.out]; exact hlt)
          obtain ⟨q, hL, _⟩ := hcell i m hm
          obtain ⟨q2, hL2, _⟩ := hcell2 i m2 hm2
          have hM := hL.keep HX.out hb
          have hM2 := hL2.keep HX.out hb2
          have HMM := Lib.hid (And.intro hm hm2)
          obtain ⟨k, d⟩ := m
          obtain ⟨k2', d2⟩ := m2
          have x0 : wr.cell? ⟨b, off + i * 2, none⟩ = some (.int .i64 k) := hM 0 _ rfl
          have x1 : wr.cell? ⟨b, off + i * 2 + 1, none⟩ = some (.int .i64 d) := hM 1 _ rfl
          have y0 : wr.cell? ⟨b2, off2 + i * 2, none⟩ = some (.int .i64 k2') := hM2 0 _ rfl
          have y1 : wr.cell? ⟨b2, off2 + i * 2 + 1, none⟩ = some (.int .i64 d2) := hM2 1 _ rfl
          have i0 : (0 : Int) ≤ (i : Int) := by omega
          have i1 : (i : Int) < (N : Int) := by omega
          clear hcell hcell2 hL hL2 hM hM2 hm hm2 hn1 hn2
          by_cases hk : k = k2'
          · subst hk
            have f0 : (k == k) = true := by simp
            by_cases hd : d = d2
            · subst hd
              have f1 : (d == d) = true := by simp
              go_wp2_with fail
              go_quiet (fail)
              go_wp2_with fail
              go_roundg g
              case rel =>
                refine ⟨i + 1, by omega, by go_num, Lib.hid (below_dN HX.out _), Lib.hid (HB1.out.dN _), Lib.hid (HB2.out.dN _), Lib.hid (fun j hj => ?_)⟩
                by_cases hji : j = i
                · subst hji; rw [HMM.out.1, HMM.out.2]
                · exact HE.out j (by omega)
              case measure => omega
            · have f1 : (d == d2) = false := by simpa using hd
              have HRR := Lib.hid (show false = R from by
                rw [← HR2.out, eq_comm, decide_eq_false_iff_not]
                intro e; have := HMM.out; rw [e, this.2] at this; simp at this; exact hd this.symm)
              clear hd
              go_wp2_with fail
              go_quiet (fail)
              go_wp2_with fail
              go_ret
              exact ⟨ret_bool HRR.out, below_dN HX.out _⟩
          · have f0 : (k == k2') = false := by simpa using hk
            have HRR := Lib.hid (show false = R from by
              rw [← HR2.out, eq_comm, decide_eq_false_iff_not]
              intro e; have := HMM.out; rw [e, this.2] at this; simp at this; exact hk this.1.symm)
            clear hk
            go_wp2_with fail
            go_quiet (fail)
            go_wp2_with fail
            go_ret
            exact ⟨ret_bool HRR.out, below_dN HX.out _⟩
        · have HRR := Lib.hid (show true = R from by
            rw [← HR2.out, eq_comm, decide_eq_true_iff]
            refine List.ext_getElem? fun j => ?_
            by_cases hj : j < i
            · exact HE.out j hj
            · rw [List.getElem?_eq_none (by have := hN.out; omega), List.getElem?_eq_none (by have := hN2.out; omega)])
          go_wp2_with fail
          go_ret
          exact ⟨ret_bool HRR.out, HX.out⟩
    · have t0 : ((N : Int) != (N2 : Int)) = true := by simp; omega
      have t1 : (ds != ds) = false := by simp
      have HRR := Lib.hid (show false = R from by
        rw [← HR2.out, eq_comm, decide_eq_false_iff_not]
        intro e; have h1 := hN.out; have h2 := hN2.out; rw [e, h2] at h1; exact hne h1.symm)
      clear hne
      go_enter Try.func81, Try.ntmps81
      go_wp2_with fail
      go_ret
      exact ⟨ret_bool HRR.out, HX.out⟩
  · have t1 : (ds != dt) = true := by simp [hdd]
    have HRR := Lib.hid (show false = R from by rw [← HR.out]; simp [hdd])
    clear hdd
    go_enter Try.func81, Try.ntmps81
    go_wp2_with fail
    go_ret
    exact ⟨ret_bool HRR.out, HX.out⟩
/-- A state of the document's is put into its three cells. -/
theorem put_stateD {w : World} {S : Nat → Prop} {b i : Nat} {L : List (Bool × Sx)} {t : Bool × Sx} {s : Sx} {mv : Value} (h : RowB TZ w S b L) (ht : L[i]? = some t) (hm : RowM TD w S mv s.ms) (hS : ∀ x, S x → x ≠ b) :
    RowB TZ (((w.setCell ⟨b, i * 3, none⟩ (.bool true)).setCell ⟨b, i * 3 + 1, none⟩ (.int .i64 s.dep)).setCell ⟨b, i * 3 + 2, none⟩ mv) S b (L.set i (true, s)) := by
  have hl := (List.getElem?_eq_some_iff.1 ht).1
  have h0 : RowB TZ (w.setCell ⟨b, i * 3, none⟩ (.bool true)) S b (L.set i (true, t.2)) := h.set (i := i) (j := 0) ht hS (by decide) (fun q hq => ⟨q, rfl, hasM.mv (mv_set hS _ _) hq⟩)
  have h1 := h0.set (i := i) (j := 1) (t := (true, t.2)) (p := (true, ⟨s.dep, t.2.ms⟩)) (v := .int .i64 s.dep) (by simp [hl]) hS (by decide) (fun q hq => ⟨q, rfl, hasM.mv (mv_set hS _ _) hq⟩)
  have h2 := h1.set (i := i) (j := 2) (t := (true, ⟨s.dep, t.2.ms⟩)) (p := (true, s)) (v := mv) (by simp [hl]) hS (by decide) (fun q hq => ⟨[mv], rfl, ((hm.mv (mv_set hS _ _)).mv (mv_set hS _ _)).mv (mv_set hS _ _)⟩)
  rw [List.set_set, List.set_set] at h2
  exact h2
theorem set_same {α : Type} : ∀ {l : List α} {i : Nat} {x : α}, l[i]? = some x → l.set i x = l
  | [], i, x, h => by simp at h
  | a :: l, 0, x, h => by simp at h; rw [h]; rfl
  | a :: l, i + 1, x, h => by show a :: l.set i x = a :: l; rw [set_same (by simpa using h)]
theorem cells_some {w : World} {S : Nat → Prop} {b i : Nat} {p : Bool × Sx} (h : ∃ q, LiesR TZ w b (i * TZ.size) p q ∧ TZ.has w S p q) : ∃ t0 t1 t2, w.cell? ⟨b, i * 3, none⟩ = some t0 ∧ w.cell? ⟨b, i * 3 + 1, none⟩ = some t1 ∧ w.cell? ⟨b, i * 3 + 2, none⟩ = some t2 := by
  obtain ⟨q, h1, _⟩ := h
  exact ⟨_, _, _, h1 0 _ rfl, h1 1 _ rfl, h1 2 _ rfl⟩
def HandRes (K : Int) (A : Row) (x : Nat × Sx) (S : Nat → Prop) (b : Nat) (w : World) (e : Ending) (w' : World) : Prop :=
  (∃ A', put K A x = some A' ∧ e = .returned (.bool true) ∧ RowB TZ w' S b (A'.map rawD) ∧ Bo w.heap.size b w w') ∨ (put K A x = none ∧ e = .returned (.bool false) ∧ Bo w.heap.size b w w')
set_option maxHeartbeats 8000000 in
theorem hand_c (w : World) (b N : Nat) (K : Int) (S : Nat → Prop) (A : Row) (x : Nat × Sx) (xb : Bool) (mv : Value) (z : Int) (hz : z = (x.1 : Int)) (h : RowB TZ w S b (A.map rawD)) (len : A.length = N) (hm : RowM TD w S mv x.2.ms) (hS1 : ∀ y, S y → y ≠ b) (hS2 : ∀ y, w.heap.size ≤ y → S y) (hl : x.2.ms.length ≤ 1000000) (gd : ∀ (a : Nat) (s : Sx), A[a]? = some (some s) → s.ms.length ≤ 1000000) :
    Calls Try.prog 74 #[.slice (some ⟨b, 0, none⟩) N N, .int .i64 z, .agg #[.bool xb, .int .i64 x.2.dep, mv], .int .i64 K] w (HandRes K A x S b w) := by
  subst hz
  obtain ⟨at_, s⟩ := x
  obtain ⟨mo, mc, rfl, _⟩ := hm.val
  simp only at hm hl ⊢
  obtain ⟨MN, hMN⟩ : ∃ n, Hid (s.ms.length = n) := ⟨_, Lib.hid rfl⟩
  have HL := Lib.hid hl
  rw [hMN.out] at hm hl ⊢
  have HM := Lib.hid hm
  obtain ⟨D, hD⟩ : ∃ d, Hid (s.dep = d) := ⟨_, Lib.hid rfl⟩
  rw [hD.out]
  have HW := Lib.hid h
  have HS1 := Lib.hid hS1
  have HS2 := Lib.hid hS2
  have HGD := Lib.hid gd
  have HA := Lib.hid (balloc w (.cells #[.bool xb, .int .i64 D, .slice mo MN mc] 75))
  have HX1 := Lib.hid (Bk.new w #[.bool xb, .int .i64 D, .slice mo MN mc] 75)
  have x0 := HX1.out.cell 0 (.bool xb) rfl
  have x1 := HX1.out.cell 1 (.int .i64 D) rfl
  have x2 := HX1.out.cell 2 (.slice mo MN mc) rfl
  have i0 : (0 : Int) ≤ (at_ : Int) := by omega
  have HLEN := Lib.hid len
  clear h hm hS1 hS2 gd len
  by_cases hlt : at_ < N
  · have g1 : decide (N ≤ at_) = false := by simpa using hlt
    by_cases hk : K < D
    · have HP := Lib.hid (show put K A (at_, s) = none from put_deep (by show K < s.dep; rw [hD.out]; exact hk))
      have hd' : D > K := hk
      go_enter Try.func74, Try.ntmps74
      go_wp2_with fail
      go_ret
      exact .inr ⟨HP.out, rfl, Bo.of HA.out⟩
    · obtain ⟨o, ho⟩ := getElem?_of_lt (l := A) (k := at_) (by rw [HLEN.out]; exact hlt)
      obtain ⟨q, hL, hq⟩ := (HW.out.keep HA.out).at (at_map rawD ho)
      have g2 : ¬ D > K := hk
      have i1 : (at_ : Int) < (N : Int) := by omega
      obtain ⟨tv, qs2, rfl, htr⟩ := hq
      obtain ⟨r, hr⟩ : ∃ r, Hid (rawD o = r) := ⟨_, Lib.hid rfl⟩
      have HT0 : RowM TD (w.alloc (.cells #[.bool xb, .int .i64 D, .slice mo MN mc] 75)) S tv (rawD o).2.ms := ⟨tv, qs2, rfl, htr⟩
      rw [hr.out] at HT0 hL
      have HT := Lib.hid HT0
      obtain ⟨to_, tc, rfl, _⟩ := HT0.val
      have y0 : (w.alloc (.cells #[.bool xb, .int .i64 D, .slice mo MN mc] 75)).cell? ⟨b, at_ * 3, none⟩ = some (.bool r.1) := hL 0 _ rfl
      have y1 : (w.alloc (.cells #[.bool xb, .int .i64 D, .slice mo MN mc] 75)).cell? ⟨b, at_ * 3 + 1, none⟩ = some (.int .i64 r.2.dep) := hL 1 _ rfl
      have y2 : (w.alloc (.cells #[.bool xb, .int .i64 D, .slice mo MN mc] 75)).cell? ⟨b, at_ * 3 + 2, none⟩ = some (.slice to_ r.2.ms.length tc) := hL 2 _ rfl
      have HTL : Hid (r.2.ms.length ≤ 1000000) := Lib.hid (by
        rw [← hr.out]
        cases o with
        | none => show (0 : Nat) ≤ _; omega
        | some t => exact HGD.out at_ t ho)
      have HO := Lib.hid ho
      have HKS := Lib.hid (show s.dep ≤ K by rw [hD.out]; exact Int.not_lt.1 hk)
      have HTN := Lib.hid (show ∃ n, r.2.ms.length = n from ⟨_, rfl⟩)
      have HS : Hid (∀ w', Below (w.alloc (.cells #[.bool xb, .int .i64 D, .slice mo MN mc] 75)).heap.size (w.alloc (.cells #[.bool xb, .int .i64 D, .slice mo MN mc] 75)) w' → Calls Try.prog 81 #[.agg #[.bool r.1, .int .i64 r.2.dep, .slice to_ r.2.ms.length tc], .agg #[.bool xb, .int .i64 D, .slice mo MN mc]] w' fun e w'' => e = .returned (.bool (decide (r.2 = s))) ∧ Below w'.heap.size w' w'') := Lib.hid fun w' hb => by
        have := same_c r.1 xb r.2 s (.slice to_ r.2.ms.length tc) (.slice mo MN mc) w' _ _ (HT.out.mv (Mv.low hb)) ((HM.out.mv (Mv.low HA.out)).mv (Mv.low hb)) HTL.out
        rw [hD.out] at this
        exact this
      obtain ⟨TN, hTN⟩ : ∃ n, Hid (r.2.ms.length = n) := ⟨_, Lib.hid rfl⟩
      obtain ⟨RD, hRD⟩ : ∃ n, Hid (r.2.dep = n) := ⟨_, Lib.hid rfl⟩
      obtain ⟨RB, hRB⟩ : ∃ n, Hid (r.1 = n) := ⟨_, Lib.hid rfl⟩
      obtain ⟨SM, hSM⟩ : ∃ n, Hid (decide (r.2 = s) = n) := ⟨_, Lib.hid rfl⟩
      rw [hTN.out, hRD.out, hRB.out, hSM.out] at HS
      rw [hTN.out] at y2
      rw [hRD.out] at y1
      rw [hRB.out] at y0
      have HLT := Lib.hid (And.intro (HW.out.keep HA.out).lt HX1.out.lt)
      clear hL HT0 htr ho hk
      go_enter Try.func74, Try.ntmps74
      go_upto_region 3 with fail
      go_region_held3 (fun w' => w'.cell? ⟨b, at_ * 3, none⟩ = some (.bool RB) ∧ w'.cell? ⟨b, at_ * 3 + 1, none⟩ = some (.int .i64 RD) ∧ w'.cell? ⟨b, at_ * 3 + 2, none⟩ = some (.slice to_ TN tc) ∧ w'.cell? ⟨w.heap.size, 0, none⟩ = some (.bool xb) ∧ w'.cell? ⟨w.heap.size, 1, none⟩ = some (.int .i64 D) ∧ w'.cell? ⟨w.heap.size, 2, none⟩ = some (.slice mo MN mc)) (first | with_reducible exact HH.out | go_keep)
        ((go_at_call 81; refine (HS.out _ (bdr _)).mono ?_; rintro e w3 ⟨rfl, hb3⟩; have HB3 := Lib.hid ((bdr (w.alloc (.cells #[.bool xb, .int .i64 D, .slice mo MN mc] 75))).trans (hb3.mono (Nat.le_refl _))); have HX3 := Lib.hid (bnext HA.out HB3.out); have HH := Lib.hid (And.intro ((HB3.out.cell (p := ⟨b, at_ * 3, none⟩) HLT.out.1).trans y0) (And.intro ((HB3.out.cell (p := ⟨b, at_ * 3 + 1, none⟩) HLT.out.1).trans y1) (And.intro ((HB3.out.cell (p := ⟨b, at_ * 3 + 2, none⟩) HLT.out.1).trans y2) (And.intro ((HB3.out.cell (p := ⟨w.heap.size, 0, none⟩) HLT.out.2).trans x0) (And.intro ((HB3.out.cell (p := ⟨w.heap.size, 1, none⟩) HLT.out.2).trans x1) ((HB3.out.cell (p := ⟨w.heap.size, 2, none⟩) HLT.out.2).trans x2)))))); clear hb3))
      have w0c := HH.out.1
      have HW3 := Lib.hid ((HW.out.keep HA.out).keep HB3.out)
      have key : (o = none ∧ RB = false) ∨ (∃ t, o = some t ∧ RB = true ∧ SM = true ∧ t = s) ∨ (∃ t, o = some t ∧ RB = true ∧ SM = false ∧ t ≠ s) := by
        cases o with
        | none => exact .inl ⟨rfl, by rw [← hRB.out, ← hr.out]; rfl⟩
        | some t =>
          have e1 : RB = true := by rw [← hRB.out, ← hr.out]; rfl
          have e2 : SM = decide (t = s) := by rw [← hSM.out, ← hr.out]; rfl
          by_cases hts : t = s
          · exact .inr (.inl ⟨t, rfl, e1, by rw [e2]; simp [hts], hts⟩)
          · exact .inr (.inr ⟨t, rfl, e1, by rw [e2]; simp [hts], hts⟩)
      have HNB : Hid (w.heap.size ≠ b) := Lib.hid (by have := HW.out.lt; omega)
      clear HS
      rcases key with ⟨ho, rfl⟩ | ⟨t, ho, rfl, rfl, hts⟩ | ⟨t, ho, rfl, rfl, hts⟩
      · have HP : Hid (put K A (at_, s) = some (A.set at_ (some s))) := Lib.hid (put_new (x := (at_, s)) (by rw [HO.out, ho]) (Int.not_lt.2 HKS.out))
        clear ho
        have HKX3 := Lib.hid (HX1.out.keep HB3.out)
        have HM3 := Lib.hid (((HM.out.mv (Mv.low HA.out)).mv (Mv.low HB3.out)).row)
        have z1 := HKX3.out.cell 1 (.int .i64 D) rfl
        have z2 := HKX3.out.cell 2 (.slice mo MN mc) rfl
        have HLEQ := Lib.hid (show s.ms.length ≤ 1000000 from HL.out)
        clear x0 x1 x2 y0 y1 y2 w0c
        go_wp2_with fail
        go_region_held3 (fun w' => w'.cell? ⟨w.heap.size, 1, none⟩ = some (.int .i64 D) ∧ w'.cell? ⟨w.heap.size, 2, none⟩ = some (.slice mo MN mc)) (first | with_reducible exact HH6.out | exact ⟨(HH8.out _ _ _).cell 1 _ rfl, (HH8.out _ _ _).cell 2 _ rfl⟩ | go_keep)
          ((go_at_call 73; refine (own_c (.slice mo MN mc) s.ms _ S (HM3.out.keep (below_dN (Below.refl _ _) 1)) HLEQ.out).mono ?_; rintro e w4 ⟨ao4, n4, cap4, rfl, ho4, hb4⟩; have HO4 := Lib.hid ho4; have HB4 := Lib.hid ((bdr w3).trans (hb4.mono (Nat.le_refl _))); have HH6 := Lib.hid (And.intro ((HKX3.out.keep HB4.out).cell 1 (.int .i64 D) rfl) ((HKX3.out.keep HB4.out).cell 2 (.slice mo MN mc) rfl)); have HH8 := Lib.hid (fun u0 u1 u2 => ((((HKX3.out.keep HB4.out).other (b' := b) HNB.out (at_ * 3) u0).other HNB.out (at_ * 3 + 1) u1).other HNB.out (at_ * 3 + 2) u2)); have HW4 := Lib.hid (HW3.out.keep HB4.out); have HL4 := Lib.hid (HW4.out.at (at_map rawD HO.out));  have u0 := HW4.out.free (at_ * 3); have u1 := HW4.out.free (at_ * 3 + 1); have u2 := HW4.out.free (at_ * 3 + 2); obtain ⟨t0, t1, t2, v0, v1, v2⟩ := cells_some HL4.out; clear ho4 hb4))
        go_wp2_with fail
        go_ret
        have HS4 := HX3.out.trans (HB4.out.mono HX3.out.size)
        have HMM : RowM TD w4 S (.slice ao4 n4 cap4) s.ms := (RowM.own HO4.out (fun b h => h.elim)).mv (Mv.weak w4 fun b hb _ => HS2.out b (Nat.le_trans HX3.out.size hb))
        have hput := put_stateD (s := s) HW4.out (at_map rawD HO.out) HMM HS1.out
        rw [hD.out] at hput
        refine .inl ⟨_, HP.out, rfl, ?_, ((Bo.of HS4).trans ((Bo.set _ b _ _ _).mono (Nat.le_refl _))).trans ((Bo.set _ b _ _ _).trans (Bo.set _ b _ _ _))⟩
        rw [map_set_some]
        exact hput
      · have HP : Hid (put K A (at_, s) = some A) := Lib.hid (by rw [put_old (x := (at_, s)) (s := t) (by rw [HO.out, ho]) (Int.not_lt.2 HKS.out), if_pos hts])
        have HRS : Hid ((A.map rawD).set at_ (true, s) = A.map rawD) := Lib.hid (set_same (by rw [at_map rawD HO.out, ho, hts]; rfl))
        clear ho hts
        have HKX3 := Lib.hid (HX1.out.keep HB3.out)
        have HM3 := Lib.hid (((HM.out.mv (Mv.low HA.out)).mv (Mv.low HB3.out)).row)
        have z1 := HKX3.out.cell 1 (.int .i64 D) rfl
        have z2 := HKX3.out.cell 2 (.slice mo MN mc) rfl
        have HLEQ := Lib.hid (show s.ms.length ≤ 1000000 from HL.out)
        clear x0 x1 x2 y0 y1 y2 w0c
        go_wp2_with fail
        go_region_held3 (fun w' => w'.cell? ⟨w.heap.size, 1, none⟩ = some (.int .i64 D) ∧ w'.cell? ⟨w.heap.size, 2, none⟩ = some (.slice mo MN mc)) (first | with_reducible exact HH6.out | exact ⟨(HH8.out _ _ _).cell 1 _ rfl, (HH8.out _ _ _).cell 2 _ rfl⟩ | go_keep)
          ((go_at_call 73; refine (own_c (.slice mo MN mc) s.ms _ S (HM3.out.keep (below_dN (Below.refl _ _) 1)) HLEQ.out).mono ?_; rintro e w4 ⟨ao4, n4, cap4, rfl, ho4, hb4⟩; have HO4 := Lib.hid ho4; have HB4 := Lib.hid ((bdr w3).trans (hb4.mono (Nat.le_refl _))); have HH6 := Lib.hid (And.intro ((HKX3.out.keep HB4.out).cell 1 (.int .i64 D) rfl) ((HKX3.out.keep HB4.out).cell 2 (.slice mo MN mc) rfl)); have HH8 := Lib.hid (fun u0 u1 u2 => ((((HKX3.out.keep HB4.out).other (b' := b) HNB.out (at_ * 3) u0).other HNB.out (at_ * 3 + 1) u1).other HNB.out (at_ * 3 + 2) u2)); have HW4 := Lib.hid (HW3.out.keep HB4.out); have HL4 := Lib.hid (HW4.out.at (at_map rawD HO.out));  have u0 := HW4.out.free (at_ * 3); have u1 := HW4.out.free (at_ * 3 + 1); have u2 := HW4.out.free (at_ * 3 + 2); obtain ⟨t0, t1, t2, v0, v1, v2⟩ := cells_some HL4.out; clear ho4 hb4))
        go_wp2_with fail
        go_ret
        have HS4 := HX3.out.trans (HB4.out.mono HX3.out.size)
        have HMM : RowM TD w4 S (.slice ao4 n4 cap4) s.ms := (RowM.own HO4.out (fun b h => h.elim)).mv (Mv.weak w4 fun b hb _ => HS2.out b (Nat.le_trans HX3.out.size hb))
        have hput := put_stateD (s := s) HW4.out (at_map rawD HO.out) HMM HS1.out
        rw [hD.out] at hput
        refine .inl ⟨_, HP.out, rfl, ?_, ((Bo.of HS4).trans ((Bo.set _ b _ _ _).mono (Nat.le_refl _))).trans ((Bo.set _ b _ _ _).trans (Bo.set _ b _ _ _))⟩
        rw [HRS.out] at hput
        exact hput
      · have HP : Hid (put K A (at_, s) = none) := Lib.hid (by rw [put_old (x := (at_, s)) (s := t) (by rw [HO.out, ho]) (Int.not_lt.2 HKS.out), if_neg hts])
        clear ho hts
        go_wp2_with fail
        go_ret
        exact .inr ⟨HP.out, rfl, Bo.of HX3.out⟩
  · have HP := Lib.hid (show put K A (at_, s) = none from put_over (by rw [HLEN.out]; show N ≤ at_; omega))
    have g1 : decide (N ≤ at_) = true := by simpa using hlt
    have g2 : (at_ : Int) ≥ (N : Int) := by omega
    go_enter Try.func74, Try.ntmps74
    go_wp2_with fail
    go_ret
    exact .inr ⟨HP.out, rfl, Bo.of HA.out⟩
end Go.Proofs.Ytkhdkepjhifffaa.VG
