/- The program's states: the base, whether two are the same, what is last. -/
import Derived.Test.YtkhdkepjhifffaaVB
import Derived.WalkSmall
namespace Go.Proofs.Ytkhdkepjhifffaa.VC
open Go.RowKit Go.Proofs.Ytkhdkepjhifffaa.RG Go.Proofs.Ytkhdkepjhifffaa.RB Go.Proofs.Ytkhdkepjhifffaa.KA Go.Proofs.Ytkhdkepjhifffaa.KB Go.Proofs.Ytkhdkepjhifffaa.VA Go.Proofs.Ytkhdkepjhifffaa.VB
set_option linter.unusedVariables false
set_option maxRecDepth 100000
set_option maxRecDepth 100000

theorem base_nil {s : Sx} (h : s.ms = []) : base s = 0 := by unfold base; rw [h]; rfl
theorem base_last {s : Sx} {m : Mk} (h : s.ms.getLast? = some m) : base s = m.dep := by unfold base; rw [h]
theorem last_at {ms : List Mk} {M : Nat} (h : ms.length = M + 1) : ∃ m, ms[M]? = some m ∧ ms.getLast? = some m := by
  obtain ⟨m, hm⟩ := getElem?_of_lt (l := ms) (k := M) (by omega)
  exact ⟨m, hm, by rw [List.getLast?_eq_getElem?, h]; exact hm⟩
set_option maxHeartbeats 2000000 in
theorem base_c (s : Sx) (mv : Value) (w : World) (S : Nat → Prop) (h : RowM TM w S mv s.ms) (hl : s.ms.length ≤ 1000000) :
    Calls Try.prog 70 #[.agg #[.int .i64 s.dep, mv]] w fun e w' => e = .returned (.int .i64 (base s)) ∧ Below w.heap.size w w' := by
  obtain ⟨R, HR⟩ : ∃ R, Hid (base s = R) := ⟨_, Lib.hid rfl⟩
  rw [HR.out]
  by_cases h0 : s.ms = []
  · have hR := Lib.hid ((base_nil h0).symm.trans HR.out)
    rw [h0] at h
    obtain ⟨ao, cap, rfl, hc⟩ := h.val
    have HX := Lib.hid (balloc w (.cells #[.int .i64 s.dep, .slice ao 0 cap] 72))
    have hhl : ([] : List Mk).length = 0 := rfl
    clear h hc hl h0 HR
    go_enter Try.func70, Try.ntmps70
    go_wp2_with fail
    go_ret
    exact ⟨ret_int hR.out, HX.out⟩
  · obtain ⟨M, hM⟩ : ∃ M, s.ms.length = M + 1 := ⟨s.ms.length - 1, by have := List.length_pos_iff.2 h0; omega⟩
    obtain ⟨m, hm, hlast⟩ := last_at hM
    obtain ⟨b, off, cap, rfl, hc, hb, hcell⟩ := h.at h0
    obtain ⟨q, hL⟩ := hcell M m hm
    rw [hM] at hc hl ⊢
    have hR := Lib.hid ((base_last hlast).symm.trans HR.out)
    have HX := Lib.hid (balloc w (.cells #[.int .i64 s.dep, .slice (some ⟨b, off, none⟩) (M + 1) cap] 72))
    have x1 : (w.alloc (.cells #[.int .i64 s.dep, .slice (some ⟨b, off, none⟩) (M + 1) cap] 72)).cell? ⟨b, off + M * 2 + 1, none⟩ = some (.int .i64 m.dep) := (HX.out.cell (p := ⟨b, off + M * 2 + 1, none⟩) hb).trans (hL 1 _ rfl)
    obtain ⟨D, hD⟩ : ∃ D, Hid (m.dep = D) := ⟨_, Lib.hid rfl⟩
    rw [hD.out] at x1 hR
    have i0 : (0 : Int) ≤ (M : Int) := by omega
    have i1 : (M : Int) < (M : Int) + 1 := by omega
    clear h h0 hm hlast hcell hL HR hM
    go_enter Try.func70, Try.ntmps70
    go_wp2_with fail
    go_ret
    exact ⟨ret_int hR.out, HX.out⟩
theorem mk_ne {k d k' d' : Int} (h : (⟨k, d⟩ : Mk) ≠ ⟨k', d'⟩) : (k == k' && d == d') = false := by
  rw [Bool.eq_false_iff]
  intro e
  simp at e
  exact h (by rw [e.1, e.2])
set_option maxHeartbeats 4000000 in
theorem equal_c (v1 v2 : Value) (l1 l2 : List Mk) (w : World) (S1 S2 : Nat → Prop) (h1 : RowM TM w S1 v1 l1) (h2 : RowM TM w S2 v2 l2) (hl : l1.length ≤ 1000000) :
    Calls Try.prog 76 #[v1, v2] w fun e w' => e = .returned (.bool (decide (l1 = l2))) ∧ Below w.heap.size w w' := by
  obtain ⟨R, HR⟩ : ∃ R, Hid (decide (l1 = l2) = R) := ⟨_, Lib.hid rfl⟩
  rw [HR.out]
  obtain ⟨a1, c1, e1, _⟩ := h1.val
  obtain ⟨a2, c2, e2, _⟩ := h2.val
  have H1 := Lib.hid h1.row
  have H2 := Lib.hid h2.row
  obtain ⟨N, hN⟩ : ∃ N, Hid (l1.length = N) := ⟨_, Lib.hid rfl⟩
  obtain ⟨N2, hN2⟩ : ∃ N, Hid (l2.length = N) := ⟨_, Lib.hid rfl⟩
  rw [hN.out] at e1 hl
  rw [hN2.out] at e2
  subst e1 e2
  by_cases hne : N = N2
  · subst hne
    have t0 : ((N : Int) != (N : Int)) = false := by simp
    clear h1 h2
    go_enter Try.func76, Try.ntmps76
    go_wp2_with fail
    go_loopg [5, 13] N (fun g sv jv wr => ∃ i : Nat, i + g = N ∧ jv = .int .i64 (i : Int) ∧ Hid (Below w.heap.size w wr) ∧ Hid (∀ j, j < i → l1[j]? = l2[j]?))
    case atStart => exact ⟨0, Nat.zero_add _, rfl, Lib.hid (Below.refl _ _), Lib.hid (fun j hj => by omega)⟩
    case round =>
      obtain ⟨i, hi, rfl, HX, HE⟩ := hrel
      by_cases hlt : i < N
      · obtain ⟨g, rfl⟩ : ∃ g, gk = g + 1 := ⟨gk - 1, by omega⟩
        have hn1 : l1 ≠ [] := by intro e; have := hN.out; rw [e] at this; simp at this; omega
        have hn2 : l2 ≠ [] := by intro e; have := hN2.out; rw [e] at this; simp at this; omega
        obtain ⟨b, off, cap, hv, _, hb, hcell⟩ := H1.out.open_ hn1
        obtain ⟨b2, off2, cap2, hv2, _, hb2, hcell2⟩ := H2.out.open_ hn2
        rw [hN.out] at hv
        rw [hN2.out] at hv2
        cases hv
        cases hv2
        obtain ⟨m, hm⟩ := getElem?_of_lt (l := l1) (k := i) (by rw [hN.out]; exact hlt)
        obtain ⟨m2, hm2⟩ := getElem?_of_lt (l := l2) (k := i) (by rw [hN2.out]; exact hlt)
        obtain ⟨q, hL, _⟩ := hcell i m hm
        obtain ⟨q2, hL2, _⟩ := hcell2 i m2 hm2
        have hM := hL.keep HX.out hb
        have hM2 := hL2.keep HX.out hb2
        have HMM := Lib.hid (And.intro hm hm2)
        obtain ⟨k, d⟩ := m
        obtain ⟨k2, d2⟩ := m2
        have x0 : wr.cell? ⟨b, off + i * 2, none⟩ = some (.int .i64 k) := hM 0 _ rfl
        have x1 : wr.cell? ⟨b, off + i * 2 + 1, none⟩ = some (.int .i64 d) := hM 1 _ rfl
        have y0 : wr.cell? ⟨b2, off2 + i * 2, none⟩ = some (.int .i64 k2) := hM2 0 _ rfl
        have y1 : wr.cell? ⟨b2, off2 + i * 2 + 1, none⟩ = some (.int .i64 d2) := hM2 1 _ rfl
        have i0 : (0 : Int) ≤ (i : Int) := by omega
        have i1 : (i : Int) < (N : Int) := by omega
        clear hcell hcell2 hL hL2 hM hM2 hm hm2 hn1 hn2
        by_cases hk : k = k2
        · subst hk
          have f0 : (k == k) = true := by simp
          by_cases hd : d = d2
          · subst hd
            have f1 : (d == d) = true := by simp
            go_wp2_with fail
            go_quiet (fail)
            go_wp2_with fail
            go_roundg g
            case rel =>
              refine ⟨i + 1, by omega, by go_num, Lib.hid (below_dN HX.out _), Lib.hid (fun j hj => ?_)⟩
              by_cases hji : j = i
              · subst hji; rw [HMM.out.1, HMM.out.2]
              · exact HE.out j (by omega)
            case measure => omega
          · have f1 : (d == d2) = false := by simpa using hd
            have HRR := Lib.hid (show false = R from by rw [← HR.out, eq_comm, decide_eq_false_iff_not]; intro e; have := HMM.out; rw [e, this.2] at this; simp at this; exact hd this.symm)
            clear hd
            go_wp2_with fail
            go_quiet (fail)
            go_wp2_with fail
            go_ret
            exact ⟨ret_bool HRR.out, below_dN HX.out _⟩
        · have f0 : (k == k2) = false := by simpa using hk
          have HRR := Lib.hid (show false = R from by rw [← HR.out, eq_comm, decide_eq_false_iff_not]; intro e; have := HMM.out; rw [e, this.2] at this; simp at this; exact hk this.1.symm)
          clear hk
          go_wp2_with fail
          go_quiet (fail)
          go_wp2_with fail
          go_ret
          exact ⟨ret_bool HRR.out, below_dN HX.out _⟩
      · have HRR := Lib.hid (show true = R from by
          rw [← HR.out, eq_comm, decide_eq_true_iff]
          refine List.ext_getElem? fun j => ?_
          by_cases hj : j < i
          · exact HE.out j hj
          · rw [List.getElem?_eq_none (by have := hN.out; omega), List.getElem?_eq_none (by have := hN2.out; omega)])
        go_wp2_with fail
        go_ret
        exact ⟨ret_bool HRR.out, HX.out⟩
  · have t0 : ((N : Int) != (N2 : Int)) = true := by simp; omega
    have HRR := Lib.hid (show false = R from by rw [← HR.out, eq_comm, decide_eq_false_iff_not]; intro e; have h1 := hN.out; have h2 := hN2.out; rw [e, h2] at h1; exact hne h1.symm)
    clear h1 h2 hne
    go_enter Try.func76, Try.ntmps76
    go_wp2_with fail
    go_ret
    exact ⟨ret_bool HRR.out, Below.refl _ _⟩
theorem sx_dec (s t : Sx) : decide (s = t) = (decide (s.dep = t.dep) && decide (s.ms = t.ms)) := by
  obtain ⟨a, b⟩ := s
  obtain ⟨c, d⟩ := t
  simp
set_option maxHeartbeats 4000000 in
theorem same_c (s t : Sx) (v1 v2 : Value) (w : World) (S1 S2 : Nat → Prop) (h1 : RowM TM w S1 v1 s.ms) (h2 : RowM TM w S2 v2 t.ms) (hl : s.ms.length ≤ 1000000) :
    Calls Try.prog 69 #[.agg #[.int .i64 s.dep, v1], .agg #[.int .i64 t.dep, v2]] w fun e w' => e = .returned (.bool (decide (s = t))) ∧ Below w.heap.size w w' := by
  obtain ⟨R, HR⟩ : ∃ R, Hid (decide (s = t) = R) := ⟨_, Lib.hid rfl⟩
  rw [HR.out]
  obtain ⟨ds, ms⟩ := s
  obtain ⟨dt, mt⟩ := t
  obtain ⟨E, hE⟩ : ∃ E, Hid (decide (ms = mt) = E) := ⟨_, Lib.hid rfl⟩
  have hd := HR.out
  rw [sx_dec] at hd
  simp only at hd h1 h2 hl ⊢
  rw [hE.out] at hd
  obtain ⟨a1, c1, e1, _⟩ := h1.val
  obtain ⟨a2, c2, e2, _⟩ := h2.val
  have HE := Lib.hid (fun w' (hb : Below w.heap.size w w') => equal_c v1 v2 ms mt w' S1 S2 (h1.mv (Mv.low hb)) (h2.mv (Mv.low hb)) hl)
  rw [hE.out] at HE
  obtain ⟨N, hN⟩ : ∃ N, ms.length = N := ⟨_, rfl⟩
  obtain ⟨N2, hN2⟩ : ∃ N, mt.length = N := ⟨_, rfl⟩
  rw [hN] at e1
  rw [hN2] at e2
  subst e1 e2
  have HX := Lib.hid (bnext (balloc w (.cells #[.int .i64 ds, .slice a1 N c1] 72)) (balloc _ (.cells #[.int .i64 dt, .slice a2 N2 c2] 72)))
  clear h1 h2 hl hN hN2 hE HR
  by_cases hdd : ds = dt
  · subst hdd
    have f0 : (ds == ds) = true := by simp
    have HRR := Lib.hid (show E = R from by simpa using hd)
    clear hd
    go_enter Try.func69, Try.ntmps69
    go_wp2_with (go_at_call 76; refine (HE.out _ HX.out).mono ?_; rintro e w3 ⟨rfl, hb3⟩; have HX3 := Lib.hid (bnext HX.out hb3); clear hb3)
    go_ret
    exact ⟨ret_bool HRR.out, HX3.out⟩
  · have f0 : (ds == dt) = false := by simpa using hdd
    have HRR := Lib.hid (show false = R from by rw [← hd]; simp [hdd])
    clear hd hdd
    go_enter Try.func69, Try.ntmps69
    go_wp2_with fail
    go_ret
    exact ⟨ret_bool HRR.out, HX.out⟩
end Go.Proofs.Ytkhdkepjhifffaa.VC
