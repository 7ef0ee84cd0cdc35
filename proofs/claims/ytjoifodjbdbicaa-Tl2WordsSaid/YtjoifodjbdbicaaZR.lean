/- ZR: several texts in one (PD PE PF PG). -/
import Derived.Test.YtjoifodjbdbicaaZQ
import Derived.Test.YtjoifodjbdbicaaZC
import Derived.Test.YtjoifodjbdbicaaUI

/- The program's engine: open, youngest, sound, allSound; what is told of it. -/
namespace Go.Proofs.Ytjoifodjbdbicaa.PD
open Go.RowKit Go.Proofs.Ytjoifodjbdbicaa.RG Go.Proofs.Ytjoifodjbdbicaa.RB Go.Proofs.Ytjoifodjbdbicaa.RI Go.Proofs.Ytjoifodjbdbicaa.RM Go.Proofs.Ytjoifodjbdbicaa.UA Go.Proofs.Ytjoifodjbdbicaa.UB Go.Proofs.Ytjoifodjbdbicaa.UE Go.Proofs.Ytjoifodjbdbicaa.PA Go.Proofs.Ytjoifodjbdbicaa.PB Go.Proofs.Ytjoifodjbdbicaa.PC
set_option linter.unusedVariables false
set_option maxRecDepth 100000
set_option maxRecDepth 100000

section
variable {w : World} {F : Nat → Prop} {p : Nat} {E : Eg} {vv : Value} {tv : Nat → Option Nat} {G : Nat → Nat → Prop}
/-- Who is it? -/
theorem who (H : EI w F p E vv tv G) (h8 : E.T.length = 8) (t : Int) : (ofV tv t = none ∧ hasR E t = false ∧ openR E t = false) ∨ ∃ (i : Nat) (x : Tx) (b : Nat), t = (i : Int) ∧ i < 8 ∧ E.T[i]? = some x ∧ thR E t = some x ∧ x.is = true ∧ tv i = some b ∧ TD w (G i) b x (lftR E.V (i : Int) x) := by
  rcases thR_cases E h8 t with ⟨hn, h1⟩ | ⟨i, x, rfl, hi, hx, hth⟩
  · exact .inl ⟨ofV_none tv h1, by unfold hasR; rw [hn], by unfold openR; rw [hn]⟩
  · cases hs : x.is with
    | true =>
      obtain ⟨b, h2, h3⟩ := H.th1 i x hx hs
      exact .inr ⟨i, x, b, rfl, hi, hx, hth, hs, h2, h3⟩
    | false => exact .inl ⟨by rw [ofV_nat tv hi]; exact (H.th0 i x hx hs).1, by unfold hasR; rw [hth]; exact hs, by unfold openR opn; rw [hth]; simp [hs]⟩
theorem open_c (w : World) (H : EI w F p E vv tv G) (h8 : E.T.length = 8) (t : Int) :
    Calls Try.prog 60 #[.pointer (some ⟨p, 0, none⟩), .int .i64 t] w fun e w' => e = .returned (ptr (if openR E t = true then ofV tv t else none)) ∧ w' = w := by
  have HO := Lib.hid (of_c w F p E vv tv G H t)
  rcases who H h8 t with ⟨h1, h2, h3⟩ | ⟨i, x, b, rfl, hi, hx, hth, hs, hb, rv, pv, lv, ms, HX⟩
  · rw [h1, ptr_none] at HO
    rw [h3, if_neg (by decide)]
    clear H h1 h2 h3
    go_enter Try.func60, Try.ntmps60
    go_wp2_with (go_at_call 53; refine HO.out.mono ?_; rintro e w1 ⟨rfl, rfl⟩)
    go_ret
    exact ⟨rfl, rfl⟩
  · rw [ofV_nat tv hi, hb, ptr_some] at HO
    rw [ofV_nat tv hi, hb]
    obtain ⟨c0, c1, c2, c3, c4, c5⟩ := HX.cells
    have ho : openR E (i : Int) = !x.commits := by unfold openR opn; rw [hth]; simp [hs]
    rw [ho]
    obtain ⟨c, hc⟩ : ∃ c, x.commits = c := ⟨_, rfl⟩
    rw [hc] at c3 ⊢
    clear H hx hth hs hb HX c0 c1 c2 c4 c5 ho hc
    cases c
    · go_enter Try.func60, Try.ntmps60
      go_wp2_with (go_at_call 53; refine HO.out.mono ?_; rintro e w1 ⟨rfl, rfl⟩)
      go_ret
      exact ⟨rfl, rfl⟩
    · go_enter Try.func60, Try.ntmps60
      go_wp2_with (go_at_call 53; refine HO.out.mono ?_; rintro e w1 ⟨rfl, rfl⟩)
      go_ret
      exact ⟨rfl, rfl⟩
theorem active_c (w : World) (H : EI w F p E vv tv G) (h8 : E.T.length = 8) (t : Int) :
    Calls Try.prog 23 #[.pointer (some ⟨p, 0, none⟩), .int .i64 t] w fun e w' => e = .returned (.bool (hasR E t)) ∧ w' = w := by
  have HO := Lib.hid (of_c w F p E vv tv G H t)
  rcases who H h8 t with ⟨h1, h2, h3⟩ | ⟨i, x, b, rfl, hi, hx, hth, hs, hb, hT⟩
  · rw [h1, ptr_none] at HO
    rw [h2]
    clear H h1 h2 h3
    go_enter Try.func23, Try.ntmps23
    go_wp2_with (go_at_call 53; refine HO.out.mono ?_; rintro e w1 ⟨rfl, rfl⟩)
    go_ret
    exact ⟨rfl, rfl⟩
  · rw [ofV_nat tv hi, hb, ptr_some] at HO
    rw [show hasR E (i : Int) = true by unfold hasR; rw [hth]; exact hs]
    clear H hx hth hs hb hT
    go_enter Try.func23, Try.ntmps23
    go_wp2_with (go_at_call 53; refine HO.out.mono ?_; rintro e w1 ⟨rfl, rfl⟩)
    go_ret
    exact ⟨rfl, rfl⟩
theorem clock_c (w : World) (H : EI w F p E vv tv G) :
    Calls Try.prog 26 #[.pointer (some ⟨p, 0, none⟩)] w fun e w' => e = .returned (.int .i64 E.clock) ∧ w' = w := by
  have y : w.cell? ⟨p, 0, none⟩ = some (.int .i64 E.clock) := H.bk.cell 0 _ rfl
  clear H
  go_enter Try.func26, Try.ntmps26
  go_wp2_with fail
  go_ret
  exact ⟨rfl, rfl⟩
theorem start_c (w : World) (H : EI w F p E vv tv G) (h8 : E.T.length = 8) (t : Int) :
    Calls Try.prog 17 #[.pointer (some ⟨p, 0, none⟩), .int .i64 t] w fun e w' => e = .returned (.int .i64 (match thR E t with | some x => if x.is then x.start else 0 | none => 0)) ∧ w' = w := by
  have HO := Lib.hid (active_c w H h8 t)
  rcases who H h8 t with ⟨h1, h2, h3⟩ | ⟨i, x, b, rfl, hi, hx, hth, hs, hb, rv, pv, lv, ms, HX⟩
  · rw [h2] at HO
    have e : (match thR E t with | some x => if x.is then x.start else 0 | none => 0) = 0 := by
      unfold hasR at h2
      cases hx : thR E t with
      | none => rfl
      | some x => rw [hx] at h2; simp only at h2 ⊢; rw [h2]; rfl
    rw [e]
    clear H h1 h2 h3 e
    go_enter Try.func17, Try.ntmps17
    go_wp2_with (go_at_call 23; refine HO.out.mono ?_; rintro e w1 ⟨rfl, rfl⟩)
    go_ret
    exact ⟨rfl, rfl⟩
  · rw [show hasR E (i : Int) = true by unfold hasR; rw [hth]; exact hs] at HO
    rw [hth]
    simp only [hs, if_true]
    obtain ⟨c0, c1, c2, c3, c4, c5⟩ := HX.cells
    have y := H.tc hi
    rw [hb, ptr_some] at y
    have i0 : (0 : Int) ≤ (i : Int) := by omega
    have i1 : (i : Int) < 8 := by omega
    clear H hx hth hs hb HX c1 c2 c3 c4 c5
    go_enter Try.func17, Try.ntmps17
    go_wp2_with (go_at_call 23; refine HO.out.mono ?_; rintro e w1 ⟨rfl, rfl⟩)
    go_ret
    exact ⟨rfl, rfl⟩
theorem value_c (w : World) (H : EI w F p E vv tv G) (n : Int) :
    Calls Try.prog 22 #[.pointer (some ⟨p, 0, none⟩), .int .i64 n] w fun e w' => e = .returned (.tuple #[.int .i64 (match vrR E n with | some v => (v.val, (0 : Int)) | none => (0, 1)).1, .int .i64 (match vrR E n with | some v => (v.val, (0 : Int)) | none => (0, 1)).2]) ∧ w' = w := by
  have HO := Lib.hid (isVar_c w F p E vv tv G H n)
  rcases vrR_cases E n with ⟨hn, _⟩ | ⟨i, x, rfl, hi, hx, hth⟩
  · rw [hn] at HO ⊢
    clear H hn
    go_enter Try.func22, Try.ntmps22
    go_wp2_with (go_at_call 52; refine HO.out.mono ?_; rintro e w1 ⟨rfl, rfl⟩)
    go_ret2
    exact ⟨rfl, rfl⟩
  · rw [hth] at HO ⊢
    obtain ⟨g, cap, cur, rfl, hk, hg, hf, hF, v0, v1, v2⟩ := H.vr hx
    have y : w.cell? ⟨p, 1, none⟩ = some (.slice (some ⟨g, 0, none⟩) E.V.length cap) := H.bk.cell 1 _ rfl
    obtain ⟨N, hN⟩ : ∃ N, Hid (E.V.length = N) := ⟨_, Lib.hid rfl⟩
    rw [hN.out] at y hi
    have i0 : (0 : Int) ≤ (i : Int) := by omega
    have i1 : (i : Int) < (N : Int) := by omega
    clear H hx hth hk hf hF v1 v2 hN hi
    go_enter Try.func22, Try.ntmps22
    go_wp2_with (go_at_call 52; refine HO.out.mono ?_; rintro e w1 ⟨rfl, rfl⟩)
    go_ret2
    exact ⟨rfl, rfl⟩
theorem newer_c (w : World) (H : EI w F p E vv tv G) (n u : Int) :
    Calls Try.prog 47 #[.pointer (some ⟨p, 0, none⟩), .int .i64 n, .int .i64 u] w fun e w' => e = .returned (.bool (match vrR E n with | some v => decide (u < v.ver) | none => false)) ∧ w' = w := by
  have HO := Lib.hid (isVar_c w F p E vv tv G H n)
  rcases vrR_cases E n with ⟨hn, _⟩ | ⟨i, x, rfl, hi, hx, hth⟩
  · rw [hn] at HO ⊢
    clear H hn
    go_enter Try.func47, Try.ntmps47
    go_wp2_with (go_at_call 52; refine HO.out.mono ?_; rintro e w1 ⟨rfl, rfl⟩)
    go_ret
    exact ⟨rfl, rfl⟩
  · rw [hth] at HO ⊢
    obtain ⟨g, cap, cur, rfl, hk, hg, hf, hF, v0, v1, v2⟩ := H.vr hx
    have y : w.cell? ⟨p, 1, none⟩ = some (.slice (some ⟨g, 0, none⟩) E.V.length cap) := H.bk.cell 1 _ rfl
    obtain ⟨N, hN⟩ : ∃ N, Hid (E.V.length = N) := ⟨_, Lib.hid rfl⟩
    rw [hN.out] at y hi
    have i0 : (0 : Int) ≤ (i : Int) := by omega
    have i1 : (i : Int) < (N : Int) := by omega
    clear H hx hth hk hf hF v0 v2 hN hi
    go_enter Try.func47, Try.ntmps47
    go_wp2_with (go_at_call 52; refine HO.out.mono ?_; rintro e w1 ⟨rfl, rfl⟩)
    go_ret
    exact ⟨rfl, rfl⟩
/-- The youngest part's map. -/
theorem youngest_d (w : World) {g : Nat → Prop} {b : Nat} {x : Tx} {L : List Int} {rv pv lv : Value} {ms : List Mp} {m : Mp} (H : TX w g b x L rv pv lv (ms ++ [m])) (hl : ms.length ≤ 1000000) :
    Calls Try.prog 55 #[.pointer (some ⟨b, 0, none⟩)] w fun e w' => e = .returned (.map (some m.1)) ∧ w' = w.drew := by
  obtain ⟨c0, c1, c2, c3, c4, c5⟩ := H.cells
  obtain ⟨gb, cap, cur, rfl, hk, hg, hf⟩ := own_block H.pt (by simp)
  obtain ⟨b', off, cap', hv', _, _, hc⟩ := H.pt.row.open_ (by simp)
  injection hv' with e1 e2
  injection e1 with e1
  injection e1 with e1 e3
  subst e1
  subst e3
  obtain ⟨q, hL, _⟩ := hc ms.length m.1 (by simp)
  have y0 : w.cell? ⟨gb, 0 + ms.length * 1, none⟩ = some (.map (some m.1)) := hL 0 _ rfl
  have hlen : ((ms ++ [m]).map (·.1)).length = ms.length + 1 := by simp
  rw [hlen] at c2
  obtain ⟨k, hk2⟩ : ∃ k, ms.length = k := ⟨_, rfl⟩
  rw [hk2] at c2 y0 hl
  rw [Nat.zero_add, Nat.mul_one] at y0
  have i0 : (0 : Int) ≤ (k : Int) := by omega
  have i1 : (k : Int) < (k : Int) + 1 := by omega
  have i2 : ((k : Int) + 1) - 1 = (k : Int) := by omega
  clear H hk hg hf hc hL hlen hk2 c0 c1 c3 c4 c5 e2
  go_enter Try.func55, Try.ntmps55
  go_wp2_with fail
  go_region
  go_wp2_with fail
  go_ret
  exact ⟨rfl, rfl⟩
theorem youngest_c (w : World) {g : Nat → Prop} {b : Nat} {x : Tx} {L : List Int} {rv pv lv : Value} {ms : List Mp} {m : Mp} (H : TX w g b x L rv pv lv (ms ++ [m])) (hl : ms.length ≤ 1000000) :
    Calls Try.prog 55 #[.pointer (some ⟨b, 0, none⟩)] w fun e w' => e = .returned (.map (some m.1)) ∧ Below w.heap.size w w' :=
  (youngest_d w H hl).mono fun e w' h => ⟨h.1, by rw [h.2]; exact bdr w⟩
end
end Go.Proofs.Ytjoifodjbdbicaa.PD

/- The program's engine: sound, allSound, Valid; Index and Contains. -/
namespace Go.Proofs.Ytjoifodjbdbicaa.PE
open Go.RowKit Go.Proofs.Ytjoifodjbdbicaa.RG Go.Proofs.Ytjoifodjbdbicaa.RB Go.Proofs.Ytjoifodjbdbicaa.RI Go.Proofs.Ytjoifodjbdbicaa.RM Go.Proofs.Ytjoifodjbdbicaa.UA Go.Proofs.Ytjoifodjbdbicaa.UB Go.Proofs.Ytjoifodjbdbicaa.UE Go.Proofs.Ytjoifodjbdbicaa.UF Go.Proofs.Ytjoifodjbdbicaa.PA Go.Proofs.Ytjoifodjbdbicaa.PB Go.Proofs.Ytjoifodjbdbicaa.PC Go.Proofs.Ytjoifodjbdbicaa.PD
set_option linter.unusedVariables false
set_option maxRecDepth 100000
set_option maxRecDepth 100000

section
variable {F : Nat → Prop} {p : Nat} {E : Eg} {vv : Value} {tv : Nat → Option Nat} {G : Nat → Nat → Prop}
theorem sound_c (w : World) (H : EI w F p E vv tv G) (i k : Nat) (x : Tx) (v : Vr) (hi : i < 8) (hx : E.T[i]? = some x) (hs : x.is = true) (hv : E.V[k]? = some v) (hl : -1 ≤ v.lock) :
    Calls Try.prog 62 #[.pointer (some ⟨p, 0, none⟩), .int .i64 (i : Int), .int .i64 (k : Int)] w fun e w' => e = .returned (.int .i64 (lookR x.start (i : Int) v)) ∧ Below w.heap.size w w' := by
  obtain ⟨b, hb, rv, pv, lv, ms, HX⟩ := H.th1 i x hx hs
  obtain ⟨c0, c1, c2, c3, c4, c5⟩ := HX.cells
  obtain ⟨gv, capv, curv, rfl, hkv, hgv, hfv, hFv, v0, v1, v2⟩ := H.vr hv
  have y1 : w.cell? ⟨p, 1, none⟩ = some (.slice (some ⟨gv, 0, none⟩) E.V.length capv) := H.bk.cell 1 _ rfl
  have y2 := H.tc hi
  rw [hb, ptr_some] at y2
  have hkN := (List.getElem?_eq_some_iff.1 hv).1
  obtain ⟨N, hN⟩ : ∃ N, Hid (E.V.length = N) := ⟨_, Lib.hid rfl⟩
  rw [hN.out] at hkN y1
  have i0 : (0 : Int) ≤ (i : Int) := by omega
  have i1 : (i : Int) < 8 := by omega
  have k0 : (0 : Int) ≤ (k : Int) := by omega
  have k1 : (k : Int) < (N : Int) := by omega
  have hpl := H.bk.lt
  have hbl := HX.bk.lt
  obtain ⟨va, ve, lo⟩ := v
  obtain ⟨S, hS⟩ : ∃ S, x.start = S := ⟨_, rfl⟩
  rw [hS] at c0 ⊢
  simp only at v0 v1 v2 hl
  have hlk : lookR S (i : Int) ⟨va, ve, lo⟩ = if 0 ≤ lo ∧ lo ≠ (i : Int) then 32 else if S < ve then 33 else 0 := rfl
  rw [hlk]
  clear H HX hx hs hv hb c1 c2 c3 c4 c5 hkv hfv hFv hlk hN hS
  by_cases q1 : 0 ≤ lo
  · have q4 : (lo != -1) = true := by rw [bne_iff_ne]; omega
    by_cases q2 : lo = (i : Int)
    · subst q2
      rw [if_neg (by simp)]
      by_cases q3 : S < ve
      · rw [if_pos q3]
        go_enter Try.func62, Try.ntmps62
        go_wp2_with fail
        go_region
        go_wp2_with fail
        go_ret
        exact ⟨rfl, bnext (balloc _ _) (bdr _)⟩
      · rw [if_neg q3]
        go_enter Try.func62, Try.ntmps62
        go_wp2_with fail
        go_region
        go_wp2_with fail
        go_ret
        exact ⟨rfl, bnext (balloc _ _) (bdr _)⟩
    · rw [if_pos ⟨q1, q2⟩]
      have q3 : (lo != (i : Int)) = true := by rw [bne_iff_ne]; exact q2
      go_enter Try.func62, Try.ntmps62
      go_wp2_with fail
      go_ret
      exact ⟨rfl, balloc _ _⟩
  · rw [if_neg (by omega)]
    obtain rfl : lo = -1 := by omega
    by_cases q3 : S < ve
    · rw [if_pos q3]
      go_enter Try.func62, Try.ntmps62
      go_wp2_with fail
      go_region
      go_wp2_with fail
      go_ret
      exact ⟨rfl, bnext (balloc _ _) (bdr _)⟩
    · rw [if_neg q3]
      go_enter Try.func62, Try.ntmps62
      go_wp2_with fail
      go_region
      go_wp2_with fail
      go_ret
      exact ⟨rfl, bnext (balloc _ _) (bdr _)⟩
set_option maxHeartbeats 800000 in
theorem allSound_c (w : World) (H : EI w F p E vv tv G) (i : Nat) (x : Tx) (hi : i < 8) (hx : E.T[i]? = some x) (hs : x.is = true) (hl : ∀ v, v ∈ E.V → -1 ≤ v.lock) (hr : ∀ n, n ∈ x.reads → 0 ≤ n ∧ n < (E.V.length : Int)) (hm : x.reads.length ≤ 1000000) :
    Calls Try.prog 72 #[.pointer (some ⟨p, 0, none⟩), .int .i64 (i : Int)] w fun e w' => e = .returned (.int .i64 (validL E.V x.start (i : Int) x.reads)) ∧ Below w.heap.size w w' := by
  have HL := Lib.hid (fun w1 (h : EI w1 F p E vv tv G) j v (hv : E.V[j]? = some v) => sound_c w1 h i j x v hi hx hs hv (hl v (mem_of hv)))
  have HR := Lib.hid hr
  have HD := Lib.hid H
  obtain ⟨b, hb, rv, pv, lv, ms, HX⟩ := H.th1 i x hx hs
  have HXX := Lib.hid HX
  obtain ⟨c0, c1, c2, c3, c4, c5⟩ := HX.cells
  have y2 := H.tc hi
  rw [hb, ptr_some] at y2
  have i0 : (0 : Int) ≤ (i : Int) := by omega
  have i1 : (i : Int) < 8 := by omega
  obtain ⟨n, hn⟩ : ∃ n, Hid (x.reads.length = n) := ⟨_, Lib.hid rfl⟩
  have hnm : n ≤ 1000000 := by rw [← hn.out]; exact hm
  obtain ⟨ra, rc, hrv, _⟩ := HX.rd.val
  rw [hrv, hn.out] at c1
  have HRV := Lib.hid hrv
  clear H HX hx hm hs hb hr hl c0 c2 c3 c4 c5 hrv
  go_enter Try.func72, Try.ntmps72
  go_wp2_with fail
  go_loopg [6, 7, 18] n (fun g sv fv iv wr => ∃ j : Nat, j + g = n ∧ iv = .int .i64 (j : Int) ∧ Hid (validL E.V x.start (i : Int) x.reads = validL E.V x.start (i : Int) (x.reads.drop j)) ∧ Hid (Below w.heap.size w wr))
  case atStart => exact ⟨0, Nat.zero_add _, rfl, Lib.hid rfl, Lib.hid (Below.refl _ _)⟩
  case round =>
    obtain ⟨j, hj, rfl, HV, HB⟩ := hrel
    have HJ := Lib.hid hj
    by_cases hlt : j < n
    · obtain ⟨g', rfl⟩ : ∃ g, gk = g + 1 := ⟨gk - 1, by omega⟩
      obtain ⟨rn, hrn⟩ := getElem?_of_lt (l := x.reads) (k := j) (by rw [hn.out]; exact hlt)
      obtain ⟨br, cr, hrv, hbl, x0⟩ := own_int (HXX.out.keep HB.out).rd hrn
      rw [HRV.out, hn.out] at hrv
      injection hrv with hra _ hrc
      subst hra
      have hir := HR.out rn (mem_of hrn)
      obtain ⟨q, rfl⟩ : ∃ q : Nat, rn = (q : Int) := ⟨rn.toNat, by omega⟩
      obtain ⟨v, hv⟩ := getElem?_of_lt (l := E.V) (k := q) (by omega)
      have HVD := Lib.hid (validL_drop (S := x.start) (t := (i : Int)) hrn (by rw [Int.toNat_natCast]; exact hv))
      have HLK := Lib.hid (HL.out wr (HD.out.keep HB.out) q v hv)
      obtain ⟨lk, hlk⟩ : ∃ lk, Hid (lookR x.start (i : Int) v = lk) := ⟨_, Lib.hid rfl⟩
      rw [hlk.out] at HLK HVD
      have j0 : (0 : Int) ≤ (j : Int) := by omega
      have j1 : (j : Int) < (n : Int) := by omega
      clear hrn hir hv hrc
      by_cases h0 : lk = 0
      · subst h0
        have HN := Lib.hid (HV.out.trans (HVD.out.trans (if_pos rfl)))
        clear HVD
        go_wp2_with fail
        refine HLK.out.mono ?_
        rintro e w1 ⟨rfl, hb⟩
        have HB1 := Lib.hid (bnext HB.out hb)
        clear hb
        go_wp2_with fail
        go_roundg g'
        case rel => exact ⟨j + 1, by have := HJ.out; omega, by go_num, HN, HB1⟩
        case measure => omega
      · have HN := Lib.hid (HV.out.trans (HVD.out.trans (if_neg h0)))
        have hb0 : (lk != 0) = true := by rw [bne_iff_ne]; exact h0
        clear HVD
        go_wp2_with fail
        refine HLK.out.mono ?_
        rintro e w1 ⟨rfl, hb⟩
        have HB1 := Lib.hid (bnext HB.out hb)
        clear hb
        go_wp2_with fail
        go_ret
        exact ⟨ret_int HN.out.symm, HB1.out⟩
    · have hjn : j = n := by omega
      subst hjn
      have HN := Lib.hid (HV.out.trans (by rw [List.drop_eq_nil_of_le (by rw [hn.out]; exact Nat.le_refl _)]; rfl : _ = (0 : Int)))
      go_wp2_with fail
      go_ret
      exact ⟨ret_int HN.out.symm, HB.out⟩
theorem valid_c (w : World) (H : EI w F p E vv tv G) (h8 : E.T.length = 8) (t : Int) (hl : ∀ v, v ∈ E.V → -1 ≤ v.lock) (hr : ∀ x, x ∈ E.T → (∀ n, n ∈ x.reads → 0 ≤ n ∧ n < (E.V.length : Int)) ∧ x.reads.length ≤ 1000000) :
    Calls Try.prog 44 #[.pointer (some ⟨p, 0, none⟩), .int .i64 t] w fun e w' => e = .returned (.int .i64 (validR E t)) ∧ Below w.heap.size w w' := by
  have HO := Lib.hid (open_c w H h8 t)
  rcases who H h8 t with ⟨h1, h2, h3⟩ | ⟨i, x, b, rfl, hi, hx, hth, hs, hb, hT⟩
  · rw [h3, if_neg (by decide), ptr_none] at HO
    have hv : validR E t = 1 := by
      unfold openR at h3
      unfold validR
      cases hx : thR E t with
      | none => rfl
      | some x => rw [hx] at h3; simp only at h3 ⊢; rw [h3]; rfl
    rw [hv]
    clear H h1 h2 h3 hv hl hr
    go_enter Try.func44, Try.ntmps44
    go_wp2_with (go_at_call 60; refine HO.out.mono ?_; rintro e w1 ⟨rfl, rfl⟩)
    go_ret
    exact ⟨rfl, Below.refl _ _⟩
  · have ho : openR E (i : Int) = opn x := by unfold openR; rw [hth]
    have hv : validR E (i : Int) = if opn x then validL E.V x.start (i : Int) x.reads else 1 := by unfold validR; rw [hth]
    rw [ho, ofV_nat tv hi, hb] at HO
    rw [hv]
    have HA := Lib.hid (allSound_c w H i x hi hx hs hl (hr x (mem_of hx)).1 (hr x (mem_of hx)).2)
    obtain ⟨c, hc⟩ : ∃ c, opn x = c := ⟨_, rfl⟩
    rw [hc] at HO ⊢
    clear H hx hth hs hb hT ho hv hc hl hr
    cases c
    · rw [if_neg (by decide), ptr_none] at HO
      rw [if_neg (by decide)]
      go_enter Try.func44, Try.ntmps44
      go_wp2_with (go_at_call 60; refine HO.out.mono ?_; rintro e w1 ⟨rfl, rfl⟩)
      go_ret
      exact ⟨rfl, Below.refl _ _⟩
    · rw [if_pos rfl, ptr_some] at HO
      rw [if_pos rfl]
      go_enter Try.func44, Try.ntmps44
      go_wp2_with (first
        | (go_at_call 60; refine HO.out.mono ?_; rintro e w1 ⟨rfl, rfl⟩)
        | (go_at_call 72; refine HA.out.mono ?_; rintro e w1 ⟨rfl, hb⟩; have HB := Lib.hid hb; clear hb))
      go_ret
      exact ⟨rfl, HB.out⟩
/-- Where is a number? -/
def ixF (n : Int) : List Int → Int → Int
  | [], _ => -1
  | a :: l, k => if n = a then k else ixF n l (k + 1)
theorem ix_pos (n : Int) : ∀ (l : List Int) (k : Int), 0 ≤ k → (0 ≤ ixF n l k ↔ n ∈ l)
  | [], k, _ => by simp [ixF]
  | a :: l, k, h => by
    unfold ixF
    by_cases e : n = a
    · rw [if_pos e, e]; simp [h]
    · rw [if_neg e, ix_pos n l (k + 1) (by omega)]; simp [e]
theorem ix_drop {n a : Int} {l : List Int} {j : Nat} (h : l[j]? = some a) (k : Int) : ixF n (l.drop j) k = if n = a then k else ixF n (l.drop (j + 1)) (k + 1) := by
  have hj := List.getElem?_eq_some_iff.1 h
  rw [List.drop_eq_getElem_cons hj.1, hj.2]
  rfl
theorem index_c (w : World) (v : Value) (l : List Int) (hv : RowI w v l) (hm : l.length ≤ 1000000) (n : Int) :
    Calls Try.prog 76 #[v, .int .i64 n] w fun e w' => e = .returned (.int .i64 (ixF n l 0)) ∧ w' = w := by
  obtain ⟨ao, cap, rfl, hc, hrow⟩ := row_has hv
  obtain ⟨N, hN⟩ : ∃ N, Hid (l.length = N) := ⟨_, Lib.hid rfl⟩
  have hnm : N ≤ 1000000 := by rw [← hN.out]; exact hm
  have HR := Lib.hid hrow
  rw [hN.out]
  clear hv hc hrow hm
  go_enter Try.func76, Try.ntmps76
  go_wp2_with fail
  go_loopg [5, 8] N (fun g sv iv wr => ∃ j : Nat, j + g = N ∧ iv = .int .i64 (j : Int) ∧ Hid (ixF n l 0 = ixF n (l.drop j) (j : Int)) ∧ wr = w)
  case atStart => exact ⟨0, Nat.zero_add _, rfl, Lib.hid rfl, rfl⟩
  case round =>
    obtain ⟨j, hj, rfl, HV, rfl⟩ := hrel
    have HJ := Lib.hid hj
    by_cases hlt : j < N
    · obtain ⟨g', rfl⟩ : ∃ g, gk = g + 1 := ⟨gk - 1, by omega⟩
      have hjl : j < l.length := by rw [hN.out]; exact hlt
      have HVD := Lib.hid (ix_drop (n := n) (List.getElem?_eq_getElem hjl) (j : Int))
      obtain ⟨b, off, rfl, hbl, hcell⟩ : ∃ b off, ao = some ⟨b, off, none⟩ ∧ b < wr.heap.size ∧ ∀ j (h : j < l.length), wr.cell? ⟨b, off + j, none⟩ = some (.int .i64 l[j]) := by
        rcases HR.out with h | h
        · rw [h] at hjl; cases hjl
        · exact h
      have x0 := hcell j hjl
      obtain ⟨a, ha⟩ : ∃ a, Hid (l[j] = a) := ⟨_, Lib.hid rfl⟩
      rw [ha.out] at x0 HVD
      have j0 : (0 : Int) ≤ (j : Int) := by omega
      have j1 : (j : Int) < (N : Int) := by omega
      clear hcell
      by_cases h0 : n = a
      · have HN := Lib.hid (HV.out.trans (HVD.out.trans (if_pos h0)))
        subst h0
        clear HVD
        go_wp2_with fail
        go_ret
        exact ⟨ret_int HN.out.symm, rfl⟩
      · have HN := Lib.hid (HV.out.trans (HVD.out.trans (if_neg h0)))
        have hb0 : (n == a) = false := by rw [beq_eq_false_iff_ne]; exact h0
        clear HVD
        go_wp2_with fail
        go_roundg g'
        case rel => exact ⟨j + 1, by have := HJ.out; omega, by go_num, Lib.hid (by rw [HN.out]; congr 1), rfl⟩
        case measure => omega
    · have hjn : j = N := by omega
      subst hjn
      have HN := Lib.hid (HV.out.trans (by rw [List.drop_eq_nil_of_le (by rw [hN.out]; exact Nat.le_refl _)]; rfl : _ = (-1 : Int)))
      go_wp2_with fail
      go_ret
      exact ⟨ret_int HN.out.symm, rfl⟩
theorem contains_c (w : World) (v : Value) (l : List Int) (hv : RowI w v l) (hm : l.length ≤ 1000000) (n : Int) :
    Calls Try.prog 63 #[v, .int .i64 n] w fun e w' => e = .returned (.bool (decide (n ∈ l))) ∧ w' = w := by
  have HI := Lib.hid (index_c w v l hv hm n)
  have hp := ix_pos n l 0 (Int.le_refl _)
  obtain ⟨k, hk⟩ : ∃ k, ixF n l 0 = k := ⟨_, rfl⟩
  rw [hk] at HI hp
  have hone := hv.one
  by_cases h : n ∈ l
  · have h0 := hp.2 h
    rw [decide_eq_true h]
    clear hp hv hm h hk
    go_enter Try.func63, Try.ntmps63
    go_wp2_with (go_at_call 76; refine HI.out.mono ?_; rintro e w1 ⟨rfl, rfl⟩)
    go_ret
    exact ⟨rfl, rfl⟩
  · have h0 : ¬ 0 ≤ k := fun e => h (hp.1 e)
    rw [decide_eq_false h]
    clear hp hv hm h hk
    go_enter Try.func63, Try.ntmps63
    go_wp2_with (go_at_call 76; refine HI.out.mono ?_; rintro e w1 ⟨rfl, rfl⟩)
    go_ret
    exact ⟨ret_bool (decide_eq_false (by omega)), rfl⟩
end
end Go.Proofs.Ytjoifodjbdbicaa.PE

/- The program's engine: what a turned transaction leaves; Part, Begin. -/
namespace Go.Proofs.Ytjoifodjbdbicaa.PF
open Go.RowKit Go.Proofs.Ytjoifodjbdbicaa.RG Go.Proofs.Ytjoifodjbdbicaa.RB Go.Proofs.Ytjoifodjbdbicaa.RI Go.Proofs.Ytjoifodjbdbicaa.RM Go.Proofs.Ytjoifodjbdbicaa.UA Go.Proofs.Ytjoifodjbdbicaa.UB Go.Proofs.Ytjoifodjbdbicaa.UD Go.Proofs.Ytjoifodjbdbicaa.UE Go.Proofs.Ytjoifodjbdbicaa.UH Go.Proofs.Ytjoifodjbdbicaa.UI Go.Proofs.Ytjoifodjbdbicaa.PA Go.Proofs.Ytjoifodjbdbicaa.PB Go.Proofs.Ytjoifodjbdbicaa.PC Go.Proofs.Ytjoifodjbdbicaa.PD Go.Proofs.Ytjoifodjbdbicaa.PE
set_option linter.unusedVariables false
set_option maxRecDepth 100000
set_option maxRecDepth 100000

section
variable {w w' : World} {F S : Nat → Prop} {p : Nat} {E : Eg} {vv : Value} {tv tv' : Nat → Option Nat} {G : Nat → Nat → Prop}
/-- A thread's blocks behind a step. -/
def Gx (G : Nat → Nat → Prop) (i : Nat) (w w' : World) : Nat → Nat → Prop := fun j => if j = i then Fx (G i) w w' else G j
theorem gx_same (G : Nat → Nat → Prop) (i : Nat) (w w' : World) : Gx G i w w' i = Fx (G i) w w' := if_pos rfl
theorem gx_other (G : Nat → Nat → Prop) {i j : Nat} (h : j ≠ i) (w w' : World) : Gx G i w w' j = G j := if_neg h
theorem ei_gen (H : EI w F p E vv tv G) {i : Nat} {x x' : Tx} {V : List Vr} {c : Int} (hx : E.T[i]? = some x) (ho : OnS S w w') (hS : ∀ b, b < w.heap.size → S b → b = p ∨ vv.ownBlock = some b ∨ G i b) (hbk : Bk w' p (ecells c vv tv') 83) (hvs : OwnF TVp w' vv V) (htv : ∀ j, j ≠ i → tv' j = tv j)
    (h0 : x'.is = false → tv' i = none ∧ x' = tx0) (h1 : x'.is = true → ∃ b, tv' i = some b ∧ TD w' (Fx (G i) w w') b x' (lftR V (i : Int) x')) (hlf : ∀ (j : Nat) (y : Tx), j ≠ i → E.T[j]? = some y → y.is = true → lftR V (j : Int) y = lftR E.V (j : Int) y) :
    EI w' (Fx F w w') p { setT E (i : Int) x' with V := V, clock := c } vv tv' (Gx G i w w') := by
  have hnew : ∀ {b}, w.heap.size ≤ b → b ≠ p ∧ vv.ownBlock ≠ some b := fun {b} h => ⟨fun e => by have := H.bk.lt; omega, fun e => by have := (H.vs.own e).2; omega⟩
  have hT : ∀ (j : Nat) (y : Tx), (E.T.set i x')[j]? = some y → (j = i ∧ y = x') ∨ (j ≠ i ∧ E.T[j]? = some y) := fun j y hy => by
    rw [List.getElem?_set] at hy
    split at hy
    · next e =>
      split at hy
      · injection hy with hy; exact .inl ⟨e.symm, hy.symm⟩
      · cases hy
    · next e => exact .inr ⟨fun k => e k.symm, hy⟩
  have hset : setT E (i : Int) x' = { E with T := E.T.set i x' } := by unfold setT; rw [Int.toNat_natCast]
  refine ⟨hbk, hvs, fun j y hy hi => ?_, fun j y hy hi => ?_, fun j k b hne g1 g2 => ?_, fun j b h => ?_, fun j b h => ?_, .inl H.own, fun b e => .inl (H.inv b e), fun b h => ?_⟩
  · rw [hset] at hy
    rcases hT j y hy with ⟨rfl, rfl⟩ | ⟨h2, h3⟩
    · exact h0 hi
    · rw [htv j h2]; exact H.th0 j y h3 hi
  · rw [hset] at hy
    rcases hT j y hy with ⟨rfl, rfl⟩ | ⟨h2, h3⟩
    · rw [gx_same]; exact h1 hi
    · rw [htv j h2, gx_other G h2]
      obtain ⟨b, h4, h5⟩ := H.th1 j y h3 hi
      refine ⟨b, h4, ?_⟩
      rw [show lftR V (j : Int) y = lftR E.V (j : Int) y from hlf j y h2 h3 hi]
      exact h5.on ho fun k hk hs => by
        rcases hS k (H.lt k (H.gf j k hk)) hs with e | e | e
        · exact (H.gp j k hk).1 e
        · exact (H.gp j k hk).2 e
        · exact H.ap j i k h2 hk e
  · unfold Gx at g1 g2
    split at g1
    · next e =>
      subst e
      rw [if_neg (fun e => hne e.symm)] at g2
      rcases g1 with g1 | g1
      · exact H.ap j k b hne g1 g2
      · have := H.lt b (H.gf k b g2); omega
    · next e =>
      split at g2
      · next e2 =>
        subst e2
        rcases g2 with g2 | g2
        · exact H.ap j k b hne g1 g2
        · have := H.lt b (H.gf j b g1); omega
      · exact H.ap j k b hne g1 g2
  · unfold Gx at h
    split at h
    · rcases h with h | h
      · exact .inl (H.gf i b h)
      · exact .inr h
    · exact .inl (H.gf j b h)
  · unfold Gx at h
    split at h
    · rcases h with h | h
      · exact H.gp i b h
      · exact hnew h.1
    · exact H.gp j b h
  · rcases h with h | h
    · exact Nat.lt_of_lt_of_le (H.lt b h) ho.size
    · exact h.2
/-- A transaction turned, in its own blocks and new ones. -/
theorem ei_upd (H : EI w F p E vv tv G) {i : Nat} {x x' : Tx} {b : Nat} (hx : E.T[i]? = some x) (hb : tv i = some b) (hi : x'.is = true) (ho : OnS S w w') (hS : ∀ c, c < w.heap.size → S c → G i c) (hT : TD w' (Fx (G i) w w') b x' (lftR E.V (i : Int) x')) : EI w' (Fx F w w') p (setT E (i : Int) x') vv tv (Gx G i w w') :=
  ei_gen (V := E.V) (c := E.clock) H hx ho (fun c h1 h2 => .inr (.inr (hS c h1 h2))) (ho.bk H.bk fun h => (H.gp i p (hS p H.bk.lt h)).1 rfl) (ownF_on H.vs ho fun c e h => (H.gp i c (hS c (H.vs.own e).2 h)).2 e) (fun _ _ => rfl) (fun h => by rw [hi] at h; cases h) (fun _ => ⟨b, hb, hT⟩) (fun _ _ _ _ _ => rfl)
theorem gr_ei (F : Nat → Prop) (w w' : World) : Gr w F (Fx F w w') := gr_fx F w w'
/-- What was not committed has nothing left. -/
theorem lft_open {V : List Vr} {i : Int} {x : Tx} (h1 : ¬ 0 < x.stamp) (h2 : x.commits = false) : lftR V i x = [] := by
  unfold lftR
  rw [if_neg h1, if_neg (by rw [h2]; decide)]
theorem part_c (w : World) (H : EI w F p E vv tv G) (h8 : E.T.length = 8) (t : Int) (hst : ∀ x, x ∈ E.T → opn x = true → ¬ 0 < x.stamp) (hp : ∀ x, x ∈ E.T → (∀ q, q ∈ x.puts → q.part ≤ x.parts) ∧ x.parts ≤ 1000000) :
    Calls Try.prog 30 #[.pointer (some ⟨p, 0, none⟩), .int .i64 t] w fun e w' => e = .returned (.int .i64 (partR E t).2) ∧ OnS F w w' ∧ ∃ F' G', EI w' F' p (partR E t).1 vv tv G' ∧ Gr w F F' := by
  have HO := Lib.hid (open_c w H h8 t)
  have HH := Lib.hid H
  by_cases ho : openR E t = true
  · rcases who H h8 t with ⟨h1, h2, h3⟩ | ⟨i, x, b, rfl, hi, hx, hth, hs, hb, rv, pv, lv, ms, HX⟩
    · rw [h3] at ho; cases ho
    have hop : opn x = true := by unfold openR at ho; rw [hth] at ho; exact ho
    have hr : partR E (i : Int) = (setT E (i : Int) { x with parts := x.parts + 1 }, 0) := by unfold partR; rw [hth]; exact if_pos hop
    rw [hr]
    rw [if_pos ho, ofV_nat tv hi, hb, ptr_some] at HO
    have HS := Lib.hid (hst x (mem_of hx) hop)
    have hc : x.commits = false := by unfold opn at hop; cases h : x.commits <;> simp [h] at hop ⊢
    have HP := Lib.hid (hp x (mem_of hx))
    have HXX := Lib.hid HX
    have HXI := Lib.hid hx
    have HB := Lib.hid hb
    have HSI := Lib.hid hs
    have HC := Lib.hid hc
    have HLF := Lib.hid (show lftR E.V (i : Int) { x with parts := x.parts + 1 } = lftR E.V (i : Int) x by rw [lft_open (x := { x with parts := x.parts + 1 }) HS.out HC.out, lft_open HS.out HC.out])
    have hmm := @run_makeMap Try.prog
    have hml : (ms.map (·.1)).length + [w.heap.size].length ≤ 100000000000 := by
      have h1 := HX.np
      have h2 := HP.out.2
      rw [List.length_map, List.length_singleton]
      omega
    have HLN := Lib.hid hml
    obtain ⟨w1, hw1⟩ : ∃ w1, w.alloc (.map #[] 0) = w1 := ⟨_, rfl⟩
    have HB1 := Lib.hid (show Below w.heap.size w w1 from hw1 ▸ balloc w _)
    have HM1 := Lib.hid (show MapB w1 w.heap.size [] from hw1 ▸ MapB.new w)
    have hz1 : w1.heap.size = w.heap.size + 1 := by rw [← hw1]; exact World.size_alloc _ _
    obtain ⟨w2, hw2⟩ : ∃ w2, w1.alloc (.cells #[.map (some w.heap.size)] 88) = w2 := ⟨_, rfl⟩
    have HB2 := Lib.hid (bnext HB1.out (hw2 ▸ balloc w1 _ : Below w1.heap.size w1 w2))
    have HR2 := Lib.hid (show RowR TMp w2 (fun b => Nobody b ∧ pv.ownBlock ≠ some b) (.slice (some ⟨w.heap.size + 1, 0, none⟩) 1 1) [w.heap.size] from hz1 ▸ hw2 ▸ rowR_new (R := TMp) (q := []) #[.map (some w.heap.size)] 88 rfl rfl)
    have HX2 := Lib.hid (HX.keep HB2.out)
    have HM2 := Lib.hid (HM1.out.keep (hw2 ▸ balloc w1 _ : Below w1.heap.size w1 w2))
    obtain ⟨pa, pc, hpv, _⟩ := HX.pt.val
    have HPV := Lib.hid hpv
    obtain ⟨K, hK⟩ : ∃ K, Hid ((ms.map (·.1)).length = K) := ⟨_, Lib.hid rfl⟩
    rw [hK.out] at hpv
    obtain ⟨c0, c1, c2, c3, c4, c5⟩ := HX.cells
    rw [hpv] at c2
    obtain ⟨d0, d1, d2, d3, d4, d5⟩ := HX2.out.cells
    rw [hpv] at d2
    have HD2 := Lib.hid d2
    have hbl := HX.bk.lt
    clear hr ho hop hth hx hs hc hp hst HX H hml hb d0 d1 d2 d3 d4 d5 c0 c1 c3 c4 c5
    go_enter Try.func30, Try.ntmps30
    go_wp2_with (first
      | (go_at_call 60; refine HO.out.mono ?_; rintro e w9 ⟨rfl, hw9⟩; subst w9)
      | (at_builtin; go_loud (refine wpList_row TMp w2 rfl (.tmp 15) (.tmp 17) rfl 0 Nobody (.slice pa K pc) (.slice (some ⟨w.heap.size + 1, 0, none⟩) 1 1) (ms.map (·.1)) [w.heap.size] rfl rfl (by rw [← hpv]; exact HX2.out.pt) (by rw [← hpv]; exact HR2.out) HLN.out (Nat.zero_le _) ?_); intro ao6 n6 cap6 w6 hO6 hn6 hg6 ha6; obtain rfl : n6 = K + 1 := (by rw [hn6, hK.out]; rfl); clear hn6; rw [← hpv] at hg6 ha6; have HO6 := Lib.hid hO6; have HG6 := Lib.hid hg6; have HA6 := Lib.hid ha6; have h6 := (HX2.out.pv (ons_grown hg6)).1; have f6 := h6.free 2; have r6 : w6.cell? ⟨b, 2, none⟩ = some (.slice pa K pc) := (by rw [← hpv]; exact h6.cell 2 _ rfl); have l6 := h6.lt; clear hO6 hg6 ha6 h6))
    go_ret
    obtain ⟨k6, d6, l6', m6, q6⟩ := HX2.out.pv (ons_grown HG6.out)
    have hnp : ∀ c, pv.ownBlock = some c → c ≠ w.heap.size := fun c hc e => by have := (HXX.out.pt.own hc).2; omega
    have hm6 : MapB w6 w.heap.size [] := HM2.out.grown HG6.out (fun e => hnp _ e.symm rfl)
    have hT6 : TC w6 b (txc x rv pv lv) x.reads (lftR E.V (i : Int) x) rv (.slice ao6 (K + 1) cap6) lv (ms ++ [(w.heap.size, [])]) := ⟨k6, d6, by rw [List.map_append]; exact HO6.out, l6', fun m hm => by
      rcases List.mem_append.1 hm with hm | hm
      · exact m6 m hm
      · rw [List.mem_singleton.1 hm]; exact hm6, q6⟩
    have hT7 := hT6.wr 2 (.slice ao6 (K + 1) cap6)
    have hon : OnS (fun c => pv.ownBlock = some c ∨ c = b) w (w6.setCell ⟨b, 2, none⟩ (.slice ao6 (K + 1) cap6)) := (OnS.of HB2.out).trans (((ons_grown HG6.out).weak fun c _ h => .inl h).trans ((OnS.cell b 2 _).weak fun c _ h => .inr h))
    have hsub : ∀ c, (pv.ownBlock = some c ∨ c = b) → G i c := fun c h => by
      rcases h with h | h
      · exact HXX.out.inp c h
      · rw [h]; exact HXX.out.inb
    have hsz : (w6.setCell ⟨b, 2, none⟩ (.slice ao6 (K + 1) cap6)).heap.size = w6.heap.size := World.size_setCell _ _ _
    have hs2 := HB2.out.size
    have hz2 : w2.heap.size = w.heap.size + 2 := by rw [← hw2, World.size_alloc, hz1]
    have hs6 := HG6.out.size
    have hX7 : TX (w6.setCell ⟨b, 2, none⟩ (.slice ao6 (K + 1) cap6)) (Fx (G i) w (w6.setCell ⟨b, 2, none⟩ (.slice ao6 (K + 1) cap6))) b { x with parts := x.parts + 1 } (lftR E.V (i : Int) x) rv (.slice ao6 (K + 1) cap6) lv (ms ++ [(w.heap.size, [])]) :=
      TC.tx (x := { x with parts := x.parts + 1 }) hT7 (by rw [List.length_append]; have := HXX.out.np; show ((ms.length + 1 : Nat) : Int) = x.parts + 1; omega) (fun k m hm => by
        rw [List.getElem?_append] at hm
        split at hm
        · exact HXX.out.isp k m hm
        · have hk : k - ms.length = 0 := by
            rcases Nat.eq_zero_or_pos (k - ms.length) with h | h
            · exact h
            · rw [List.getElem?_eq_none (by simp; omega)] at hm; cases hm
          rw [hk] at hm
          injection hm with hm
          subst hm
          have := HXX.out.np
          exact isP_nil fun q hq e => by have := HP.out.1 q hq; omega) (by
        rw [List.map_append, List.nodup_append]
        exact ⟨HXX.out.nd, by simp, fun a ha c hc e => by
          obtain ⟨m, hm, rfl⟩ := List.mem_map.1 ha
          have h1 := (HXX.out.mp m hm).lt
          have h2 : c = w.heap.size := by simpa using hc
          omega⟩) HXX.out.ne (.inl HXX.out.inb) (fun c h => .inl (HXX.out.inr c h)) (fun c h => by
        rcases HA6.out with e | e
        · exact .inl (HXX.out.inp c (e ▸ h))
        · rw [e] at h
          injection h with h
          have := (hT7.pt.own (b := c) (by rw [e, h])).2
          exact .inr ⟨by omega, this⟩) (fun c h => .inl (HXX.out.inl c h)) (fun m hm => by
        rcases List.mem_append.1 hm with hm | hm
        · exact .inl (HXX.out.inm m hm)
        · rw [List.mem_singleton.1 hm]; exact .inr ⟨Nat.le_refl _, by rw [hsz]; show w.heap.size < _; omega⟩) (fun c h => by
        rcases h with h | h
        · exact Nat.lt_of_lt_of_le (HXX.out.lt c h) hon.size
        · exact h.2)
    exact ⟨rfl, hon.weak fun c _ h => HH.out.gf i c (hsub c h), _, _, ei_upd (x' := { x with parts := x.parts + 1 }) HH.out HXI.out HB.out HSI.out hon (fun c _ h => hsub c h) ⟨rv, _, lv, _, HLF.out.symm ▸ hX7⟩, gr_ei _ _ _⟩
  · have hr : partR E t = (E, 1) := by
      unfold partR
      unfold openR at ho
      cases h1 : thR E t with
      | none => rfl
      | some x => rw [h1] at ho; exact if_neg ho
    rw [hr]
    rw [if_neg ho, ptr_none] at HO
    clear hr ho H hp hst
    go_enter Try.func30, Try.ntmps30
    go_wp2_with (go_at_call 60; refine HO.out.mono ?_; rintro e w1 ⟨rfl, rfl⟩)
    go_ret
    exact ⟨rfl, OnS.refl _ _, F, G, HH.out, Gr.refl _ _⟩
end
end Go.Proofs.Ytjoifodjbdbicaa.PF

/- The program's engine: New, Make, Begin. -/
namespace Go.Proofs.Ytjoifodjbdbicaa.PG
open Go.RowKit Go.Proofs.Ytjoifodjbdbicaa.RG Go.Proofs.Ytjoifodjbdbicaa.RB Go.Proofs.Ytjoifodjbdbicaa.RI Go.Proofs.Ytjoifodjbdbicaa.RM Go.Proofs.Ytjoifodjbdbicaa.UA Go.Proofs.Ytjoifodjbdbicaa.UB Go.Proofs.Ytjoifodjbdbicaa.UD Go.Proofs.Ytjoifodjbdbicaa.UE Go.Proofs.Ytjoifodjbdbicaa.UH Go.Proofs.Ytjoifodjbdbicaa.UI Go.Proofs.Ytjoifodjbdbicaa.PA Go.Proofs.Ytjoifodjbdbicaa.PB Go.Proofs.Ytjoifodjbdbicaa.PC Go.Proofs.Ytjoifodjbdbicaa.PD Go.Proofs.Ytjoifodjbdbicaa.PE Go.Proofs.Ytjoifodjbdbicaa.PF
set_option linter.unusedVariables false
set_option maxRecDepth 100000
set_option maxRecDepth 100000

section
variable {F : Nat → Prop} {p : Nat} {E : Eg} {vv : Value} {tv : Nat → Option Nat} {G : Nat → Nat → Prop}
theorem new_c (w : World) : Calls Try.prog 35 #[] w fun e w' => ∃ p F G, e = .returned (.pointer (some ⟨p, 0, none⟩)) ∧ EI w' F p newR (.slice none 0 0) (fun _ => none) G ∧ (∀ b, F b → w.heap.size ≤ b) ∧ Below w.heap.size w w' := by
  have HK : Hid (Bk (w.alloc (.cells #[.int .i64 0, .slice none 0 0, .pointer none, .pointer none, .pointer none, .pointer none, .pointer none, .pointer none, .pointer none, .pointer none] 83)) w.heap.size #[.int .i64 0, .slice none 0 0, .pointer none, .pointer none, .pointer none, .pointer none, .pointer none, .pointer none, .pointer none, .pointer none] 83) := Lib.hid (Bk.new w _ _)
  go_enter Try.func35, Try.ntmps35
  go_wp2_with fail
  go_ret
  have hT : ∀ (i : Nat) (x : Tx), newR.T[i]? = some x → x = tx0 := fun i x h => List.eq_of_mem_replicate (mem_of (show (List.replicate 8 tx0)[i]? = some x from h))
  refine ⟨w.heap.size, fun b => b = w.heap.size, fun _ _ => False, rfl, ⟨HK.out, OwnR.nil _ _ _, fun i x h _ => ⟨rfl, hT i x h⟩, fun i x h hi => ?_, fun _ _ _ _ h => h.elim, fun _ _ h => h.elim, fun _ _ h => h.elim, rfl, (fun c h => by cases h), fun c h => ?_⟩, fun b h => by rw [h]; exact Nat.le_refl _, balloc _ _⟩
  · rw [hT i x h] at hi; cases hi
  · rw [h, World.size_alloc]; omega
/-- One var more, free: nothing is left otherwise. -/
theorem lft_snoc {V : List Vr} {i : Int} {x : Tx} (v : Vr) (h : ∀ q, q ∈ x.puts → 0 ≤ q.n ∧ q.n < (V.length : Int)) : lftR (V ++ [v]) i x = lftR V i x := by
  unfold lftR
  split
  · rfl
  · split
    · congr 1
      apply List.filter_congr
      intro q hq
      have := h q (Go.Proofs.Ytjoifodjbdbicaa.UG.sortR_mem hq).1
      rw [List.getElem?_append_left (by omega)]
    · rfl
set_option maxHeartbeats 800000 in
theorem make_c (w : World) (H : EI w F p E vv tv G) (hv : E.V.length ≤ 4000) (hin : ∀ x, x ∈ E.T → ∀ q, q ∈ x.puts → 0 ≤ q.n ∧ q.n < (E.V.length : Int)) (v : Int) :
    Calls Try.prog 37 #[.pointer (some ⟨p, 0, none⟩), .int .i64 v] w fun e w' => e = .returned (.tuple #[.int .i64 (makeR E v).2.1, .int .i64 (makeR E v).2.2]) ∧ OnS F w w' ∧ ∃ F', (∃ vv', EI w' F' p (makeR E v).1 vv' tv G) ∧ Gr w F F' := by
  have HH := Lib.hid H
  obtain ⟨va, vc, rfl, _⟩ := H.vs.val
  obtain ⟨N, hN⟩ : ∃ N, Hid (E.V.length = N) := ⟨_, Lib.hid rfl⟩
  have y1 : w.cell? ⟨p, 1, none⟩ = some (.slice va E.V.length vc) := H.bk.cell 1 _ rfl
  rw [hN.out] at y1
  by_cases h4 : N = 4000
  · have hr : makeR E v = (E, 0, 16) := by unfold makeR; rw [if_pos (by rw [hN.out]; exact h4)]
    rw [hr]
    have h5 : (N : Int) ≥ 4000 := by omega
    clear hr H hv hN hin
    subst h4
    go_enter Try.func37, Try.ntmps37
    go_wp2_with fail
    go_ret2
    exact ⟨rfl, OnS.refl _ _, F, ⟨_, HH.out⟩, Gr.refl _ _⟩
  · have hr : makeR E v = ({ E with V := E.V ++ [(⟨v, 0, -1⟩ : Vr)] }, (E.V.length : Int), 0) := by unfold makeR; rw [if_neg (by rw [hN.out]; exact h4)]
    rw [hr]
    have h5 : ¬ (N : Int) ≥ 4000 := by have := hN.out; omega
    have hbl := H.bk.lt
    have HOA := Lib.hid (ownF_on H.vs (OnS.none (balloc w (.cells #[.int .i64 v, .int .i64 0, .int .i64 (-1)] 86))) (fun _ _ h => h))
    have HR := Lib.hid (show RowR TVp (w.alloc (.cells #[.int .i64 v, .int .i64 0, .int .i64 (-1)] 86)) (fun b => Nobody b ∧ (Value.slice va E.V.length vc).ownBlock ≠ some b) (.slice (some ⟨w.heap.size, 0, none⟩) 1 1) [(⟨v, 0, -1⟩ : Vr)] from rowR_new (R := TVp) (q := []) #[.int .i64 v, .int .i64 0, .int .i64 (-1)] 86 rfl rfl)
    have HLN := Lib.hid (show E.V.length + [(⟨v, 0, -1⟩ : Vr)].length ≤ 100000000000 by rw [List.length_singleton]; omega)
    have HBA := Lib.hid (balloc w (.cells #[.int .i64 v, .int .i64 0, .int .i64 (-1)] 86))
    have HI := Lib.hid hin
    have HNE := Lib.hid (show (some p : Option Nat) ≠ (Value.slice va E.V.length vc).ownBlock from fun e => HH.out.vne e.symm)
    rw [hN.out] at HOA HR
    clear hr H hv hin
    go_enter Try.func37, Try.ntmps37
    go_wp2_with (at_builtin; go_loud (refine wpList_row TVp (w.alloc (.cells #[.int .i64 v, .int .i64 0, .int .i64 (-1)] 86)) rfl (.tmp 18) (.tmp 21) rfl 0 Nobody (.slice va N vc) (.slice (some ⟨w.heap.size, 0, none⟩) 1 1) E.V [(⟨v, 0, -1⟩ : Vr)] rfl rfl HOA.out HR.out HLN.out (Nat.zero_le _) ?_); intro ao6 n6 cap6 w6 hO6 hn6 hg6 ha6; obtain rfl : n6 = N + 1 := (by rw [hn6, hN.out]; rfl); clear hn6; have HO6 := Lib.hid hO6; have HG6 := Lib.hid hg6; have HA6 := Lib.hid ha6; have h6 := (HH.out.bk.keep HBA.out).grown hg6 (fun e => HNE.out (by rw [hN.out]; exact e.symm)); have HK6 := Lib.hid h6; have f6 := h6.free 1; have r6 : w6.cell? ⟨p, 1, none⟩ = some (.slice va N vc) := (by have := h6.cell 1 _ rfl; rw [hN.out] at this; exact this); have l6 := h6.lt; clear hO6 hg6 ha6 h6)
    go_ret2
    have hon : OnS (fun c => (Value.slice va N vc).ownBlock = some c ∨ c = p) w (w6.setCell ⟨p, 1, none⟩ (.slice ao6 (N + 1) cap6)) := (OnS.of HBA.out).trans (((ons_grown HG6.out).weak fun c _ h => .inl h).trans ((OnS.cell p 1 _).weak fun c _ h => .inr h))
    have hv0 : ∀ c, (Value.slice va N vc).ownBlock = some c → (Value.slice va E.V.length vc).ownBlock = some c := fun c h => by rw [hN.out]; exact h
    have hsub : ∀ c, (Value.slice va N vc).ownBlock = some c ∨ c = p → F c := fun c h => by
      rcases h with h | h
      · exact HH.out.inv c (hv0 c h)
      · rw [h]; exact HH.out.own
    have hnew : ∀ c, (Value.slice ao6 (N + 1) cap6).ownBlock = some c → (Value.slice va E.V.length vc).ownBlock = some c ∨ (w.heap.size ≤ c ∧ c < (w6.setCell ⟨p, 1, none⟩ (.slice ao6 (N + 1) cap6)).heap.size) := fun c h => by
      rcases HA6.out with e | e
      · exact .inl (hv0 c (by rw [← e]; exact h))
      · have h1 := (HO6.out.own h).2
        rw [e] at h
        injection h with h
        have := HBA.out.size
        exact .inr ⟨by omega, by rw [World.size_setCell]; exact h1⟩
    refine ⟨by rw [hN.out]; rfl, hon.weak fun c _ h => hsub c h, Fx F w (w6.setCell ⟨p, 1, none⟩ (.slice ao6 (N + 1) cap6)), ⟨.slice ao6 (N + 1) cap6, ⟨HK6.out.set 1 (.slice ao6 (N + 1) cap6), ownF_wr HO6.out HK6.out (by decide) 1 _, HH.out.th0, fun i x hx hi => ?_, HH.out.ap, fun i c h => .inl (HH.out.gf i c h), fun i c h => ⟨(HH.out.gp i c h).1, fun e => ?_⟩, .inl HH.out.own, fun c e => ?_, fun c h => ?_⟩⟩, gr_fx _ _ _⟩
    · obtain ⟨b, h1, h2⟩ := HH.out.th1 i x hx hi
      refine ⟨b, h1, ?_⟩
      rw [show lftR (E.V ++ [(⟨v, 0, -1⟩ : Vr)]) (i : Int) x = lftR E.V (i : Int) x from lft_snoc _ (HI.out x (mem_of hx))]
      exact h2.on hon fun c hc hs => by
        rcases hs with hs | hs
        · exact (HH.out.gp i c hc).2 (hv0 c hs)
        · exact (HH.out.gp i c hc).1 hs
    · rcases hnew c e with e | e
      · exact (HH.out.gp i c h).2 e
      · have := HH.out.lt c (HH.out.gf i c h); omega
    · rcases hnew c e with e | e
      · exact .inl (HH.out.inv c e)
      · exact .inr e
    · rcases h with h | h
      · exact Nat.lt_of_lt_of_le (HH.out.lt c h) hon.size
      · exact h.2
set_option maxHeartbeats 800000 in
theorem begin_c (w : World) (H : EI w F p E vv tv G) (h8 : E.T.length = 8) (t : Int) (hst : ∀ x, x ∈ E.T → opn x = true → ¬ 0 < x.stamp) (hp : ∀ x, x ∈ E.T → (∀ q, q ∈ x.puts → q.part ≤ x.parts) ∧ x.parts ≤ 1000000) :
    Calls Try.prog 27 #[.pointer (some ⟨p, 0, none⟩), .int .i64 t] w fun e w' => e = .returned (.int .i64 (beginR E t).2) ∧ OnS F w w' ∧ ∃ F' tv' G', EI w' F' p (beginR E t).1 vv tv' G' ∧ Gr w F F' := by
  have HT := Lib.hid (isThread_c w t)
  have HA := Lib.hid (active_c w H h8 t)
  have HH := Lib.hid H
  rcases thR_cases E h8 t with ⟨hn, h1⟩ | ⟨i, x, rfl, hi, hx, hth⟩
  · have hr : beginR E t = (E, 1) := by unfold beginR; rw [hn]
    rw [hr]
    rw [decide_eq_false (by omega)] at HT
    clear hr H hn h1 hst hp HA
    go_enter Try.func27, Try.ntmps27
    go_wp2_with (go_at_call 59; refine HT.out.mono ?_; rintro e w9 ⟨rfl, hw9⟩; subst w9)
    go_ret
    exact ⟨rfl, OnS.refl _ _, F, tv, G, HH.out, Gr.refl _ _⟩
  · rw [decide_eq_true (by omega)] at HT
    cases hs : x.is with
    | true =>
      have hr : beginR E (i : Int) = (E, 1) := by unfold beginR; rw [hth]; exact if_pos hs
      have ha : hasR E (i : Int) = true := by unfold hasR; rw [hth]; exact hs
      rw [hr]
      rw [ha] at HA
      clear hr H hth hx hst hp hs ha
      go_enter Try.func27, Try.ntmps27
      go_wp2_with (first
        | (go_at_call 59; refine HT.out.mono ?_; rintro e w9 ⟨rfl, hw9⟩; subst w9)
        | (go_at_call 23; refine HA.out.mono ?_; rintro e w9 ⟨rfl, hw9⟩; subst w9))
      go_ret
      exact ⟨rfl, OnS.refl _ _, F, tv, G, HH.out, Gr.refl _ _⟩
    | false =>
      have ha : hasR E (i : Int) = false := by unfold hasR; rw [hth]; exact hs
      rw [ha] at HA
      obtain ⟨x0, hx0⟩ : ∃ x0 : Tx, x0 = { tx1 E.clock with parts := 0 } := ⟨_, rfl⟩
      have hr : beginR E (i : Int) = partR (setT E (i : Int) x0) (i : Int) := by
        have h1 : thR (setT E (i : Int) x0) (i : Int) = some x0 := by rw [thR_nat]; show (E.T.set ((i : Int).toNat) x0)[i]? = _; rw [Int.toNat_natCast]; exact set_some hx
        unfold partR
        rw [h1, hx0]
        unfold beginR
        rw [hth]
        show (if x.is = true then (E, (1 : Int)) else _) = _
        rw [if_neg (by rw [hs]; decide)]
        show _ = (setT (setT E (i : Int) _) (i : Int) (tx1 E.clock), (0 : Int))
        unfold setT
        rw [List.set_set]
      rw [hr]
      have y0 : w.drew.cell? ⟨p, 0, none⟩ = some (.int .i64 E.clock) := H.bk.cell 0 _ rfl
      have y2 := H.tc hi
      have f2 := H.bk.free (2 + i)
      have hpl := H.bk.lt
      have i0 : (0 : Int) ≤ (i : Int) := by omega
      have i1 : (i : Int) < 8 := by omega
      rw [(H.th0 i x hx hs).1, ptr_none] at y2
      -- behind the store
      have HE : EI ((w.setCell ⟨p, 2 + i, none⟩ (.pointer (some ⟨w.heap.size, 0, none⟩))).alloc (.cells (txc x0 (.slice none 0 0) (.slice none 0 0) (.slice none 0 0)) 78)).drew (Fx F w ((w.setCell ⟨p, 2 + i, none⟩ (.pointer (some ⟨w.heap.size, 0, none⟩))).alloc (.cells (txc x0 (.slice none 0 0) (.slice none 0 0) (.slice none 0 0)) 78)).drew) p (setT E (i : Int) x0) vv (upd tv i (some w.heap.size)) (Gx G i w ((w.setCell ⟨p, 2 + i, none⟩ (.pointer (some ⟨w.heap.size, 0, none⟩))).alloc (.cells (txc x0 (.slice none 0 0) (.slice none 0 0) (.slice none 0 0)) 78)).drew) ∧ OnS (fun c => c = p) w ((w.setCell ⟨p, 2 + i, none⟩ (.pointer (some ⟨w.heap.size, 0, none⟩))).alloc (.cells (txc x0 (.slice none 0 0) (.slice none 0 0) (.slice none 0 0)) 78)).drew := by
        have hz : (w.setCell ⟨p, 2 + i, none⟩ (.pointer (some ⟨w.heap.size, 0, none⟩))).heap.size = w.heap.size := World.size_setCell _ _ _
        have hbl := bnext (balloc (w.setCell ⟨p, 2 + i, none⟩ (.pointer (some ⟨w.heap.size, 0, none⟩))) (.cells (txc x0 (.slice none 0 0) (.slice none 0 0) (.slice none 0 0)) 78)) (bdr _)
        have hon : OnS (fun c => c = p) w ((w.setCell ⟨p, 2 + i, none⟩ (.pointer (some ⟨w.heap.size, 0, none⟩))).alloc (.cells (txc x0 (.slice none 0 0) (.slice none 0 0) (.slice none 0 0)) 78)).drew := (OnS.cell p _ _).trans (OnS.of hbl)
        have hb1 : Bk _ p (ecells E.clock vv (upd tv i (some w.heap.size))) _ := ((ecells_set E.clock vv tv hi (some w.heap.size)) ▸ H.bk.set (2 + i) (ptr (some w.heap.size))).keep hbl
        have hk : Bk ((w.setCell ⟨p, 2 + i, none⟩ (.pointer (some ⟨w.heap.size, 0, none⟩))).alloc (.cells (txc x0 (.slice none 0 0) (.slice none 0 0) (.slice none 0 0)) 78)).drew w.heap.size (txc x0 (.slice none 0 0) (.slice none 0 0) (.slice none 0 0)) 78 := (hz ▸ Bk.new (w.setCell ⟨p, 2 + i, none⟩ (.pointer (some ⟨w.heap.size, 0, none⟩))) _ _).drew
        generalize ((w.setCell ⟨p, 2 + i, none⟩ (.pointer (some ⟨w.heap.size, 0, none⟩))).alloc (.cells (txc x0 (.slice none 0 0) (.slice none 0 0) (.slice none 0 0)) 78)).drew = W at hon hb1 hk ⊢
        refine ⟨?_, hon⟩
        refine ei_gen (V := E.V) (c := E.clock) (x' := x0) H hx hon (fun c _ h => .inl h) hb1 (ownF_on H.vs hon fun c hc e => H.vne (e ▸ hc)) (fun j hj => if_neg hj) (fun h => by rw [hx0] at h; cases h) (fun _ => ⟨w.heap.size, if_pos rfl, .slice none 0 0, .slice none 0 0, .slice none 0 0, [], ?_⟩) (fun _ _ _ _ _ => rfl)
        have hl : lftR E.V (i : Int) x0 = [] := lft_open (by rw [hx0]; exact (by decide : ¬ (0 : Int) < 0)) (by rw [hx0]; rfl)
        rw [hl]
        have hkl := hk.lt
        refine ⟨hk, by rw [hx0]; exact OwnR.nil _ _ _, OwnR.nil _ _ _, rowR_nil _ _, (fun m hm => by cases hm), by rw [hx0]; rfl, (fun k m hm => by cases hm), List.nodup_nil, (fun c hc => by cases hc), (fun c hc => by cases hc), .inr ⟨Nat.le_refl _, hkl⟩, (fun c hc => by cases hc), (fun c hc => by cases hc), (fun c hc => by cases hc), (fun m hm => by cases hm), fun c hc => ?_⟩
        rcases hc with hc | hc
        · exact Nat.lt_of_lt_of_le (H.lt c (H.gf i c hc)) hon.size
        · exact hc.2
      have HE := Lib.hid HE
      have HP := Lib.hid (fun (W : World) (FF : Nat → Prop) (GG : Nat → Nat → Prop) (h : EI W FF p (setT E (i : Int) x0) vv (upd tv i (some w.heap.size)) GG) => part_c W h (by show (E.T.set _ _).length = 8; rw [List.length_set]; exact h8) (i : Int) (fun y hy ho => by
        rcases List.mem_or_eq_of_mem_set (show y ∈ E.T.set ((i : Int).toNat) x0 from hy) with h | h
        · exact hst y h ho
        · rw [h, hx0]; exact (by decide : ¬ (0 : Int) < 0)) (fun y hy => by
        rcases List.mem_or_eq_of_mem_set (show y ∈ E.T.set ((i : Int).toNat) x0 from hy) with h | h
        · exact hp y h
        · rw [h, hx0]; exact ⟨(fun q hq => by cases hq), (by decide : (0 : Int) ≤ 1000000)⟩))
      have HX0 := Lib.hid hx0
      have hxc : txc x0 (.slice none 0 0) (.slice none 0 0) (.slice none 0 0) = #[.int .i64 E.clock, .slice none 0 0, .slice none 0 0, .bool false, .slice none 0 0, .int .i64 0] := by rw [hx0]; rfl
      rw [hxc] at HE
      clear hr H hth hx hst hp hs ha hx0 hxc
      go_enter Try.func27, Try.ntmps27
      go_wp2_with (first
        | (go_at_call 59; refine HT.out.mono ?_; rintro e w9 ⟨rfl, hw9⟩; subst w9)
        | (go_at_call 23; refine HA.out.mono ?_; rintro e w9 ⟨rfl, hw9⟩; subst w9))
      go_region
      obtain ⟨W, hW⟩ : ∃ W, ((w.setCell ⟨p, 2 + i, none⟩ (.pointer (some ⟨w.heap.size, 0, none⟩))).alloc (.cells #[.int .i64 E.clock, .slice none 0 0, .slice none 0 0, .bool false, .slice none 0 0, .int .i64 0] 78)).drew = W := ⟨_, rfl⟩
      rw [hW] at HE
      have HO1 := Lib.hid HE.out.2
      have HP2 := Lib.hid (HP.out W _ _ HE.out.1)
      rw [hW]
      clear hW HE HP
      go_wp2_with (go_at_call 30; refine HP2.out.mono ?_; rintro e w2 ⟨rfl, ho2, hE2⟩; have HO2 := Lib.hid ho2; have HE2 := Lib.hid hE2; clear ho2 hE2)
      go_ret
      obtain ⟨F', G', h1, h2⟩ := HE2.out
      refine ⟨rfl, ?_, F', _, G', h1, fun c hc => ?_⟩
      · exact (HO1.out.weak fun c _ h => by rw [h]; exact HH.out.own).next HO2.out fun c hc => by
          rcases hc with hc | hc
          · exact .inl hc
          · exact .inr hc.1
      · rcases h2 c hc with h | h
        · rcases h with h | h
          · exact .inl h
          · exact .inr h.1
        · exact .inr (Nat.le_trans HO1.out.size h)
end
end Go.Proofs.Ytjoifodjbdbicaa.PG
