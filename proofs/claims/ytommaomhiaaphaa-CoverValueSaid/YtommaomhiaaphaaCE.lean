/- Whether one of a row is: the library's own loops at the program's own tests. -/
import Derived.Test.YtommaomhiaaphaaCD
import Derived.StillTailTactics
namespace Go.Proofs.Ytommaomhiaaphaa.CE
open Go.RowKit Go.Proofs.Ytommaomhiaaphaa.CA Go.Proofs.Ytommaomhiaaphaa.CB Go.Proofs.Ytommaomhiaaphaa.CC Go.Proofs.Ytommaomhiaaphaa.CD
set_option linter.unusedVariables false
set_option maxRecDepth 100000
variable {S : Nat → Prop}

set_option maxHeartbeats 1000000 in
theorem index48 (r : List Nd) (rv : Value) (w : World) (h : RowN w S rv r) (hn : r.length ≤ 1000000) :
    Calls Try.prog 81 #[rv, .func (.func 70) #[] #[]] w fun e w' => e = .returned (.int .i64 (fidx (fun p => !anyB p) r)) ∧ Below w.heap.size w w' := by
  obtain ⟨R, HR⟩ : ∃ R, Hid (fidx (fun p => !anyB p) r = R) := ⟨_, Lib.hid rfl⟩
  rw [HR.out]
  by_cases h0 : r = []
  · subst h0
    obtain ⟨ao, cap, rfl, _⟩ := h.val
    go_enter Try.func81, Try.ntmps81
    go_wp2
    refine wp_loop_rounds 1 ?_
    rw [rounds_succ]
    go_wp2
    go_ret
    exact ⟨ret_int (by rw [← HR.out]; rfl), Below.refl _ _⟩
  · obtain ⟨b, off, cap, rfl, hcap, hlt, hl⟩ := h.open_ h0
    have HL := Lib.hid hl
    clear hl h h0
    obtain ⟨N, hN⟩ : ∃ N, Hid (r.length = N) := ⟨_, Lib.hid rfl⟩
    rw [hN.out] at hn hcap ⊢
    go_enter Try.func81, Try.ntmps81
    go_wp2
    go_loopg [8] N (fun g iv wr => ∃ j : Nat, j + g = N ∧ iv = .int .i64 (j : Int) ∧ Hid (j ≤ fix (fun p => !anyB p) r) ∧ Hid (Below w.heap.size w wr))
    case atStart => exact ⟨0, Nat.zero_add _, rfl, Lib.hid (Nat.zero_le _), Lib.hid (Below.refl _ _)⟩
    case round =>
      obtain ⟨j, hj, rfl, HJ, HX⟩ := hrel
      by_cases hlt2 : j < N
      · obtain ⟨g, rfl⟩ : ∃ g, gk = g + 1 := ⟨gk - 1, by omega⟩
        obtain ⟨⟨k, n, s, l⟩, hp⟩ := getElem?_of_lt (l := r) (k := j) (by rw [hN.out]; exact hlt2)
        obtain ⟨q, hL, _⟩ := HL.out j _ hp
        have HP := Lib.hid hp
        clear hp
        obtain ⟨x0, x1, x2, x3, x4, x5⟩ := hL.keep HX.out hlt
        simp only [Nd.k, Nd.n, Nd.s] at x0 x1 x2
        have C0 := fun w => lam_c k n s l q w
        obtain ⟨X, HXX⟩ : ∃ X, Hid ((!anyB (.mk k n s l)) = X) := ⟨_, Lib.hid rfl⟩
        rw [HXX.out] at C0
        have i0 : (0 : Int) ≤ (j : Int) := by omega
        have i1 : (j : Int) < (N : Int) := by omega
        cases X
        · go_wp2_with (go_at_call 70; refine (C0 _).mono ?_; rintro e w1 ⟨rfl, hb⟩)
          go_roundg g
          case rel => exact ⟨j + 1, by omega, by go_num, Lib.hid (fix_no _ _ _ _ HP.out HJ.out HXX.out), Lib.hid (bnext HX.out hb)⟩
          case measure => omega
        · go_wp2_with (go_at_call 70; refine (C0 _).mono ?_; rintro e w1 ⟨rfl, hb⟩)
          go_ret
          exact ⟨ret_int (by rw [← HR.out]; exact (fidx_at (fix_yes _ _ _ _ HP.out HJ.out HXX.out) (by rw [hN.out]; exact hlt2)).symm), bnext HX.out hb⟩
      · go_wp2
        go_ret
        exact ⟨ret_int (by rw [← HR.out]; exact (fidx_end HJ.out (by rw [hN.out]; exact hlt2)).symm), HX.out⟩
theorem contains42 (r : List Nd) (rv : Value) (w : World) (h : RowN w S rv r) (hn : r.length ≤ 1000000) :
    Calls Try.prog 69 #[rv, .func (.func 70) #[] #[]] w fun e w' => e = .returned (.bool (r.any fun p => !anyB p)) ∧ Below w.heap.size w w' := by
  have C0 := index48 r rv w h hn
  obtain ⟨R, HR⟩ : ∃ R, Hid ((r.any fun p => !anyB p) = R) := ⟨_, Lib.hid rfl⟩
  rw [HR.out]
  have hd := HR.out
  rw [← fidx_any] at hd
  generalize fidx _ _ = z at hd C0
  cases R
  all_goals
    go_enter Try.func69, Try.ntmps69
    go_wp2_with (go_at_call 81; refine C0.mono ?_; rintro e w1 ⟨rfl, hb⟩)
    go_ret
    exact ⟨rfl, hb⟩

theorem isAnyRow_c (r : List Nd) (rv : Value) (w : World) (h : RowN w S rv r) (hn : r.length ≤ 1000000) :
    Calls Try.prog 42 #[rv] w fun e w' => e = .returned (.bool (allAny r)) ∧ Below w.heap.size w w' := by
  have C0 := contains42 r rv w h hn
  rw [show allAny r = !r.any (fun p => !anyB p) from rfl]
  generalize (r.any fun p => !anyB p) = X at C0 ⊢
  go_enter Try.func42, Try.ntmps42
  go_wp2_with (go_at_call 69; refine C0.mono ?_; rintro e w1 ⟨rfl, hb⟩)
  go_ret
  exact ⟨rfl, hb⟩
set_option maxHeartbeats 1000000 in
theorem index41 (r : List (List Nd)) (rv : Value) (w : World) (h : RowsN w S rv r) (hn : r.length ≤ 1000000) (hr : ∀ a, a ∈ r → a.length ≤ 1000000) :
    Calls Try.prog 68 #[rv, .func (.func 42) #[] #[]] w fun e w' => e = .returned (.int .i64 (fidx allAny r)) ∧ Below w.heap.size w w' := by
  obtain ⟨R, HR⟩ : ∃ R, Hid (fidx allAny r = R) := ⟨_, Lib.hid rfl⟩
  rw [HR.out]
  by_cases h0 : r = []
  · subst h0
    obtain ⟨ao, cap, rfl, _⟩ := h.val
    go_enter Try.func68, Try.ntmps68
    go_wp2
    refine wp_loop_rounds 1 ?_
    rw [rounds_succ]
    go_wp2
    go_ret
    exact ⟨ret_int (by rw [← HR.out]; rfl), Below.refl _ _⟩
  · obtain ⟨b, off, cap, rfl, hcap, hlt, hl⟩ := h.open_ h0
    have HL := Lib.hid hl
    clear hl h h0
    have HR2 := Lib.hid hr
    clear hr
    obtain ⟨N, hN⟩ : ∃ N, Hid (r.length = N) := ⟨_, Lib.hid rfl⟩
    rw [hN.out] at hn hcap ⊢
    go_enter Try.func68, Try.ntmps68
    go_wp2
    go_loopg [8] N (fun g iv wr => ∃ j : Nat, j + g = N ∧ iv = .int .i64 (j : Int) ∧ Hid (j ≤ fix allAny r) ∧ Hid (Below w.heap.size w wr))
    case atStart => exact ⟨0, Nat.zero_add _, rfl, Lib.hid (Nat.zero_le _), Lib.hid (Below.refl _ _)⟩
    case round =>
      obtain ⟨j, hj, rfl, HJ, HX⟩ := hrel
      by_cases hlt2 : j < N
      · obtain ⟨g, rfl⟩ : ∃ g, gk = g + 1 := ⟨gk - 1, by omega⟩
        obtain ⟨a, hp⟩ := getElem?_of_lt (l := r) (k := j) (by rw [hN.out]; exact hlt2)
        obtain ⟨q, hL, hq⟩ := HL.out j _ hp
        have HQ := Lib.hid hq
        have har := HR2.out a (List.mem_of_getElem? hp)
        clear hq
        have HP := Lib.hid hp
        clear hp
        have x0 := (HX.out.cell (p := ⟨b, off + j, none⟩) hlt).trans hL
        have C0 := fun (w' : World) (h : RowN w' S q a) => isAnyRow_c a q w' h har
        obtain ⟨X, HXX⟩ : ∃ X, Hid ((allAny a) = X) := ⟨_, Lib.hid rfl⟩
        rw [HXX.out] at C0
        have i0 : (0 : Int) ≤ (j : Int) := by omega
        have i1 : (j : Int) < (N : Int) := by omega
        cases X
        · go_wp2_with (go_at_call 42; refine (C0 _ (HQ.out.keep HX.out)).mono ?_; rintro e w1 ⟨rfl, hb⟩)
          go_roundg g
          case rel => exact ⟨j + 1, by omega, by go_num, Lib.hid (fix_no _ _ _ _ HP.out HJ.out HXX.out), Lib.hid (bnext HX.out hb)⟩
          case measure => omega
        · go_wp2_with (go_at_call 42; refine (C0 _ (HQ.out.keep HX.out)).mono ?_; rintro e w1 ⟨rfl, hb⟩)
          go_ret
          exact ⟨ret_int (by rw [← HR.out]; exact (fidx_at (fix_yes _ _ _ _ HP.out HJ.out HXX.out) (by rw [hN.out]; exact hlt2)).symm), bnext HX.out hb⟩
      · go_wp2
        go_ret
        exact ⟨ret_int (by rw [← HR.out]; exact (fidx_end HJ.out (by rw [hN.out]; exact hlt2)).symm), HX.out⟩
theorem contains32 (r : List (List Nd)) (rv : Value) (w : World) (h : RowsN w S rv r) (hn : r.length ≤ 1000000) (hr : ∀ a, a ∈ r → a.length ≤ 1000000) :
    Calls Try.prog 41 #[rv, .func (.func 42) #[] #[]] w fun e w' => e = .returned (.bool (r.any allAny)) ∧ Below w.heap.size w w' := by
  have C0 := index41 r rv w h hn hr
  obtain ⟨R, HR⟩ : ∃ R, Hid (r.any allAny = R) := ⟨_, Lib.hid rfl⟩
  rw [HR.out]
  have hd := HR.out
  rw [← fidx_any] at hd
  generalize fidx _ _ = z at hd C0
  cases R
  all_goals
    go_enter Try.func41, Try.ntmps41
    go_wp2_with (go_at_call 68; refine C0.mono ?_; rintro e w1 ⟨rfl, hb⟩)
    go_ret
    exact ⟨rfl, hb⟩

/-- What the closure of a column's heads holds: a row, and the column. -/
structure Cap (w : World) (S : Nat → Prop) (ca ct i : Nat) (av : Value) (a : List Nd) : Prop where
  la : ca < w.heap.size
  lt : ct < w.heap.size
  ha : w.cell? ⟨ca, 0, none⟩ = some av
  ht : w.cell? ⟨ct, 0, none⟩ = some (.int .i64 (i : Int))
  row : RowN w S av a
  hi : i < a.length
  hn : a.length ≤ 1000000
theorem Cap.keep {w w' : World} {ca ct i : Nat} {av : Value} {a : List Nd} (E : Cap w S ca ct i av a) (hb : Below w.heap.size w w') : Cap w' S ca ct i av a :=
  ⟨Nat.lt_of_lt_of_le E.la hb.size, Nat.lt_of_lt_of_le E.lt hb.size, (hb.cell (p := ⟨ca, 0, none⟩) E.la).trans E.ha, (hb.cell (p := ⟨ct, 0, none⟩) E.lt).trans E.ht, E.row.keep hb, E.hi, E.hn⟩
theorem col_at {a : List Nd} {i : Nat} (h : i < a.length) : a[i]? = some (col a i) := by
  unfold col; rw [List.getD_eq_getElem?_getD, List.getElem?_eq_getElem h]; rfl
set_option maxHeartbeats 1000000 in
theorem headlam_c (k n : Int) (s : By) (l : List Nd) (q : Value) (ca ct i : Nat) (av : Value) (a : List Nd) (w : World) (E : Cap w S ca ct i av a) :
    Calls Try.prog 72 #[.agg #[.int .i64 k, .string ⟨s.toArray⟩, .int .i64 n, .int .i64 0, .slice none 0 0, q], .pointer (some ⟨ca, 0, none⟩), .pointer (some ⟨ct, 0, none⟩)] w fun e w' => e = .returned (.bool (meets (.mk k n s l) (col a i))) ∧ Below w.heap.size w w' := by
  have HE := Lib.hid E
  have C0 := fun q' w => meets_c k n s l q (col a i).k (col a i).n (col a i).s (col a i).kids q' w
  rw [show Nd.mk (col a i).k (col a i).n (col a i).s (col a i).kids = col a i from by cases col a i; rfl] at C0
  generalize meets (.mk k n s l) (col a i) = X at C0 ⊢
  clear E
  go_enter Try.func72, Try.ntmps72
  go_wp2
  have hb0 := Lib.hid (balloc w (.cells #[.int .i64 k, .string ⟨s.toArray⟩, .int .i64 n, .int .i64 0, .slice none 0 0, q] 38))
  obtain ⟨y0, y1, y2, y3, y4, y5⟩ := own6 w (.int .i64 k) (.string ⟨s.toArray⟩) (.int .i64 n) (.int .i64 0) (.slice none 0 0) q 38
  generalize w.alloc _ = W at *
  obtain ⟨la, lt, ha, ht, row, hi, hn⟩ := HE.out.keep hb0.out
  generalize w.heap.size = B at y0 y1 y2 y3 y4 y5 ⊢
  obtain ⟨b, off, cap, rfl, hcap, hlt, hl⟩ := row.open_ (by intro e; rw [e] at hi; cases hi)
  obtain ⟨q', hL, _⟩ := hl i _ (col_at hi)
  obtain ⟨x0, x1, x2, x3, x4, x5⟩ := hL
  have C1 := C0 q'
  clear hl row C0
  generalize (col a i).k = k' at *
  generalize (col a i).n = n' at *
  generalize (col a i).s = s' at *
  generalize a.length = N at *
  have i0 : (0 : Int) ≤ (i : Int) := by omega
  have i1 : (i : Int) < (N : Int) := by omega
  go_still_tail 5, (by kernel_rfl)
  change wpList _ _ _ _ _ (World.drew _)
  go_wp2_with (go_at_call 71; refine (C1 _).mono ?_; rintro e w1 ⟨rfl, hb⟩)
  go_ret
  exact ⟨rfl, hb0.out.trans ((bdrew hb).mono hb0.out.size)⟩
set_option maxHeartbeats 1000000 in
theorem index49 (r : List Nd) (rv : Value) (w : World) (h : RowN w S rv r) (hn : r.length ≤ 1000000) (ca ct i : Nat) (av : Value) (a : List Nd) (E : Cap w S ca ct i av a) :
    Calls Try.prog 56 #[rv, .func (.func 72) #[] #[.pointer (some ⟨ca, 0, none⟩), .pointer (some ⟨ct, 0, none⟩)]] w fun e w' => e = .returned (.int .i64 (fidx (fun p => meets p (col a i)) r)) ∧ Below w.heap.size w w' := by
  obtain ⟨R, HR⟩ : ∃ R, Hid (fidx (fun p => meets p (col a i)) r = R) := ⟨_, Lib.hid rfl⟩
  rw [HR.out]
  by_cases h0 : r = []
  · subst h0
    obtain ⟨ao, cap, rfl, _⟩ := h.val
    go_enter Try.func56, Try.ntmps56
    go_wp2
    refine wp_loop_rounds 1 ?_
    rw [rounds_succ]
    go_wp2
    go_ret
    exact ⟨ret_int (by rw [← HR.out]; rfl), Below.refl _ _⟩
  · obtain ⟨b, off, cap, rfl, hcap, hlt, hl⟩ := h.open_ h0
    have HL := Lib.hid hl
    clear hl h h0
    have HE := Lib.hid E
    clear E
    obtain ⟨N, hN⟩ : ∃ N, Hid (r.length = N) := ⟨_, Lib.hid rfl⟩
    rw [hN.out] at hn hcap ⊢
    go_enter Try.func56, Try.ntmps56
    go_wp2
    go_loopg [8] N (fun g iv wr => ∃ j : Nat, j + g = N ∧ iv = .int .i64 (j : Int) ∧ Hid (j ≤ fix (fun p => meets p (col a i)) r) ∧ Hid (Below w.heap.size w wr))
    case atStart => exact ⟨0, Nat.zero_add _, rfl, Lib.hid (Nat.zero_le _), Lib.hid (Below.refl _ _)⟩
    case round =>
      obtain ⟨j, hj, rfl, HJ, HX⟩ := hrel
      by_cases hlt2 : j < N
      · obtain ⟨g, rfl⟩ : ∃ g, gk = g + 1 := ⟨gk - 1, by omega⟩
        obtain ⟨⟨k, n, s, l⟩, hp⟩ := getElem?_of_lt (l := r) (k := j) (by rw [hN.out]; exact hlt2)
        obtain ⟨q, hL, _⟩ := HL.out j _ hp
        have HP := Lib.hid hp
        clear hp
        obtain ⟨x0, x1, x2, x3, x4, x5⟩ := hL.keep HX.out hlt
        simp only [Nd.k, Nd.n, Nd.s] at x0 x1 x2
        have C0 := fun (w' : World) (E' : Cap w' S ca ct i av a) => headlam_c k n s l q ca ct i av a w' E'
        obtain ⟨X, HXX⟩ : ∃ X, Hid ((meets (.mk k n s l) (col a i)) = X) := ⟨_, Lib.hid rfl⟩
        rw [HXX.out] at C0
        have i0 : (0 : Int) ≤ (j : Int) := by omega
        have i1 : (j : Int) < (N : Int) := by omega
        cases X
        · go_wp2_with (go_at_call 72; refine (C0 _ (HE.out.keep HX.out)).mono ?_; rintro e w1 ⟨rfl, hb⟩)
          go_roundg g
          case rel => exact ⟨j + 1, by omega, by go_num, Lib.hid (fix_no _ _ _ _ HP.out HJ.out HXX.out), Lib.hid (bnext HX.out hb)⟩
          case measure => omega
        · go_wp2_with (go_at_call 72; refine (C0 _ (HE.out.keep HX.out)).mono ?_; rintro e w1 ⟨rfl, hb⟩)
          go_ret
          exact ⟨ret_int (by rw [← HR.out]; exact (fidx_at (fix_yes _ _ _ _ HP.out HJ.out HXX.out) (by rw [hN.out]; exact hlt2)).symm), bnext HX.out hb⟩
      · go_wp2
        go_ret
        exact ⟨ret_int (by rw [← HR.out]; exact (fidx_end HJ.out (by rw [hN.out]; exact hlt2)).symm), HX.out⟩
theorem contains46 (r : List Nd) (rv : Value) (w : World) (h : RowN w S rv r) (hn : r.length ≤ 1000000) (ca ct i : Nat) (av : Value) (a : List Nd) (E : Cap w S ca ct i av a) :
    Calls Try.prog 52 #[rv, .func (.func 72) #[] #[.pointer (some ⟨ca, 0, none⟩), .pointer (some ⟨ct, 0, none⟩)]] w fun e w' => e = .returned (.bool (r.any fun p => meets p (col a i))) ∧ Below w.heap.size w w' := by
  have C0 := index49 r rv w h hn ca ct i av a E
  obtain ⟨R, HR⟩ : ∃ R, Hid ((r.any fun p => meets p (col a i)) = R) := ⟨_, Lib.hid rfl⟩
  rw [HR.out]
  have hd := HR.out
  rw [← fidx_any] at hd
  generalize fidx _ _ = z at hd C0
  cases R
  all_goals
    go_enter Try.func52, Try.ntmps52
    go_wp2_with (go_at_call 56; refine C0.mono ?_; rintro e w1 ⟨rfl, hb⟩)
    go_ret
    exact ⟨rfl, hb⟩
end Go.Proofs.Ytommaomhiaaphaa.CE
