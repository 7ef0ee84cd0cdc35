/- The document's small functions: any pattern; a constructor's place; parts. -/
import Derived.Test.YtommaomhiaaphaaDL
namespace Go.Proofs.Ytommaomhiaaphaa.DM
open Go.RowKit Go.Proofs.Ytommaomhiaaphaa.CA Go.Proofs.Ytommaomhiaaphaa.CB Go.Proofs.Ytommaomhiaaphaa.CC Go.Proofs.Ytommaomhiaaphaa.CD Go.Proofs.Ytommaomhiaaphaa.CE Go.Proofs.Ytommaomhiaaphaa.CF Go.Proofs.Ytommaomhiaaphaa.CG Go.Proofs.Ytommaomhiaaphaa.CH Go.Proofs.Ytommaomhiaaphaa.CK Go.Proofs.Ytommaomhiaaphaa.CI Go.Proofs.Ytommaomhiaaphaa.CO Go.Proofs.Ytommaomhiaaphaa.CU Go.Proofs.Ytommaomhiaaphaa.DE Go.Proofs.Ytommaomhiaaphaa.DF Go.Proofs.Ytommaomhiaaphaa.DI Go.Proofs.Ytommaomhiaaphaa.DL
set_option linter.unusedVariables false
set_option maxRecDepth 100000

theorem loose_c (k n : Int) (s : By) (l : List Nd) (q : Value) (w : World) :
    Calls Try.prog 47 #[.agg #[.int .i64 k, .string ⟨s.toArray⟩, .int .i64 n, .int .i64 0, .slice none 0 0, q]] w fun e w' => e = .returned (.bool (anyB (.mk k n s l))) ∧ Below w.heap.size w w' := by
  obtain ⟨R, HR⟩ : ∃ R, Hid ((k == 24 || k == 4) = R) := ⟨_, Lib.hid rfl⟩
  rw [show anyB (.mk k n s l) = R from HR.out]
  cases h1 : (k == 24) <;> cases h2 : (k == 4) <;> rw [h1, h2] at HR
  all_goals
    go_enter Try.func47, Try.ntmps47
    go_wp2
    go_ret
    exact ⟨ret_bool (by rw [← HR.out]; rfl), (Below.refl _ _).alloc (Nat.le_refl _) _⟩
/-- The place of a constructor; below 0: there is none. -/
def FindRes (C : List Cn) (s : By) (w : World) (e : Ending) (w' : World) : Prop :=
  ∃ r : Int, e = .returned (.int .i64 r) ∧ w = w' ∧ ((r = -1 ∧ conOf C s = none) ∨ ∃ (j : Nat) (c : Cn), r = (j : Int) ∧ C[j]? = some c ∧ conOf C s = some c)
set_option maxHeartbeats 1000000 in
theorem find_c (C : List Cn) (Sd : Sound C) (s : By) (v : Value) (w : World) (h : RowC w v C) (h0 : C ≠ []) (hn : C.length ≤ 1000) :
    Calls Try.prog 29 #[v, .string ⟨s.toArray⟩] w (FindRes C s w) := by
  obtain ⟨b, off, cap, rfl, hcap, hlt, hop⟩ := h.open_ h0
  have HOP := Lib.hid hop
  obtain ⟨N, hN⟩ : ∃ N, Hid (C.length = N) := ⟨_, Lib.hid rfl⟩
  rw [hN.out] at hn hcap ⊢
  clear h hop h0
  go_enter Try.func29, Try.ntmps29
  go_wp2
  go_loopg [5] N (fun g iv wr => ∃ j : Nat, j + g = N ∧ iv = .int .i64 (j : Int) ∧ w = wr ∧ Hid (∀ (i : Nat) c, i < j → C[i]? = some c → c.nm ≠ s))
  case atStart => exact ⟨0, Nat.zero_add _, rfl, rfl, Lib.hid fun i c hi => by omega⟩
  case round =>
    obtain ⟨j, hj, rfl, rfl, HJ⟩ := hrel
    by_cases hlt2 : j < N
    · obtain ⟨g, rfl⟩ : ∃ g, gk = g + 1 := ⟨gk - 1, by omega⟩
      obtain ⟨c, hc⟩ := getElem?_of_lt (l := C) (k := j) (by rw [hN.out]; exact hlt2)
      obtain ⟨x0, x1, x2, x3, x4⟩ := HOP.out j c hc
      have HC := Lib.hid hc
      have i0 : (0 : Int) ≤ (j : Int) := by omega
      have i1 : (j : Int) < (N : Int) := by omega
      have es := str_eq c.nm s
      clear hc
      cases he : (c.nm == s) with
      | true =>
        rw [he] at es
        go_wp2
        go_ret
        exact ⟨(j : Int), rfl, rfl, .inr ⟨j, c, rfl, HC.out, by rw [← eq_of_beq he]; exact Sd.conOf (List.mem_of_getElem? HC.out)⟩⟩
      | false =>
        rw [he] at es
        go_wp2
        go_roundg g
        case rel =>
          refine ⟨j + 1, by omega, by go_num, rfl, Lib.hid fun i d hi hd => ?_⟩
          by_cases hij : i = j
          · subst hij
            rw [HC.out] at hd
            cases hd
            simpa using he
          · exact HJ.out i d (by omega) hd
        case measure => omega
    · go_wp2
      go_ret
      refine ⟨-1, rfl, rfl, .inl ⟨rfl, List.find?_eq_none.2 fun c hc => ?_⟩⟩
      obtain ⟨i, hi, hci⟩ := List.getElem_of_mem hc
      have := HJ.out i c (by have := hN.out; omega) (by rw [← hci]; exact List.getElem?_eq_getElem hi)
      simpa using this
/-- The parts of the patterns that are of a constructor. -/
theorem partsAt_snoc {l : List Nd} {d : By} {i j : Nat} {p : Nd} (h : l[j]? = some p) : partsAt (l.take (j + 1)) d i = partsAt (l.take j) d i ++ (if p.k = 5 ∧ p.s = d then (match p.kids[i]? with | some q => [q] | none => []) else []) := by
  have e : l.take (j + 1) = l.take j ++ [p] := by rw [List.take_add_one, h]; rfl
  unfold partsAt
  rw [e, List.filterMap_append]
  by_cases hp : p.k = 5 ∧ p.s = d
  · simp only [List.filterMap_cons, if_pos hp, List.filterMap_nil]
    cases p.kids[i]? <;> rfl
  · simp only [List.filterMap_cons, if_neg hp, List.filterMap_nil]
theorem partsAt_no {l : List Nd} {d : By} {i j : Nat} {p : Nd} (h : l[j]? = some p) (hn : ¬ (p.k = 5 ∧ p.s = d)) : partsAt (l.take (j + 1)) d i = partsAt (l.take j) d i := by
  rw [partsAt_snoc h, if_neg hn, List.append_nil]
theorem partsAt_yes {l : List Nd} {d : By} {i j : Nat} {p q : Nd} (h : l[j]? = some p) (h5 : p.k = 5) (hs : p.s = d) (hq : p.kids[i]? = some q) : partsAt (l.take (j + 1)) d i = partsAt (l.take j) d i ++ [q] := by
  rw [partsAt_snoc h, if_pos ⟨h5, hs⟩, hq]
set_option maxHeartbeats 4000000 in
theorem parts_c (l : List Nd) (v : Value) (d : By) (i : Nat) (w : World) (h : RowN w Any v l) (hn : l.length ≤ 10000) (hk : ∀ p, p ∈ l → p.k = 5 → p.s = d → i < p.kids.length) (hi : i ≤ 100) :
    Calls Try.prog 30 #[v, .string ⟨d.toArray⟩, .int .i64 (i : Int)] w fun e w' => ∃ v', e = .returned v' ∧ RowN w' Any v' (partsAt l d i) ∧ Below w.heap.size w w' := by
  by_cases h0 : l = []
  · subst h0
    obtain ⟨ao, cap, rfl, _⟩ := h.val
    go_enter Try.func30, Try.ntmps30
    go_wp2
    refine wp_loop_rounds 1 ?_
    rw [rounds_succ]
    go_wp2
    go_ret
    exact ⟨_, rfl, ⟨[], ⟨none, 0, rfl, Nat.le_refl _, .inl rfl⟩, trivial⟩, Below.refl _ _⟩
  · obtain ⟨b, off, cap, rfl, hcap, hlt, hop⟩ := h.open_ h0
    have HOP := Lib.hid hop
    have HK := Lib.hid hk
    obtain ⟨N, hN⟩ : ∃ N, Hid (l.length = N) := ⟨_, Lib.hid rfl⟩
    rw [hN.out] at hn hcap ⊢
    clear h hop h0 hk
    go_enter Try.func30, Try.ntmps30
    go_wp2
    have HO0 := Lib.hid (OwnN.nil (S := Any) w w (Below.refl _ _))
    go_loopg [7, 8] N (fun g ov iv wr => ∃ j : Nat, j + g = N ∧ iv = .int .i64 (j : Int) ∧ Hid (OwnN w wr Any ov (partsAt (l.take j) d i)))
    case atStart => exact ⟨0, Nat.zero_add _, rfl, HO0⟩
    case round =>
      obtain ⟨j, hj, rfl, HO⟩ := hrel
      clear HO0
      by_cases hlt2 : j < N
      · obtain ⟨g, rfl⟩ : ∃ g, gk = g + 1 := ⟨gk - 1, by omega⟩
        obtain ⟨⟨k, n, s, kids⟩, hp⟩ := getElem?_of_lt (l := l) (k := j) (by rw [hN.out]; exact hlt2)
        obtain ⟨q, hL, hq⟩ := HOP.out j _ hp
        have hkk := HK.out _ (List.mem_of_getElem? hp)
        simp only [Nd.k, Nd.s, Nd.kids] at hkk
        have HP := Lib.hid hp
        obtain ⟨x0, x1, x2, x3, x4, x5⟩ := hL.keep HO.out.below hlt
        simp only [Nd.k, Nd.n, Nd.s] at x0 x1 x2
        have HLN := Lib.hid (show (partsAt (l.take j) d i).length ≤ 10000 from by
          have := List.length_filterMap_le (fun p : Nd => if p.k = 5 ∧ p.s = d then p.kids[i]? else none) (l.take j)
          unfold partsAt
          rw [List.length_take] at this; omega)
        have i0 : (0 : Int) ≤ (j : Int) := by omega
        have i1 : (j : Int) < (N : Int) := by omega
        have es := str_eq s d
        have HQ := Lib.hid hq
        clear hp hL hq
        cases h5 : (k == 5)
        · have HSN := Lib.hid (show partsAt (l.take (j + 1)) d i = partsAt (l.take j) d i from partsAt_no HP.out (fun h => by have h := h.1; simp only [Nd.k] at h; rw [h] at h5; cases h5))
          clear hkk
          go_wp2_with fail
          go_roundg g
          case rel => exact ⟨j + 1, by omega, by go_num, Lib.hid (by rw [HSN.out]; exact HO.out)⟩
          case measure => omega
        · cases h6 : (s == d)
          · rw [h6] at es
            have HSN := Lib.hid (show partsAt (l.take (j + 1)) d i = partsAt (l.take j) d i from partsAt_no HP.out (fun h => by have h := h.2; simp only [Nd.s] at h; rw [h] at h6; simp at h6))
            clear hkk
            go_wp2_with fail
            go_roundg g
            case rel => exact ⟨j + 1, by omega, by go_num, Lib.hid (by rw [HSN.out]; exact HO.out)⟩
            case measure => omega
          · rw [h6] at es
            have hik := hkk (by simpa using h5) (by simpa using h6)
            obtain ⟨kid, hkid⟩ := getElem?_of_lt (l := kids) (k := i) hik
            have HSN := Lib.hid (show partsAt (l.take (j + 1)) d i = partsAt (l.take j) d i ++ [kid] from partsAt_yes HP.out (show k = 5 from eq_of_beq h5) (show s = d from eq_of_beq h6) hkid)
            obtain ⟨kb, ko, kc, rfl, hkc, hkl, hkop⟩ := (hasN_row.1 HQ.out).open_ (by intro e; simp only [Nd.kids] at e; rw [e] at hik; cases hik)
            simp only [Nd.kids] at hkc hkop
            obtain ⟨q2, hL2, hq2⟩ := hkop i kid hkid
            obtain ⟨z0, z1, z2, z3, z4, z5⟩ := hL2.keep HO.out.below hkl
            obtain ⟨k2, n2, s2, l2⟩ := kid
            simp only [Nd.k, Nd.n, Nd.s] at z0 z1 z2
            have xq : ∃ x y z, q2 = .slice x y z := by obtain ⟨x, y, e, _⟩ := (hasN_row.1 hq2).val; exact ⟨x, _, y, e⟩
            obtain ⟨qx, qy, qz, rfl⟩ := xq
            have HQ2 := Lib.hid hq2
            obtain ⟨KL, hKL⟩ : ∃ KL, Hid (kids.length = KL) := ⟨_, Lib.hid rfl⟩
            simp only [Nd.kids] at x5
            rw [hKL.out] at hik hkc x5
            have i2 : (0 : Int) ≤ (i : Int) := by omega
            have i3 : (i : Int) < (KL : Int) := by omega
            clear hkk hkid hkop hL2 hq2
            go_wp2_with (at_builtin; go_loud (refine wpList_node w _ rfl (.tmp 30) (.tmp 39) rfl u7 (partsAt (l.take j) d i) (.mk k2 n2 s2 l2) (.slice qx qy qz) wr.heap.size rfl rfl (HO.out.keep (balloc _ _)) (ncells_new wr (.mk k2 n2 s2 l2) (.slice qx qy qz) 38) HQ2.out HLN.out ?_); intro v6 w6 hO6; have HO6 := Lib.hid hO6; clear hO6)
            go_roundg g
            case rel => exact ⟨j + 1, by omega, by go_num, Lib.hid (by rw [HSN.out]; exact HO6.out)⟩
            case measure => omega
      · have hO := HO.out
        rw [List.take_of_length_le (by rw [hN.out]; omega)] at hO
        have HO2 := Lib.hid hO
        clear hO HO
        go_wp2_with fail
        go_ret
        exact ⟨_, rfl, HO2.out.row.mv (Mv.weak _ fun _ _ _ => trivial), HO2.out.below⟩
end Go.Proofs.Ytommaomhiaaphaa.DM
