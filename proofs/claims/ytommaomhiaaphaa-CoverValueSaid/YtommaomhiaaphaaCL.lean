/- Which column: some column. -/
import Derived.Test.YtommaomhiaaphaaCI
namespace Go.Proofs.Ytommaomhiaaphaa.CL
open Go.RowKit Go.Proofs.Ytommaomhiaaphaa.CA Go.Proofs.Ytommaomhiaaphaa.CB Go.Proofs.Ytommaomhiaaphaa.CC Go.Proofs.Ytommaomhiaaphaa.CD Go.Proofs.Ytommaomhiaaphaa.CE Go.Proofs.Ytommaomhiaaphaa.CF Go.Proofs.Ytommaomhiaaphaa.CG Go.Proofs.Ytommaomhiaaphaa.CH Go.Proofs.Ytommaomhiaaphaa.CK Go.Proofs.Ytommaomhiaaphaa.CI
set_option linter.unusedVariables false
set_option maxRecDepth 100000
variable {S : Nat → Prop}

theorem heads_ne (C : List Cn) (r : List Nd) (ahead : List (List Nd)) (i : Nat) : heads C r ahead i ≠ [] := by
  unfold heads
  split
  · split
    · rename_i h
      intro e
      rw [e] at h; cases h
    · simp
  · simp
theorem headsOf_foldl_len (C : List Cn) (r : List Nd) (ahead : List (List Nd)) (i : Nat) (h : ahead.length ≤ 1000) : (heads C r ahead i).length ≤ 1000 := by
  have h2 := headsOf_len i ahead []
  unfold heads
  split
  · split
    · unfold headsOf; simp at h2; omega
    · simp
  · simp
theorem hasN_shape {w : World} {p : Nd} {q : Value} (h : HasN w S p q) : ∃ ao n cap, q = .slice ao n cap := by
  obtain ⟨ao, cap, e, _⟩ := (hasN_row.1 h).val
  exact ⟨ao, _, cap, e⟩
def SomeCol (w : World) (N : Nat) (e : Ending) (w' : World) : Prop := ∃ i : Nat, i < N ∧ e = .returned (.int .i64 (i : Int)) ∧ Below w.heap.size w w'
set_option maxRecDepth 100000 in
set_option maxHeartbeats 4000000 in
theorem column_c (C : List Cn) (f : Value) (c : Nat) (r : List Nd) (ahead : List (List Nd)) (rv av : Value) (w : World) (hf : CK.Fd w f C c) (hr : RowN w S rv r) (hh : RowsN w S av ahead) (hr0 : r ≠ []) (hn : r.length ≤ 900000) (ha : ∀ a, a ∈ ahead → a.length = r.length) (hal : ahead.length ≤ 1000) (hah : ahead ≠ []) :
    Calls Try.prog 43 #[f, rv, av] w (SomeCol w r.length) := by
  obtain ⟨b, off, cap, rfl, hcap, hlt, hop⟩ := hr.open_ hr0
  obtain ⟨ab, aoff, acap, rfl, hacap, halt, haop⟩ := hh.open_ hah
  have HR := Lib.hid hr
  have HH := Lib.hid hh
  have HF := Lib.hid hf
  have HA := Lib.hid ha
  have HAO := Lib.hid haop
  have H0 := fun (i : Nat) (hi : i < r.length) (w' : World) (h : CK.Fd w' f C c) (h1 : RowN w' S (.slice (some ⟨b, off, none⟩) r.length cap) r) (h2 : RowsN w' S (.slice (some ⟨ab, aoff, none⟩) ahead.length acap) ahead) => heads_c C f c r ahead _ _ i w' h h1 h2 hi hn (fun a hm => by rw [HA.out a hm]; exact ⟨hi, hn⟩) hal
  have HNE := Lib.hid (fun i => heads_ne C r ahead i)
  have HHL := Lib.hid (fun i => headsOf_foldl_len C r ahead i hal)
  have hpos : 0 < r.length := List.length_pos_iff.2 hr0
  obtain ⟨N, hN⟩ : ∃ N, Hid (r.length = N) := ⟨_, Lib.hid rfl⟩
  obtain ⟨NA, hNA⟩ : ∃ NA, Hid (ahead.length = NA) := ⟨_, Lib.hid rfl⟩
  rw [hN.out] at hn hcap hpos H0 ⊢
  rw [hNA.out] at hal hacap H0 ⊢
  clear hr hh hf ha hop haop hah hr0
  go_enter Try.func43, Try.ntmps43
  go_wp2
  go_loopg [7, 8, 17] N (fun g bv fv jv wr => ∃ (j best : Nat) (z : Int), j + g = N ∧ best < N ∧ bv = .int .i64 (best : Int) ∧ fv = .int .i64 z ∧ jv = .int .i64 (j : Int) ∧ Hid (Below w.heap.size w wr))
  case atStart => exact ⟨0, 0, _, Nat.zero_add _, hpos, rfl, rfl, rfl, Lib.hid (Below.refl _ _)⟩
  case round =>
    obtain ⟨j, best, z, hj, hbest, rfl, rfl, rfl, HX⟩ := hrel
    by_cases hlt2 : j < N
    · obtain ⟨g1, rfl⟩ : ∃ g, gk = g + 1 := ⟨gk - 1, by omega⟩
      obtain ⟨wo, rfl⟩ : ∃ wo : World, wo = wr := ⟨_, rfl⟩
      have i0 : (0 : Int) ≤ (j : Int) := by omega
      have i1 : (j : Int) < (N : Int) := by omega
      have R0 := Lib.hid (by have := HR.out.keep HX.out; rw [hN.out] at this; exact this)
      have R1 := Lib.hid (by have := HH.out.keep HX.out; rw [hNA.out] at this; exact this)
      have R2 := Lib.hid (HF.out.keep HX.out)
      have HJ := Lib.hid (show j < r.length by rw [hN.out]; exact hlt2)
      go_wp2_with fail
      refine (H0 j hlt2 _ R2.out R0.out R1.out).mono ?_
      rintro e w1 ⟨hv, rfl, hrow, hb⟩
      obtain ⟨hb2, ho2, hc2, rfl, hcl2, hl2, hcells⟩ := hrow.open_ (HNE.out j)
      have HC2 := Lib.hid hcells
      have HX1 := Lib.hid (bnext HX.out hb)
      have hLL := HHL.out j
      obtain ⟨hs, HS⟩ : ∃ hs, Hid (heads C r ahead j = hs) := ⟨_, Lib.hid rfl⟩
      rw [HS.out] at HC2 hLL hcl2 ⊢
      obtain ⟨L, hL⟩ : ∃ L, Hid (hs.length = L) := ⟨_, Lib.hid rfl⟩
      rw [hL.out] at hLL hcl2 ⊢
      clear hrow hb hcells
      go_wp2_with fail
      go_loopg [10, 26] L (fun g lv kv w2 => ∃ (k : Nat) (z2 : Int), k + g = L ∧ lv = .int .i64 z2 ∧ kv = .int .i64 (k : Int) ∧ Hid (Below w1.heap.size w1 w2))
      case atStart => exact ⟨0, _, Nat.zero_add _, rfl, rfl, Lib.hid (Below.refl _ _)⟩
      case round =>
        obtain ⟨k, z2, hk, rfl, rfl, HY⟩ := hrel
        by_cases hlt3 : k < L
        · obtain ⟨g2, rfl⟩ : ∃ g, gk = g + 1 := ⟨gk - 1, by omega⟩
          obtain ⟨wp, rfl⟩ : ∃ wp : World, wp = wr := ⟨_, rfl⟩
          obtain ⟨hd, hhd⟩ := getElem?_of_lt (l := hs) (k := k) (by rw [hL.out]; exact hlt3)
          obtain ⟨q, hLs, hqs⟩ := HC2.out k hd hhd
          obtain ⟨qa, ql, qc, rfl⟩ := hasN_shape hqs
          clear hqs
          obtain ⟨y0, y1, y2, y3, y4, y5⟩ := hLs.keep HY.out hl2
          clear hLs hhd
          obtain ⟨hk5, hn5, hs5, hl5⟩ := hd
          simp only [Nd.k, Nd.n, Nd.s] at y0 y1 y2
          have i2 : (0 : Int) ≤ (k : Int) := by omega
          have i3 : (k : Int) < (L : Int) := by omega
          go_wp2_with fail
          have HB0 := Lib.hid (Bx.new wp hk5 hn5 hs5 (.slice qa ql qc) 38)
          have HZ0 := Lib.hid (bnext HX1.out (bnext HY.out (balloc wp (.cells #[.int .i64 hk5, .string ⟨hs5.toArray⟩, .int .i64 hn5, .int .i64 0, .slice none 0 0, .slice qa ql qc] 38))))
          have HZ1 := Lib.hid (bnext HY.out (balloc wp (.cells #[.int .i64 hk5, .string ⟨hs5.toArray⟩, .int .i64 hn5, .int .i64 0, .slice none 0 0, .slice qa ql qc] 38)))
          clear y0 y1 y2 y3 y4 y5
          generalize wp.alloc _ = W at HB0 HZ0 HZ1 ⊢
          generalize wp.heap.size = Bh at HB0 ⊢
          go_loopg [10, 32] NA (fun g lv mv w3 => ∃ (m : Nat) (z3 : Int), m + g = NA ∧ lv = .int .i64 z3 ∧ mv = .int .i64 (m : Int) ∧ Hid (Below w.heap.size w w3) ∧ Hid (Below w1.heap.size w1 w3) ∧ Hid (Bx w3 Bh hk5 hn5 hs5 (.slice qa ql qc)))
          case atStart => exact ⟨0, _, Nat.zero_add _, rfl, rfl, HZ0, HZ1, HB0⟩
          case round =>
            obtain ⟨m, z3, hm, rfl, rfl, HW, HW1, HBx⟩ := hrel
            clear HB0 HZ0 HZ1
            by_cases hlt4 : m < NA
            · obtain ⟨g3, rfl⟩ : ∃ g, gk = g + 1 := ⟨gk - 1, by omega⟩
              obtain ⟨a, hha⟩ := getElem?_of_lt (l := ahead) (k := m) (by rw [hNA.out]; exact hlt4)
              obtain ⟨q1, hc1, hrow⟩ := HAO.out m a hha
              have hal1 := HA.out a (List.mem_of_getElem? hha)
              have ia : j < a.length := by rw [hal1]; exact HJ.out
              have d0 := (HW.out.cell (p := ⟨ab, aoff + m, none⟩) halt).trans hc1
              obtain ⟨rb, ro, rcap, rfl, hrc, hrlt, hrl⟩ := hrow.open_ (by intro e; rw [e] at ia; cases ia)
              obtain ⟨q2, hL2, _⟩ := hrl j _ (col_at ia)
              replace hL2 := hL2.keep HW.out hrlt
              clear hrl hrow hc1 hha
              have D0 := fun w => meets_c (col a j).k (col a j).n (col a j).s (col a j).kids q2 hk5 hn5 hs5 hl5 (.slice qa ql qc) w
              generalize meets _ _ = X at D0
              obtain ⟨x0, x1, x2, x3, x4, x5⟩ := hL2
              generalize (col a j).k = k1 at *
              generalize (col a j).n = n1 at *
              generalize (col a j).s = s1 at *
              rw [hal1, hN.out] at d0 hrc ia
              clear hal1
              obtain ⟨hlB, y0, y1, y2, y3, y4, y5⟩ := HBx.out
              have i4 : (0 : Int) ≤ (m : Int) := by omega
              have i5 : (m : Int) < (NA : Int) := by omega
              cases X
              all_goals
                go_wp2_with fail
                go_still_tail 5, (by kernel_rfl)
                change wpList _ _ _ _ _ (World.drew _)
                go_wp2_with (go_at_call 71; refine (D0 _).mono ?_; rintro e w5 ⟨rfl, hb⟩; have HB5 := Lib.hid (bdrew hb); clear hb)
                go_roundg g3
                case rel => exact ⟨m + 1, _, by omega, rfl, by go_num, Lib.hid (bnext HW.out HB5.out), Lib.hid (bnext HW1.out HB5.out), Lib.hid (HBx.out.keep HB5.out)⟩
                case measure => omega
            · go_wp2_with fail
              go_roundg g2
              case rel => exact ⟨k + 1, _, by omega, rfl, by go_num, HW1⟩
              case measure => omega
        · have HX2 := Lib.hid (bnext HX1.out HY.out)
          by_cases hzz : z2 < z
          · go_wp2
            go_roundg g1
            case rel => exact ⟨j + 1, j, z2, by omega, hlt2, rfl, rfl, by go_num, HX2⟩
            case measure => omega
          · go_wp2
            go_roundg g1
            case rel => exact ⟨j + 1, best, z, by omega, hbest, rfl, rfl, by go_num, HX2⟩
            case measure => omega
    · go_wp2
      go_ret
      exact ⟨best, hbest, rfl, HX.out⟩
end Go.Proofs.Ytommaomhiaaphaa.CL
