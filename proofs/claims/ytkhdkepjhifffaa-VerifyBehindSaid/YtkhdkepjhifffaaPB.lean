/- Whether instructions may be, by the program: the walk. -/
import Derived.Test.YtkhdkepjhifffaaPA
namespace Go.Proofs.Ytkhdkepjhifffaa.PB
open Go.RowKit Go.Proofs.Ytkhdkepjhifffaa.RG Go.Proofs.Ytkhdkepjhifffaa.KA Go.Proofs.Ytkhdkepjhifffaa.KB Go.Proofs.Ytkhdkepjhifffaa.KC Go.Proofs.Ytkhdkepjhifffaa.PA
set_option linter.unusedVariables false
set_option maxRecDepth 100000
set_option maxRecDepth 100000


set_option maxHeartbeats 16000000 in
theorem mayInstrs_c (l : List In) (v : Value) (w : World) (S : Nat → Prop) (h : RowR TN w S v l) (hl : l.length ≤ 100000000000) : Calls Try.prog 66 #[v] w fun e w' => e = .returned (.bool (l.all insOk)) ∧ Below w.heap.size w w' := by
  obtain ⟨ao, cap, rfl, hcap⟩ := h.val
  obtain ⟨R, HR⟩ : ∃ R, Hid (l.all insOk = R) := ⟨_, Lib.hid rfl⟩
  rw [HR.out]
  obtain ⟨N, hN⟩ : ∃ x, Hid (l.length = x) := ⟨_, Lib.hid rfl⟩
  have HH := Lib.hid h
  rw [hN.out] at hcap hl HH ⊢
  clear h
  go_enter Try.func66, Try.ntmps66
  go_wp2_with fail
  go_loopg [8] N (fun g iv wr => ∃ i : Nat, i + g = N ∧ iv = .int .i64 (i : Int) ∧ Hid ((l.take i).all insOk = true) ∧ Hid (Below w.heap.size w wr))
  case atStart => exact ⟨0, Nat.zero_add _, rfl, Lib.hid rfl, Lib.hid (Below.refl _ _)⟩
  case round =>
    obtain ⟨i, hi, rfl, HA, HX⟩ := hrel
    by_cases hlt : i < N
    · obtain ⟨g, rfl⟩ : ∃ g, gk = g + 1 := ⟨gk - 1, by omega⟩
      have hne : l ≠ [] := by intro e; have := hN.out; rw [e] at this; simp at this; omega
      obtain ⟨b, off, cap, hve, _, hblt, hcells⟩ := HH.out.open_ hne
      rw [hN.out] at hve
      cases hve
      obtain ⟨n, hn⟩ := getElem?_of_lt (l := l) (k := i) (by rw [hN.out]; exact hlt)
      obtain ⟨q, hL, hq⟩ := hcells i n hn
      have HN := Lib.hid hn
      have i0 : (0 : Int) ≤ (i : Int) := by omega
      have i1 : (i : Int) < (N : Int) := by omega
      have hL2 := hL.keep HX.out hblt
      obtain ⟨op, a, b'⟩ := n
      have x0 : wr.cell? ⟨b, off + i * 3, none⟩ = some (.int .i64 op) := hL2 0 _ rfl
      have x1 : wr.cell? ⟨b, off + i * 3 + 1, none⟩ = some (.int .i64 a) := hL2 1 _ rfl
      have x2 : wr.cell? ⟨b, off + i * 3 + 2, none⟩ = some (.int .i64 b') := hL2 2 _ rfl
      have HXA := Lib.hid (bnext HX.out (balloc wr (.cells #[.int .i64 op, .int .i64 a, .int .i64 b'] 45)))
      clear hcells hL hL2 hn hne hq
      have U0 := fun w => puses_c op w
      obtain ⟨I, HI⟩ : ∃ I, Hid (insOk ⟨op, a, b'⟩ = I) := ⟨_, Lib.hid rfl⟩
      have HII := HI
      unfold insOk at HII
      simp only at HII
      have hu := uses_three op
      generalize uses op = U at U0 HII hu
      rcases hu with rfl | rfl | rfl | rfl
      · have HF := Lib.hid (show I = false from by rw [← HII.out]; simp)
        have HRF := Lib.hid (show false = R from by rw [← HR.out, all_take_no HN.out (HI.out.trans HF.out)])
        go_wp2_with (first | (go_at_call 75; refine (U0 _).mono ?_; rintro e w3 ⟨rfl, rfl⟩) | (go_at_call 45; refine (within_c (by first | exact HA1.out | exact HB1.out | exact (rfl : _ = true)) _).mono ?_; rintro e w3 ⟨rfl, rfl⟩))
        go_ret
        exact ⟨ret_bool HRF.out, HXA.out⟩
      · by_cases a0 : a = 0
        · subst a0
          by_cases b0 : b' = 0
          · subst b0
            have HF := Lib.hid (show I = true from by rw [← HII.out]; simp)
            have HA2 := Lib.hid (all_take_yes HN.out (HI.out.trans HF.out) HA.out)
            go_wp2_with (first | (go_at_call 75; refine (U0 _).mono ?_; rintro e w3 ⟨rfl, rfl⟩) | (go_at_call 45; refine (within_c (by first | exact HA1.out | exact HB1.out | exact (rfl : _ = true)) _).mono ?_; rintro e w3 ⟨rfl, rfl⟩))
            go_roundg g
            case rel => exact ⟨i + 1, by omega, by go_num, HA2, HXA⟩
            case measure => omega
          · have b1 : (b' != 0) = true := by simpa using b0
            have HF := Lib.hid (show I = false from by rw [← HII.out]; simp [b0])
            have HRF := Lib.hid (show false = R from by rw [← HR.out, all_take_no HN.out (HI.out.trans HF.out)])
            go_wp2_with (first | (go_at_call 75; refine (U0 _).mono ?_; rintro e w3 ⟨rfl, rfl⟩) | (go_at_call 45; refine (within_c (by first | exact HA1.out | exact HB1.out | exact (rfl : _ = true)) _).mono ?_; rintro e w3 ⟨rfl, rfl⟩))
            go_ret
            exact ⟨ret_bool HRF.out, HXA.out⟩
        · have a1 : (a != 0) = true := by simpa using a0
          have HF := Lib.hid (show I = false from by rw [← HII.out]; simp [a0])
          have HRF := Lib.hid (show false = R from by rw [← HR.out, all_take_no HN.out (HI.out.trans HF.out)])
          go_wp2_with (first | (go_at_call 75; refine (U0 _).mono ?_; rintro e w3 ⟨rfl, rfl⟩) | (go_at_call 45; refine (within_c (by first | exact HA1.out | exact HB1.out | exact (rfl : _ = true)) _).mono ?_; rintro e w3 ⟨rfl, rfl⟩))
          go_ret
          exact ⟨ret_bool HRF.out, HXA.out⟩
      · by_cases b0 : b' = 0
        · subst b0
          cases ha : (decide (0 ≤ a) && decide (a ≤ 65535))
          · have HA1 := Lib.hid ha
            clear ha
            have HF := Lib.hid (show I = false from by rw [← HII.out]; have := HA1.out; simp at this ⊢; omega)
            have HRF := Lib.hid (show false = R from by rw [← HR.out, all_take_no HN.out (HI.out.trans HF.out)])
            go_wp2_with (first | (go_at_call 75; refine (U0 _).mono ?_; rintro e w3 ⟨rfl, rfl⟩) | (go_at_call 45; refine (within_c (by first | exact HA1.out | exact HB1.out | exact (rfl : _ = true)) _).mono ?_; rintro e w3 ⟨rfl, rfl⟩))
            go_ret
            exact ⟨ret_bool HRF.out, HXA.out⟩
          · have HA1 := Lib.hid ha
            clear ha
            have HF := Lib.hid (show I = true from by rw [← HII.out]; have := HA1.out; simp at this ⊢; omega)
            have HA2 := Lib.hid (all_take_yes HN.out (HI.out.trans HF.out) HA.out)
            go_wp2_with (first | (go_at_call 75; refine (U0 _).mono ?_; rintro e w3 ⟨rfl, rfl⟩) | (go_at_call 45; refine (within_c (by first | exact HA1.out | exact HB1.out | exact (rfl : _ = true)) _).mono ?_; rintro e w3 ⟨rfl, rfl⟩))
            go_roundg g
            case rel => exact ⟨i + 1, by omega, by go_num, HA2, HXA⟩
            case measure => omega
        · have b1 : (b' != 0) = true := by simpa using b0
          have HF := Lib.hid (show I = false from by rw [← HII.out]; simp [b0])
          have HRF := Lib.hid (show false = R from by rw [← HR.out, all_take_no HN.out (HI.out.trans HF.out)])
          go_wp2_with (first | (go_at_call 75; refine (U0 _).mono ?_; rintro e w3 ⟨rfl, rfl⟩) | (go_at_call 45; refine (within_c (by first | exact HA1.out | exact HB1.out | exact (rfl : _ = true)) _).mono ?_; rintro e w3 ⟨rfl, rfl⟩))
          go_ret
          exact ⟨ret_bool HRF.out, HXA.out⟩
      · cases ha : (decide (0 ≤ a) && decide (a ≤ 65535))
        · have HA1 := Lib.hid ha
          clear ha
          have HF := Lib.hid (show I = false from by rw [← HII.out]; have := HA1.out; simp at this ⊢; omega)
          have HRF := Lib.hid (show false = R from by rw [← HR.out, all_take_no HN.out (HI.out.trans HF.out)])
          go_wp2_with (first | (go_at_call 75; refine (U0 _).mono ?_; rintro e w3 ⟨rfl, rfl⟩) | (go_at_call 45; refine (within_c (by first | exact HA1.out | exact HB1.out | exact (rfl : _ = true)) _).mono ?_; rintro e w3 ⟨rfl, rfl⟩))
          go_ret
          exact ⟨ret_bool HRF.out, HXA.out⟩
        · have HA1 := Lib.hid ha
          clear ha
          cases hb : (decide (0 ≤ b') && decide (b' ≤ 65535))
          · have HB1 := Lib.hid hb
            clear hb
            have HF := Lib.hid (show I = false from by rw [← HII.out]; have := HB1.out; simp at this ⊢; omega)
            have HRF := Lib.hid (show false = R from by rw [← HR.out, all_take_no HN.out (HI.out.trans HF.out)])
            go_wp2_with (first | (go_at_call 75; refine (U0 _).mono ?_; rintro e w3 ⟨rfl, rfl⟩) | (go_at_call 45; refine (within_c (by first | exact HA1.out | exact HB1.out | exact (rfl : _ = true)) _).mono ?_; rintro e w3 ⟨rfl, rfl⟩))
            go_ret
            exact ⟨ret_bool HRF.out, HXA.out⟩
          · have HB1 := Lib.hid hb
            clear hb
            have HF := Lib.hid (show I = true from by rw [← HII.out]; have := HA1.out; have h2 := HB1.out; simp at this h2 ⊢; omega)
            have HA2 := Lib.hid (all_take_yes HN.out (HI.out.trans HF.out) HA.out)
            go_wp2_with (first | (go_at_call 75; refine (U0 _).mono ?_; rintro e w3 ⟨rfl, rfl⟩) | (go_at_call 45; refine (within_c (by first | exact HA1.out | exact HB1.out | exact (rfl : _ = true)) _).mono ?_; rintro e w3 ⟨rfl, rfl⟩))
            go_roundg g
            case rel => exact ⟨i + 1, by omega, by go_num, HA2, HXA⟩
            case measure => omega
    · have HRF := Lib.hid (show true = R from by
        rw [← HR.out]
        have h := HA.out
        rw [List.take_of_length_le (by rw [hN.out]; omega)] at h
        exact h.symm)
      go_wp2_with fail
      go_ret
      exact ⟨ret_bool HRF.out, HX.out⟩
end Go.Proofs.Ytkhdkepjhifffaa.PB
