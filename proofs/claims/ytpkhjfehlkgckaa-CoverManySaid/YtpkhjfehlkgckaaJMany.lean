/- CoverMany: the walk. -/
import Derived.Test.YtpkhjfehlkgckaaDI
namespace Go.Proofs.Ytpkhjfehlkgckaa.coverMany
open Go.RowKit Go.Proofs.Ytpkhjfehlkgckaa.CA Go.Proofs.Ytpkhjfehlkgckaa.CB Go.Proofs.Ytpkhjfehlkgckaa.CC Go.Proofs.Ytpkhjfehlkgckaa.CD Go.Proofs.Ytpkhjfehlkgckaa.CE Go.Proofs.Ytpkhjfehlkgckaa.CF Go.Proofs.Ytpkhjfehlkgckaa.CG Go.Proofs.Ytpkhjfehlkgckaa.CH Go.Proofs.Ytpkhjfehlkgckaa.CK Go.Proofs.Ytpkhjfehlkgckaa.CI Go.Proofs.Ytpkhjfehlkgckaa.CO Go.Proofs.Ytpkhjfehlkgckaa.CU Go.Proofs.Ytpkhjfehlkgckaa.CV Go.Proofs.Ytpkhjfehlkgckaa.CW Go.Proofs.Ytpkhjfehlkgckaa.DB Go.Proofs.Ytpkhjfehlkgckaa.DA Go.Proofs.Ytpkhjfehlkgckaa.DC Go.Proofs.Ytpkhjfehlkgckaa.DE Go.Proofs.Ytpkhjfehlkgckaa.DF Go.Proofs.Ytpkhjfehlkgckaa.DG Go.Proofs.Ytpkhjfehlkgckaa.DH Go.Proofs.Ytpkhjfehlkgckaa.DI
set_option linter.unusedVariables false
set_option maxRecDepth 100000 in
set_option maxHeartbeats 4000000 in
theorem walk (w : World) (n : Int) (l : -9223372036854775808 ≤ n) (u : n ≤ 9223372036854775807) :
    Calls Try.prog 3 #[.int .i64 n] w fun e w' => e = .returned (.bool true) ∧ Below w.heap.size w w' := by
  by_cases h0 : n < 0
  case pos =>
    go_enter Try.func3, Try.ntmps3
    go_wp2_with fail
    obtain ⟨N, hN, hV⟩ : ∃ N : Nat, N < 26 ∧ -(n + 1).tmod 26 = (N : Int) := ⟨(-(n + 1)).toNat % 26, by omega, by rw [← Int.neg_tmod, Int.tmod_eq_emod_of_nonneg (by omega)]; omega⟩
    clear l u h0
    generalize -(n + 1).tmod 26 = V at hV ⊢
    subst hV
    have HO0 := Lib.hid (OwnN.nil (S := Any) w w (Below.refl _ _))
    go_loopg [3, 4] N (fun g lv jv wr => ∃ j : Nat, j + g = N ∧ jv = .int .i64 (j : Int) ∧ Hid (OwnN w wr Any lv (ints j)))
    case atStart => exact ⟨0, Nat.zero_add _, rfl, HO0⟩
    case round =>
      obtain ⟨j, hj, rfl, HO⟩ := hrel
      clear HO0
      by_cases hlt : j < N
      · obtain ⟨g, rfl⟩ : ∃ g, gk = g + 1 := ⟨gk - 1, by omega⟩
        have hw : IntKind.i64.wrap (3 * (j : Int)) = 3 * (j : Int) := IntWalk.i64_in _ (by omega)
        have HNE := Lib.hid (show (ints j).length ≤ 10000 from by rw [ints_len]; omega)
        have hji : (j : Int) < (N : Int) := by omega
        go_wp2_with (at_builtin; go_loud (refine wpList_node w _ rfl (.tmp 21) (.tmp 25) rfl u3 (ints j) (.mk 1 (3 * (j : Int)) [] []) (.slice none 0 0) wr.heap.size rfl rfl (HO.out.keep (balloc _ _)) (ncells_new wr (.mk 1 (3 * (j : Int)) [] []) (.slice none 0 0) 25) (leafN w 1 (3 * (j : Int)) []) HNE.out ?_); intro v6 w6 hO6; have HO6 := Lib.hid hO6; clear hO6)
        go_roundg g
        case rel => exact ⟨j + 1, by omega, by go_num, Lib.hid (by rw [ints_snoc]; exact HO6.out)⟩
        case measure => omega
      · have hjn : j = N := by omega
        subst hjn
        have hni : ¬ (j : Int) < (j : Int) := by omega
        have HMO := Lib.hid (many_ok hN)
        obtain ⟨lo, lc, e⟩ := HO.out.val
        rw [ints_len] at e
        subst e
        obtain ⟨a1, b1, hc1⟩ : ∃ a b, chk [] (ints j) = (a, b) := ⟨_, _, rfl⟩
        obtain ⟨a2, b2, hc2⟩ : ∃ a b, chk [] (ints j ++ [anyNd]) = (a, b) := ⟨_, _, rfl⟩
        have CK1 := fun (w' : World) (v' : Value) (hr : RowN w' Any v' (ints j)) => check_is [] (ints j) v' (.slice none 0 0) w' a1 b1 (nil_in w' none 0) hr (by rw [ints_len]; omega) (fun p hp => ints_sz hp) hc1
        have CK2 := fun (w' : World) (v' : Value) (hr : RowN w' Any v' (ints j ++ [anyNd])) => check_is [] (ints j ++ [anyNd]) v' (.slice none 0 0) w' a2 b2 (nil_in w' none 0) hr (by rw [List.length_append, ints_len]; simp; omega) (fun p hp => by rcases List.mem_append.1 hp with hp | hp; exact ints_sz hp; rw [List.mem_singleton.1 hp]; decide) hc2
        have hb1 := HMO.out.1
        have hb2 := HMO.out.2
        rw [hc1] at hb1
        rw [hc2] at hb2
        simp only at hb1 hb2
        clear hc1 hc2 HMO hlt
        have hcase : (j ≤ 19 ∧ b1 = 26 ∧ b2 = 0) ∨ ((20 ≤ j ∧ j ≤ 20) ∧ b1 = 26 ∧ b2 = 1) ∨ (20 < j ∧ b1 = 1 ∧ b2 = 1) := by
          by_cases h20 : j ≤ 20
          · rw [if_pos h20] at hb1
            by_cases h19 : j ≤ 19
            · rw [if_pos h19] at hb2
              exact .inl ⟨h19, hb1, hb2⟩
            · rw [if_neg h19] at hb2
              exact .inr (.inl ⟨⟨by omega, h20⟩, hb1, hb2⟩)
          · rw [if_neg h20] at hb1
            rw [if_neg (by omega)] at hb2
            exact .inr (.inr ⟨by omega, hb1, hb2⟩)
        clear hb1 hb2
        rcases hcase with ⟨hjj, rfl, rfl⟩ | ⟨⟨hjj, hjk⟩, rfl, rfl⟩ | ⟨hjj, rfl, rfl⟩
        all_goals
          go_wp2_with fail
          refine (CK1 _ _ (HO.out.row.mv (Mv.weak _ fun _ _ _ => trivial))).mono ?_
          rintro x w2 ⟨rfl, hbb2⟩
          have HO2 := Lib.hid (HO.out.keep hbb2)
          clear hbb2
          go_wp2_with fail
          refine (any_c _).mono ?_
          rintro x w3 ⟨rfl, hbb3⟩
          have HO3 := Lib.hid ((HO2.out.keep hbb3).keep (balloc w3 (.cells #[.int .i64 24, .string ⟨#[]⟩, .int .i64 0, .int .i64 0, .slice none 0 0, .slice none 0 0] 25)))
          have HNE := Lib.hid (show (ints j).length ≤ 10000 from by rw [ints_len]; omega)
          clear hbb3
          go_wp2_with (at_builtin; go_loud (refine wpList_node w _ rfl (.tmp 32) (.tmp 34) rfl (.slice lo j lc) (ints j) anyNd (.slice none 0 0) w3.heap.size rfl rfl HO3.out (ncells_new w3 anyNd (.slice none 0 0) 25) (leafN w 24 0 []) HNE.out ?_); intro v6 w6 hO6; have HO6 := Lib.hid hO6; clear hO6)
          refine (CK2 _ _ (HO6.out.row.mv (Mv.weak _ fun _ _ _ => trivial))).mono ?_
          rintro x w7 ⟨rfl, hb7⟩
          have HB7 := Lib.hid (bnext HO6.out.below hb7)
          clear hb7
          go_wp2_with fail
          refine (lives_c _).mono ?_
          rintro x w8 ⟨rfl, hb8⟩
          have HB8 := Lib.hid (bnext HB7.out hb8)
          clear hb8
          go_wp2_with fail
          go_ret
          first | exact ⟨rfl, HB8.out⟩ | exact ⟨ret_bool (by simp; omega), HB8.out⟩
  case neg =>
    go_enter Try.func3, Try.ntmps3
    go_wp2_with fail
    obtain ⟨N, hN, hV⟩ : ∃ N : Nat, N < 26 ∧ n % 26 = (N : Int) := ⟨n.toNat % 26, by omega, by omega⟩
    clear l u h0
    generalize n % 26 = V at hV ⊢
    subst hV
    have HO0 := Lib.hid (OwnN.nil (S := Any) w w (Below.refl _ _))
    go_loopg [3, 4] N (fun g lv jv wr => ∃ j : Nat, j + g = N ∧ jv = .int .i64 (j : Int) ∧ Hid (OwnN w wr Any lv (ints j)))
    case atStart => exact ⟨0, Nat.zero_add _, rfl, HO0⟩
    case round =>
      obtain ⟨j, hj, rfl, HO⟩ := hrel
      clear HO0
      by_cases hlt : j < N
      · obtain ⟨g, rfl⟩ : ∃ g, gk = g + 1 := ⟨gk - 1, by omega⟩
        have hw : IntKind.i64.wrap (3 * (j : Int)) = 3 * (j : Int) := IntWalk.i64_in _ (by omega)
        have HNE := Lib.hid (show (ints j).length ≤ 10000 from by rw [ints_len]; omega)
        have hji : (j : Int) < (N : Int) := by omega
        go_wp2_with (at_builtin; go_loud (refine wpList_node w _ rfl (.tmp 21) (.tmp 25) rfl u3 (ints j) (.mk 1 (3 * (j : Int)) [] []) (.slice none 0 0) wr.heap.size rfl rfl (HO.out.keep (balloc _ _)) (ncells_new wr (.mk 1 (3 * (j : Int)) [] []) (.slice none 0 0) 25) (leafN w 1 (3 * (j : Int)) []) HNE.out ?_); intro v6 w6 hO6; have HO6 := Lib.hid hO6; clear hO6)
        go_roundg g
        case rel => exact ⟨j + 1, by omega, by go_num, Lib.hid (by rw [ints_snoc]; exact HO6.out)⟩
        case measure => omega
      · have hjn : j = N := by omega
        subst hjn
        have hni : ¬ (j : Int) < (j : Int) := by omega
        have HMO := Lib.hid (many_ok hN)
        obtain ⟨lo, lc, e⟩ := HO.out.val
        rw [ints_len] at e
        subst e
        obtain ⟨a1, b1, hc1⟩ : ∃ a b, chk [] (ints j) = (a, b) := ⟨_, _, rfl⟩
        obtain ⟨a2, b2, hc2⟩ : ∃ a b, chk [] (ints j ++ [anyNd]) = (a, b) := ⟨_, _, rfl⟩
        have CK1 := fun (w' : World) (v' : Value) (hr : RowN w' Any v' (ints j)) => check_is [] (ints j) v' (.slice none 0 0) w' a1 b1 (nil_in w' none 0) hr (by rw [ints_len]; omega) (fun p hp => ints_sz hp) hc1
        have CK2 := fun (w' : World) (v' : Value) (hr : RowN w' Any v' (ints j ++ [anyNd])) => check_is [] (ints j ++ [anyNd]) v' (.slice none 0 0) w' a2 b2 (nil_in w' none 0) hr (by rw [List.length_append, ints_len]; simp; omega) (fun p hp => by rcases List.mem_append.1 hp with hp | hp; exact ints_sz hp; rw [List.mem_singleton.1 hp]; decide) hc2
        have hb1 := HMO.out.1
        have hb2 := HMO.out.2
        rw [hc1] at hb1
        rw [hc2] at hb2
        simp only at hb1 hb2
        clear hc1 hc2 HMO hlt
        have hcase : (j ≤ 19 ∧ b1 = 26 ∧ b2 = 0) ∨ ((20 ≤ j ∧ j ≤ 20) ∧ b1 = 26 ∧ b2 = 1) ∨ (20 < j ∧ b1 = 1 ∧ b2 = 1) := by
          by_cases h20 : j ≤ 20
          · rw [if_pos h20] at hb1
            by_cases h19 : j ≤ 19
            · rw [if_pos h19] at hb2
              exact .inl ⟨h19, hb1, hb2⟩
            · rw [if_neg h19] at hb2
              exact .inr (.inl ⟨⟨by omega, h20⟩, hb1, hb2⟩)
          · rw [if_neg h20] at hb1
            rw [if_neg (by omega)] at hb2
            exact .inr (.inr ⟨by omega, hb1, hb2⟩)
        clear hb1 hb2
        rcases hcase with ⟨hjj, rfl, rfl⟩ | ⟨⟨hjj, hjk⟩, rfl, rfl⟩ | ⟨hjj, rfl, rfl⟩
        all_goals
          go_wp2_with fail
          refine (CK1 _ _ (HO.out.row.mv (Mv.weak _ fun _ _ _ => trivial))).mono ?_
          rintro x w2 ⟨rfl, hbb2⟩
          have HO2 := Lib.hid (HO.out.keep hbb2)
          clear hbb2
          go_wp2_with fail
          refine (any_c _).mono ?_
          rintro x w3 ⟨rfl, hbb3⟩
          have HO3 := Lib.hid ((HO2.out.keep hbb3).keep (balloc w3 (.cells #[.int .i64 24, .string ⟨#[]⟩, .int .i64 0, .int .i64 0, .slice none 0 0, .slice none 0 0] 25)))
          have HNE := Lib.hid (show (ints j).length ≤ 10000 from by rw [ints_len]; omega)
          clear hbb3
          go_wp2_with (at_builtin; go_loud (refine wpList_node w _ rfl (.tmp 32) (.tmp 34) rfl (.slice lo j lc) (ints j) anyNd (.slice none 0 0) w3.heap.size rfl rfl HO3.out (ncells_new w3 anyNd (.slice none 0 0) 25) (leafN w 24 0 []) HNE.out ?_); intro v6 w6 hO6; have HO6 := Lib.hid hO6; clear hO6)
          refine (CK2 _ _ (HO6.out.row.mv (Mv.weak _ fun _ _ _ => trivial))).mono ?_
          rintro x w7 ⟨rfl, hb7⟩
          have HB7 := Lib.hid (bnext HO6.out.below hb7)
          clear hb7
          go_wp2_with fail
          refine (lives_c _).mono ?_
          rintro x w8 ⟨rfl, hb8⟩
          have HB8 := Lib.hid (bnext HB7.out hb8)
          clear hb8
          go_wp2_with fail
          go_ret
          first | exact ⟨rfl, HB8.out⟩ | exact ⟨ret_bool (by simp; omega), HB8.out⟩
end Go.Proofs.Ytpkhjfehlkgckaa.coverMany
