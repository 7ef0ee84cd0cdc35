/- CoverOrder: the walk. -/
import Derived.Test.YtpkhjfehlkgckaaDI
namespace Go.Proofs.Ytpkhjfehlkgckaa.coverOrder
open Go.RowKit Go.Proofs.Ytpkhjfehlkgckaa.CA Go.Proofs.Ytpkhjfehlkgckaa.CB Go.Proofs.Ytpkhjfehlkgckaa.CC Go.Proofs.Ytpkhjfehlkgckaa.CD Go.Proofs.Ytpkhjfehlkgckaa.CE Go.Proofs.Ytpkhjfehlkgckaa.CF Go.Proofs.Ytpkhjfehlkgckaa.CG Go.Proofs.Ytpkhjfehlkgckaa.CH Go.Proofs.Ytpkhjfehlkgckaa.CK Go.Proofs.Ytpkhjfehlkgckaa.CI Go.Proofs.Ytpkhjfehlkgckaa.CO Go.Proofs.Ytpkhjfehlkgckaa.CU Go.Proofs.Ytpkhjfehlkgckaa.CV Go.Proofs.Ytpkhjfehlkgckaa.CW Go.Proofs.Ytpkhjfehlkgckaa.DB Go.Proofs.Ytpkhjfehlkgckaa.DA Go.Proofs.Ytpkhjfehlkgckaa.DC Go.Proofs.Ytpkhjfehlkgckaa.DE Go.Proofs.Ytpkhjfehlkgckaa.DF Go.Proofs.Ytpkhjfehlkgckaa.DG Go.Proofs.Ytpkhjfehlkgckaa.DH Go.Proofs.Ytpkhjfehlkgckaa.DI
set_option linter.unusedVariables false
set_option maxRecDepth 100000 in
set_option maxHeartbeats 4000000 in
theorem walk (w : World) (f : Nat) (v : Value) (hv : ArgS w f v) :
    Calls Try.prog 5 #[v] w fun e w' => e = .returned (.bool true) ∧ Below w.heap.size w w' := by
  have LV := fun w => lives_c w
  have C8' := fun w => cons_c w
  go_enter Try.func5, Try.ntmps5
  go_wp2_with fail
  refine (few_c f v _ hv).mono ?_
  rintro e w1 ⟨v1, L, rfl, hO, hL5, hsz, hb1⟩
  have HO := Lib.hid hO
  have HS := Lib.hid (show ∀ p, p ∈ L → sz p ≤ 5000 from fun p hp => Nat.le_trans (hsz p hp) (by decide))
  have HB1 := Lib.hid hb1
  clear hO hsz hb1
  go_wp2_with fail
  refine (C8' _).mono ?_
  rintro e w2 ⟨rfl, hrc, hb2⟩
  have HRC := Lib.hid hrc
  have HB2 := Lib.hid (bnext HB1.out hb2)
  have HR2 := Lib.hid (show RowN w2 Any v1 L from ((HO.out.keep hb2).row).mv (Mv.weak _ fun _ _ _ => trivial))
  clear hrc hb2 HO
  obtain ⟨W1, hW1⟩ : ∃ W1, Hid (w1.heap.size = W1) := ⟨_, Lib.hid rfl⟩
  rw [hW1.out] at HRC ⊢
  obtain ⟨lo, lc, e, _⟩ := HR2.out.val
  subst e
  obtain ⟨NL, hNL⟩ : ∃ NL, Hid (L.length = NL) := ⟨_, Lib.hid rfl⟩
  rw [hNL.out] at HR2 hL5 ⊢
  have hw0 : IntKind.i64.wrap ((NL : Int) - 1) = (NL : Int) - 1 := IntWalk.i64_in _ (by omega)
  obtain ⟨n, e, hch⟩ : ∃ n e, chk C8 L = (n, e) := ⟨_, _, rfl⟩
  obtain ⟨m, d, hck⟩ : ∃ n e, chk C8 L.reverse = (n, e) := ⟨_, _, rfl⟩
  have KEY := Lib.hid (order_same sound8 L n e m d hch hck)
  have HCH := Lib.hid hch
  have HCK := Lib.hid hck
  clear hch hck
  go_wp2_with fail
  have HO0 := Lib.hid (OwnN.nil (S := Any) w2 w2 (Below.refl _ _))
  go_loopg [5, 6] NL (fun g bv iv wr => ∃ r : Nat, r + g = NL ∧ iv = .int .i64 ((NL : Int) - 1 - (r : Int)) ∧ Hid (OwnN w2 wr Any bv (L.reverse.take r)))
  case atStart => exact ⟨0, Nat.zero_add _, by simp, HO0⟩
  case round =>
    obtain ⟨r, hr, rfl, HOr⟩ := hrel
    clear HO0
    by_cases hlt : r < NL
    · obtain ⟨g, rfl⟩ : ∃ g, gk = g + 1 := ⟨gk - 1, by omega⟩
      obtain ⟨i, hi⟩ : ∃ i : Nat, (NL : Int) - 1 - (r : Int) = (i : Int) := ⟨NL - 1 - r, by omega⟩
      have HI := Lib.hid hi
      have hiN : i < NL := by omega
      rw [hi]
      have hlne : L ≠ [] := by intro e; have := hNL.out; rw [e] at this; simp at this; omega
      have hR2 := HR2.out
      rw [← hNL.out] at hR2
      obtain ⟨b, off, cap', hve, _, hblt, hcells⟩ := hR2.open_ hlne
      cases hve
      obtain ⟨p, hp⟩ := getElem?_of_lt (l := L) (k := i) (by rw [hNL.out]; exact hiN)
      obtain ⟨q, hLs, hq⟩ := hcells i p hp
      have HT := Lib.hid (show L.reverse.take (r + 1) = L.reverse.take r ++ [p] from by
        rw [List.take_add_one, List.getElem?_reverse (by rw [hNL.out]; exact hlt), show L.length - 1 - r = i from by have := hNL.out; omega, hp]; rfl)
      obtain ⟨x0, x1, x2, x3, x4, x5⟩ := hLs.keep HOr.out.below hblt
      obtain ⟨k2, n2, s2, l2⟩ := p
      simp only [Nd.k, Nd.n, Nd.s] at x0 x1 x2
      have xq : ∃ x y z, q = .slice x y z := by obtain ⟨x, y, e, _⟩ := (hasN_row.1 hq).val; exact ⟨x, _, y, e⟩
      obtain ⟨qx, qy, qz, rfl⟩ := xq
      have HQ := Lib.hid hq
      have HNE := Lib.hid (show (L.reverse.take r).length ≤ 10000 from by rw [List.length_take, List.length_reverse, hNL.out]; omega)
      have i0 : (0 : Int) ≤ (i : Int) := by omega
      have i1 : (i : Int) < (L.length : Int) := by rw [hNL.out]; omega
      have hw : IntKind.i64.wrap ((i : Int) - 1) = (NL : Int) - 1 - ((r + 1 : Nat) : Int) := by rw [IntWalk.i64_in _ (by omega)]; omega
      clear hR2 hcells hLs hq hp hi
      go_wp2_with (at_builtin; go_loud (refine wpList_node w2 _ rfl (.tmp 21) (.tmp 26) rfl u5 (L.reverse.take r) (.mk k2 n2 s2 l2) (.slice qx qy qz) wr.heap.size rfl rfl (HOr.out.keep (balloc _ _)) (ncells_new wr (.mk k2 n2 s2 l2) (.slice qx qy qz) 25) HQ.out HNE.out ?_); intro v6 w6 hO6; have HO6 := Lib.hid hO6; clear hO6)
      go_roundg g
      case rel => exact ⟨r + 1, by omega, rfl, Lib.hid (by rw [HT.out]; exact HO6.out)⟩
      case measure => omega
    · have hn : ¬ (0 : Int) ≤ (NL : Int) - 1 - (r : Int) := by omega
      have hO := HOr.out
      rw [List.take_of_length_le (by rw [List.length_reverse, hNL.out]; omega)] at hO
      have HB := Lib.hid hO.below
      have HRV := Lib.hid (show RowN wr Any u5 L.reverse from hO.row.mv (Mv.weak _ fun _ _ _ => trivial))
      have HSV := Lib.hid (show ∀ p, p ∈ L.reverse → sz p ≤ 5000 from fun p hp => HS.out p (List.mem_reverse.1 hp))
      clear hO HOr
      have CK1 := fun (w' : World) (hb : Below w2.heap.size w2 w') => check_is C8 L (.slice lo NL lc) _ w' n e (cons_in (RowC.keep HRC.out hb)) (HR2.out.keep hb) (by rw [hNL.out]; omega) HS.out HCH.out
      have CK2 := fun (w' : World) (hb : Below wr.heap.size wr w') => check_is C8 L.reverse u5 _ w' m d (cons_in (RowC.keep (RowC.keep HRC.out HB.out) hb)) (HRV.out.keep hb) (by rw [List.length_reverse, hNL.out]; omega) HSV.out HCK.out
      have hcase : (e == 27) = true ∨ ((e == 27) = false ∧ (d == 27) = true) ∨ ((e == 27) = false ∧ (d == 27) = false ∧ e = d) := by
        rcases KEY.out with h | h | h
        · exact .inl h
        · cases he : (e == 27) with
          | true => exact .inl rfl
          | false => exact .inr (.inl ⟨rfl, h⟩)
        · cases he : (e == 27) with
          | true => exact .inl rfl
          | false => exact .inr (.inr ⟨rfl, by rw [← h]; exact he, h⟩)
      rcases hcase with h1 | ⟨h1, h2⟩ | ⟨h1, h2, rfl⟩
      all_goals
        go_wp2_with fail
        refine (CK1 _ HB.out).mono ?_
        rintro x w4 ⟨rfl, hb4⟩
        have HB4 := Lib.hid hb4
        clear hb4
        go_wp2_with fail
        refine (CK2 _ HB4.out).mono ?_
        rintro x w5 ⟨rfl, hb5⟩
        have HB5 := Lib.hid (bnext HB2.out (bnext HB.out (bnext HB4.out hb5)))
        clear hb5
        go_wp2_with fail
        refine (LV _).mono ?_
        rintro x w8 ⟨rfl, hb8⟩
        have HB8 := Lib.hid (bnext HB5.out hb8)
        clear hb8
        go_wp2_with fail
        go_ret
        exact ⟨rfl, HB8.out⟩
end Go.Proofs.Ytpkhjfehlkgckaa.coverOrder
