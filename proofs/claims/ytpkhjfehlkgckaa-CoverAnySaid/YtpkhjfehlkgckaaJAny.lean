/- CoverAny: the walk. -/
import Derived.Test.YtpkhjfehlkgckaaDI
namespace Go.Proofs.Ytpkhjfehlkgckaa.coverAny
open Go.RowKit Go.Proofs.Ytpkhjfehlkgckaa.CA Go.Proofs.Ytpkhjfehlkgckaa.CB Go.Proofs.Ytpkhjfehlkgckaa.CC Go.Proofs.Ytpkhjfehlkgckaa.CD Go.Proofs.Ytpkhjfehlkgckaa.CE Go.Proofs.Ytpkhjfehlkgckaa.CF Go.Proofs.Ytpkhjfehlkgckaa.CG Go.Proofs.Ytpkhjfehlkgckaa.CH Go.Proofs.Ytpkhjfehlkgckaa.CK Go.Proofs.Ytpkhjfehlkgckaa.CI Go.Proofs.Ytpkhjfehlkgckaa.CO Go.Proofs.Ytpkhjfehlkgckaa.CU Go.Proofs.Ytpkhjfehlkgckaa.CV Go.Proofs.Ytpkhjfehlkgckaa.CW Go.Proofs.Ytpkhjfehlkgckaa.DB Go.Proofs.Ytpkhjfehlkgckaa.DA Go.Proofs.Ytpkhjfehlkgckaa.DC Go.Proofs.Ytpkhjfehlkgckaa.DE Go.Proofs.Ytpkhjfehlkgckaa.DF Go.Proofs.Ytpkhjfehlkgckaa.DG Go.Proofs.Ytpkhjfehlkgckaa.DH Go.Proofs.Ytpkhjfehlkgckaa.DI
set_option linter.unusedVariables false
set_option maxRecDepth 100000 in
set_option maxHeartbeats 4000000 in
theorem walk (w : World) (f : Nat) (v : Value) (hv : ArgS w f v) :
    Calls Try.prog 6 #[v] w fun e w' => e = .returned (.bool true) ∧ Below w.heap.size w w' := by
  have LV := fun w => lives_c w
  have C8' := fun w => cons_c w
  go_enter Try.func6, Try.ntmps6
  go_wp2_with fail
  refine (few_c f v _ hv).mono ?_
  rintro e w1 ⟨v1, L, rfl, hO, hL5, hsz, hb1⟩
  have HO := Lib.hid hO
  have HS := Lib.hid (show ∀ p, p ∈ L → sz p ≤ 5000 from fun p hp => Nat.le_trans (hsz p hp) (by decide))
  have HB1 := Lib.hid hb1
  have HL5 := Lib.hid hL5
  clear hO hL5 hsz hb1
  go_wp2_with fail
  refine (C8' _).mono ?_
  rintro e w2 ⟨rfl, hrc, hb2⟩
  have HRC := Lib.hid hrc
  have HB2 := Lib.hid (bnext HB1.out hb2)
  have HR2 := Lib.hid (show RowN w2 Any v1 L from ((HO.out.keep hb2).row).mv (Mv.weak _ fun _ _ _ => trivial))
  clear hrc hb2
  obtain ⟨W1, hW1⟩ : ∃ W1, Hid (w1.heap.size = W1) := ⟨_, Lib.hid rfl⟩
  rw [hW1.out] at HRC ⊢
  obtain ⟨lo, lc, e, _⟩ := HR2.out.val
  subst e
  obtain ⟨NL, hNL⟩ : ∃ NL, Hid (L.length = NL) := ⟨_, Lib.hid rfl⟩
  rw [hNL.out] at HR2 ⊢
  obtain ⟨n, e, hch⟩ : ∃ n e, chk C8 L = (n, e) := ⟨_, _, rfl⟩
  have HCH := Lib.hid hch
  clear hch
  go_wp2_with fail
  refine (check_is C8 L _ _ _ n e (cons_in HRC.out) HR2.out (by have := HL5.out; omega) HS.out HCH.out).mono ?_
  rintro x w3 ⟨rfl, hb3⟩
  have HB3 := Lib.hid (bnext HB2.out hb3)
  have HR3 := Lib.hid (HR2.out.keep hb3)
  have HRC3 := Lib.hid (RowC.keep HRC.out hb3)
  clear hb3
  go_wp2_with fail
  refine (any_c _).mono ?_
  rintro x w4 ⟨rfl, hb4⟩
  have hal4 := balloc w4 (.cells #[.int .i64 24, .string ⟨#[]⟩, .int .i64 0, .int .i64 0, .slice none 0 0, .slice none 0 0] 25)
  have HB4 := Lib.hid (bnext HB3.out (bnext hb4 hal4))
  have HR4 := Lib.hid ((HR3.out.keep hb4).keep hal4)
  have HRC4 := Lib.hid (RowC.keep (RowC.keep HRC3.out hb4) hal4)
  have HX4 := Lib.hid (any_row w4 Any 25 trivial)
  have HA4 : Hid (AppD (w4.alloc (.cells #[.int .i64 24, .string ⟨#[]⟩, .int .i64 0, .int .i64 0, .slice none 0 0, .slice none 0 0] 25)) (w4.alloc (.cells #[.int .i64 24, .string ⟨#[]⟩, .int .i64 0, .int .i64 0, .slice none 0 0, .slice none 0 0] 25)) Any (.slice none 0 0) []) := Lib.hid ⟨[], trivial, Below.refl _ _, .inr (World.ownsRow_nil _ _ _ _)⟩
  have HLN := Lib.hid (show ([] : List Nd).length + [anyNd].length ≤ 1000000 ∧ ([] ++ [anyNd] : List Nd).length + L.length ≤ 1000000 from ⟨by decide, by have := HL5.out; simp; omega⟩)
  clear hb4 hal4
  go_wp2_with (at_builtin; go_loud (first | (refine wpList_app _ rfl (.tmp 19) (.tmp 21) rfl (.slice none 0 0) _ [] [anyNd] rfl rfl HA4.out HX4.out HLN.out.1 ?_; intro v5 w5 hA5; have HA5 := Lib.hid hA5; clear hA5) | (refine wpList_app _ rfl (.tmp 23) (.tmp 24) rfl v5 _ ([] ++ [anyNd]) L rfl rfl HA5.out HR4.out HLN.out.2 ?_; intro v6 w6 hA6; have HA6 := Lib.hid hA6; clear hA6)))
  have HR6 := Lib.hid (show RowN w6 Any v6 (anyNd :: L) from HA6.out.row.1.mv (Mv.weak _ fun _ _ _ => trivial))
  have HRC6 := Lib.hid (RowC.keep HRC4.out HA6.out.row.2)
  have HB6 := Lib.hid (bnext HB4.out HA6.out.row.2)
  have HS6 := Lib.hid (show ∀ p, p ∈ anyNd :: L → sz p ≤ 5000 from fun p hp => by
    rcases List.mem_cons.1 hp with rfl | hp
    · decide
    · exact HS.out p hp)
  have key := any_first L (by have := HL5.out; omega) n e HCH.out
  rcases key with ⟨he, hc2⟩ | ⟨he, hl, hc2⟩ | ⟨he, hl, hc2⟩
  · subst he
    refine (check_is C8 (anyNd :: L) _ _ _ 0 1 (cons_in HRC6.out) HR6.out (by have := HL5.out; simp; omega) HS6.out hc2).mono ?_
    rintro x w7 ⟨rfl, hb7⟩
    have HB7 := Lib.hid (bnext HB6.out hb7)
    clear hb7 hc2
    go_wp2_with fail
    refine (LV _).mono ?_
    rintro x w8 ⟨rfl, hb8⟩
    have HB8 := Lib.hid (bnext HB7.out hb8)
    clear hb8
    go_wp2_with fail
    go_ret
    exact ⟨rfl, HB8.out⟩
  · have hn0 : NL = 0 := by rw [← hNL.out, hl]; rfl
    subst hn0
    refine (check_is C8 (anyNd :: L) _ _ _ 0 0 (cons_in HRC6.out) HR6.out (by have := HL5.out; simp; omega) HS6.out hc2).mono ?_
    rintro x w7 ⟨rfl, hb7⟩
    have HB7 := Lib.hid (bnext HB6.out hb7)
    clear hb7 hc2 hl
    go_wp2_with fail
    refine (LV _).mono ?_
    rintro x w8 ⟨rfl, hb8⟩
    have HB8 := Lib.hid (bnext HB7.out hb8)
    clear hb8
    go_wp2_with fail
    go_ret
    exact ⟨rfl, HB8.out⟩
  · have hn0 : ((NL : Int) == 0) = false := by
      have h1 : 0 < L.length := List.length_pos_iff.2 hl
      have h2 := hNL.out
      simp; omega
    refine (check_is C8 (anyNd :: L) _ _ _ 1 27 (cons_in HRC6.out) HR6.out (by have := HL5.out; simp; omega) HS6.out hc2).mono ?_
    rintro x w7 ⟨rfl, hb7⟩
    have HB7 := Lib.hid (bnext HB6.out hb7)
    clear hb7 hc2 hl
    go_wp2_with fail
    refine (LV _).mono ?_
    rintro x w8 ⟨rfl, hb8⟩
    have HB8 := Lib.hid (bnext HB7.out hb8)
    clear hb8
    go_wp2_with fail
    go_ret
    exact ⟨rfl, HB8.out⟩
end Go.Proofs.Ytpkhjfehlkgckaa.coverAny
