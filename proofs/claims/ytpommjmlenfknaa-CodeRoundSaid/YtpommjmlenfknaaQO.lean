/- Bytes read as a code, by the document: the walk of Decode. -/
import Derived.Test.YtpommjmlenfknaaQL
import Derived.Test.YtpommjmlenfknaaQN
import Derived.Deep.CutBlock
import Derived.Deep.DeepCutAuto
namespace Go.Proofs.Ytpommjmlenfknaa.QO
open Go.RowKit Go.Proofs.Ytpommjmlenfknaa.RG Go.Proofs.Ytpommjmlenfknaa.KA Go.Proofs.Ytpommjmlenfknaa.KB Go.Proofs.Ytpommjmlenfknaa.KC Go.Proofs.Ytpommjmlenfknaa.KD Go.Proofs.Ytpommjmlenfknaa.KH Go.Proofs.Ytpommjmlenfknaa.PE Go.Proofs.Ytpommjmlenfknaa.PL Go.Proofs.Ytpommjmlenfknaa.QA Go.Proofs.Ytpommjmlenfknaa.QB Go.Proofs.Ytpommjmlenfknaa.QC Go.Proofs.Ytpommjmlenfknaa.QD Go.Proofs.Ytpommjmlenfknaa.QE Go.Proofs.Ytpommjmlenfknaa.QF Go.Proofs.Ytpommjmlenfknaa.QG Go.Proofs.Ytpommjmlenfknaa.QI Go.Proofs.Ytpommjmlenfknaa.QK Go.Proofs.Ytpommjmlenfknaa.QL Go.Proofs.Ytpommjmlenfknaa.QM Go.Proofs.Ytpommjmlenfknaa.QN
set_option linter.unusedVariables false
set_option maxRecDepth 100000
set_option maxRecDepth 100000

theorem _root_.Go.Proofs.Ytpommjmlenfknaa.QF.On.wide {x y : Nat} {w w' : World} (h : On x x w w') : On x y w w' := ⟨h.os, h.tape, h.output, h.size, fun k hk hx _ => h.block k hk hx hx⟩
theorem _root_.Go.Proofs.Ytpommjmlenfknaa.QM.RdD.grown {w0 w w' : World} {B x : Nat} {bv : Value} {b : By} {s : St} {row : Option Nat} (h : RdD w0 w x bv b s) (hg : w.grownBy w' row) (hr : ∀ b, row = some b → B ≤ b) (hx : x < B) : RdD w0 w' x bv b s := by
  obtain ⟨i, h1, h2⟩ := h.at_
  have e0 : w0.heap.size ≤ B := by have := h.hx; omega
  exact ⟨⟨i, h1.grown hg (fun e => by have := hr x e; omega), h2⟩, h.row, h.old.trans (bgrown hg (fun b hb => Nat.le_trans e0 (hr b hb)) h.old.size), h.hx, h.few⟩
theorem dcode_eq (s : St) : dcodeP s = (⟨(dlistP dbodyP (dlistP dtextP (dlistP dintP (one s).2).2).2).1, (dlistP dintP (one s).2).1, (dlistP dtextP (dlistP dintP (one s).2).2).1, (one s).1⟩, (dlistP dbodyP (dlistP dtextP (dlistP dintP (one s).2).2).2).2) := by
  unfold dcodeP mapP seqP
  generalize dlistP dintP = L
  generalize dlistP dtextP = M
  generalize dlistP dbodyP = N
  rfl
theorem dbody_eq (s : St) : dbodyP s = (⟨(one s).1, (one (one s).2).1, (one (one (one s).2).2).1, (manyS dinsP (pair (one (one (one s).2).2).2).1.toNat (pair (one (one (one s).2).2).2).2).1⟩, (manyS dinsP (pair (one (one (one s).2).2).2).1.toNat (pair (one (one (one s).2).2).2).2).2) := by
  unfold dbodyP mapP seqP dcodesP
  rfl
theorem dins_eq (s : St) : dinsP s = (⟨(one s).1, (pair (one s).2).1, (pair (pair (one s).2).2).1⟩, (pair (pair (one s).2).2).2) := rfl
theorem head_is (s : St) : (bys 3 s).1 = [83, 77, 49] ↔ (one s).1 = 83 ∧ (one (one s).2).1 = 77 ∧ (one (one (one s).2).2).1 = 49 := by
  have h1 := one_range s
  have h2 := one_range (one s).2
  have h3 := one_range (one (one s).2).2
  have e : (bys 3 s).1 = [by1 (one s).1, by1 (one (one s).2).1, by1 (one (one (one s).2).2).1] := rfl
  rw [e]
  have b1 := by1_nat h1.1 h1.2
  have b2 := by1_nat h2.1 h2.2
  have b3 := by1_nat h3.1 h3.2
  constructor
  · intro h
    simp only [List.cons.injEq, and_true] at h
    obtain ⟨g1, g2, g3⟩ := h
    rw [g1] at b1; rw [g2] at b2; rw [g3] at b3
    exact ⟨b1.symm, b2.symm, b3.symm⟩
  · rintro ⟨g1, g2, g3⟩
    rw [g1, g2, g3]
    rfl
set_option maxHeartbeats 16000000 in
theorem ddecode_c (v : Value) (b : By) (w : World) (h : RowR TB w (fun _ => True) v b) (hl : b.length ≤ 1000000) :
    Calls Try.prog 11 #[v] w (DecRes (decD b) w) := by
  have hdec : decD b = fin (bys 3 ⟨b, false⟩).1 (dcodeP (bys 3 ⟨b, false⟩).2) := rfl
  have hst : (bys 3 ⟨b, false⟩).2 = (one (one (one ⟨b, false⟩).2).2).2 := rfl
  have hhd := head_is ⟨b, false⟩
  rw [hst] at hdec
  obtain ⟨hd, hhd0⟩ : ∃ hd, (bys 3 ⟨b, false⟩).1 = hd := ⟨_, rfl⟩
  rw [hhd0] at hdec hhd
  obtain ⟨ao, cap, rfl, hcap⟩ := h.val
  obtain ⟨N, hN⟩ : ∃ n, Hid (b.length = n) := ⟨_, Lib.hid rfl⟩
  rw [hN.out] at hcap
  have HROW := Lib.hid (show RowR TB w (fun _ => True) (.slice ao N cap) b by rw [← hN.out]; exact h)
  obtain ⟨Z, hZ⟩ : ∃ Z, Hid (w.heap.size = Z) := ⟨_, Lib.hid rfl⟩
  rw [hN.out]
  have KZ := (new_at w #[.slice none 0 0, .slice none 0 0, .slice none 0 0, .int .i64 0] 27 hZ.out).alloc (.cells #[.slice ao N cap, .int .i64 0, .bool false] 56)
  have KX := new_at (w.alloc (.cells #[.slice none 0 0, .slice none 0 0, .slice none 0 0, .int .i64 0] 27)) #[.slice ao N cap, .int .i64 0, .bool false] 56 (show _ = Z + 1 by simp [hZ.out])
  have hBW := bnext (balloc w (.cells #[.slice none 0 0, .slice none 0 0, .slice none 0 0, .int .i64 0] 27)) (balloc _ (.cells #[.slice ao N cap, .int .i64 0, .bool false] 56))
  obtain ⟨W, hW⟩ : ∃ W, W = (w.alloc (.cells #[.slice none 0 0, .slice none 0 0, .slice none 0 0, .int .i64 0] 27)).alloc (.cells #[.slice ao N cap, .int .i64 0, .bool false] 56) := ⟨_, rfl⟩
  rw [← hW] at KZ KX hBW
  have HW := Lib.hid hW
  have RD : RdD w W (Z + 1) (.slice ao N cap) b ⟨b, false⟩ := ⟨⟨0, KX, Nat.zero_le _, rfl⟩, HROW.out, hBW, by rw [hZ.out]; omega, hl⟩
  have H1 := Lib.hid (one_c w W (Z + 1) (.slice ao N cap) b ⟨b, false⟩ RD)
  have q1 := one_range ⟨b, false⟩
  have q2 := one_range (one ⟨b, false⟩).2
  have q3 := one_range (one (one ⟨b, false⟩).2).2
  obtain ⟨r1, hr1⟩ : ∃ r1, Hid (one ⟨b, false⟩ = r1) := ⟨_, Lib.hid rfl⟩
  rw [hr1.out] at q1 q2 q3 H1 hdec hhd
  obtain ⟨r2, hr2⟩ : ∃ r2, Hid (one r1.2 = r2) := ⟨_, Lib.hid rfl⟩
  rw [hr2.out] at q2 q3 hdec hhd
  obtain ⟨r3, hr3⟩ : ∃ r3, Hid (one r2.2 = r3) := ⟨_, Lib.hid rfl⟩
  rw [hr3.out] at q3 hdec hhd
  rw [hdec]
  clear h hW RD KX hst hhd0 hdec
  go_enter Try.func11, Try.ntmps11
  go_wp2_with fail
  rw [hZ.out, ← HW.out]
  refine H1.out.mono ?_
  rintro e w1 ⟨rfl, hm1, ho1⟩
  have H2 := one_c w w1 (Z + 1) (.slice ao N cap) b r1.2 hm1
  rw [hr2.out] at H2
  have KZ1 := ho1.bk KZ (by omega) (by omega)
  clear KZ hm1
  go_wp2_with fail
  refine H2.mono ?_
  rintro e w2 ⟨rfl, hm2, ho2⟩
  have H3 := one_c w w2 (Z + 1) (.slice ao N cap) b r2.2 hm2
  rw [hr3.out] at H3
  have KZ2 := ho2.bk KZ1 (by omega) (by omega)
  clear KZ1 hm2 H2
  go_wp2_with fail
  refine H3.mono ?_
  rintro e w3 ⟨rfl, hm3, ho3⟩
  have KZ3 := ho3.bk KZ2 (by omega) (by omega)
  have HO3 := Lib.hid ((ho1.trans ho2).trans ho3)
  have HM3 := Lib.hid hm3
  clear KZ2 hm3 H3 ho1 ho2 ho3
  obtain ⟨a1, ha1⟩ : ∃ a, r1.1 = a := ⟨_, rfl⟩
  obtain ⟨a2, ha2⟩ : ∃ a, r2.1 = a := ⟨_, rfl⟩
  obtain ⟨a3, ha3⟩ : ∃ a, r3.1 = a := ⟨_, rfl⟩
  rw [ha1] at hhd q1 ⊢
  rw [ha2] at hhd q2 ⊢
  rw [ha3] at hhd q3 ⊢
  clear ha1 ha2 ha3
  have hwz : w.heap.size ≤ Z := by rw [hZ.out]; exact Nat.le_refl _
  have hWs : W.heap.size = Z + 1 + 1 := by rw [HW.out]; simp [hZ.out]
  have HB3 := Lib.hid (hBW.trans (HO3.out.below (B := w.heap.size) (by omega) (by omega) (by omega)))
  have z0 := KZ3.cell 0 _ rfl
  have z1 := KZ3.cell 1 _ rfl
  have z2 := KZ3.cell 2 _ rfl
  have z3 := KZ3.cell 3 _ rfl
  have g0 := KZ3.free 0
  have g1 := KZ3.free 1
  have g2 := KZ3.free 2
  have g3 := KZ3.free 3
  have lz := KZ3.lt
  have HKZ3 := Lib.hid KZ3
  have HHD := Lib.hid hhd
  clear KZ3 hhd
  by_cases q83 : a1 = 83
  case neg =>
    have e1 : (a1 != 83) = true := by simpa using q83
    go_wp2_with fail
    have HF := Lib.hid (show fin hd (dcodeP r3.2) = none from by unfold fin; rw [if_neg]; intro h; exact q83 (HHD.out.1 h.1).1)
    have K9 := set4 HKZ3.out (a' := .slice none 0 0) (b' := .slice none 0 0) (c' := .slice none 0 0) (d' := .int .i64 0)
    have HB9 := Lib.hid ((((HB3.out.setCell (p := ⟨Z, 0, none⟩) hwz (.slice none 0 0)).setCell (p := ⟨Z, 1, none⟩) hwz (.slice none 0 0)).setCell (p := ⟨Z, 2, none⟩) hwz (.slice none 0 0)).setCell (p := ⟨Z, 3, none⟩) hwz (.int .i64 0))
    have c0 := K9.cell 0 _ rfl
    have c1 := K9.cell 1 _ rfl
    have c2 := K9.cell 2 _ rfl
    have c3 := K9.cell 3 _ rfl
    exact bodyPost_ret (v := .tuple #[.agg #[.slice none 0 0, .slice none 0 0, .slice none 0 0, .int .i64 0], .int .i64 31]) (by simp [results, Try.results11, go_sem, c0, c1, c2, c3]) rfl ⟨HB9.out, .inr ⟨HF.out, rfl⟩⟩
  subst q83
  by_cases q77 : a2 = 77
  case neg =>
    have e1 : (a2 != 77) = true := by simpa using q77
    go_wp2_with fail
    have HF := Lib.hid (show fin hd (dcodeP r3.2) = none from by unfold fin; rw [if_neg]; intro h; exact q77 (HHD.out.1 h.1).2.1)
    have K9 := set4 HKZ3.out (a' := .slice none 0 0) (b' := .slice none 0 0) (c' := .slice none 0 0) (d' := .int .i64 0)
    have HB9 := Lib.hid ((((HB3.out.setCell (p := ⟨Z, 0, none⟩) hwz (.slice none 0 0)).setCell (p := ⟨Z, 1, none⟩) hwz (.slice none 0 0)).setCell (p := ⟨Z, 2, none⟩) hwz (.slice none 0 0)).setCell (p := ⟨Z, 3, none⟩) hwz (.int .i64 0))
    have c0 := K9.cell 0 _ rfl
    have c1 := K9.cell 1 _ rfl
    have c2 := K9.cell 2 _ rfl
    have c3 := K9.cell 3 _ rfl
    exact bodyPost_ret (v := .tuple #[.agg #[.slice none 0 0, .slice none 0 0, .slice none 0 0, .int .i64 0], .int .i64 31]) (by simp [results, Try.results11, go_sem, c0, c1, c2, c3]) rfl ⟨HB9.out, .inr ⟨HF.out, rfl⟩⟩
  subst q77
  by_cases q49 : a3 = 49
  case neg =>
    have e1 : (a3 != 49) = true := by simpa using q49
    go_wp2_with fail
    have HF := Lib.hid (show fin hd (dcodeP r3.2) = none from by unfold fin; rw [if_neg]; intro h; exact q49 (HHD.out.1 h.1).2.2)
    have K9 := set4 HKZ3.out (a' := .slice none 0 0) (b' := .slice none 0 0) (c' := .slice none 0 0) (d' := .int .i64 0)
    have HB9 := Lib.hid ((((HB3.out.setCell (p := ⟨Z, 0, none⟩) hwz (.slice none 0 0)).setCell (p := ⟨Z, 1, none⟩) hwz (.slice none 0 0)).setCell (p := ⟨Z, 2, none⟩) hwz (.slice none 0 0)).setCell (p := ⟨Z, 3, none⟩) hwz (.int .i64 0))
    have c0 := K9.cell 0 _ rfl
    have c1 := K9.cell 1 _ rfl
    have c2 := K9.cell 2 _ rfl
    have c3 := K9.cell 3 _ rfl
    exact bodyPost_ret (v := .tuple #[.agg #[.slice none 0 0, .slice none 0 0, .slice none 0 0, .int .i64 0], .int .i64 31]) (by simp [results, Try.results11, go_sem, c0, c1, c2, c3]) rfl ⟨HB9.out, .inr ⟨HF.out, rfl⟩⟩
  subst q49
  have HHD2 := Lib.hid (HHD.out.2 ⟨rfl, rfl, rfl⟩)
  clear z0 z1 z2 z3 g0 g1 g2 g3 lz q1 q2 q3 H1
  have H4 := one_c w w3 (Z + 1) (.slice ao N cap) b r3.2 HM3.out
  have q4 := one_range r3.2
  obtain ⟨r4, hr4⟩ : ∃ r4, Hid (one r3.2 = r4) := ⟨_, Lib.hid rfl⟩
  rw [hr4.out] at H4 q4
  obtain ⟨LT, hLT⟩ : ∃ a, Hid (r4.1 = a) := ⟨_, Lib.hid rfl⟩
  rw [hLT.out] at H4 q4
  go_wp2_with fail
  refine H4.mono ?_
  rintro e w4 ⟨rfl, hm4, ho4⟩
  have HKZ4 := Lib.hid (ho4.bk HKZ3.out (by omega) (by omega))
  have HB4 := Lib.hid (HB3.out.trans (ho4.below (B := w.heap.size) (by omega) (by omega) HB3.out.size))
  obtain ⟨C, hC⟩ : ∃ C, Hid (w4.heap.size = C) := ⟨_, Lib.hid rfl⟩
  have hs4 : Z + 1 + 1 ≤ C := by rw [← hC.out]; exact Nat.le_trans (Nat.le_of_eq hWs.symm) (Nat.le_trans HO3.out.size ho4.size)
  have HKC5 := Lib.hid (new_at w4 #[.slice none 0 0, .slice none 0 0, .slice none 0 0, .int .i64 LT] 27 hC.out)
  have HKZ5 := Lib.hid (HKZ4.out.alloc (.cells #[.slice none 0 0, .slice none 0 0, .slice none 0 0, .int .i64 LT] 27))
  have hm5 := hm4.keep (balloc w4 (.cells #[.slice none 0 0, .slice none 0 0, .slice none 0 0, .int .i64 LT] 27))
  have HB5 := Lib.hid (HB4.out.trans ((balloc w4 (.cells #[.slice none 0 0, .slice none 0 0, .slice none 0 0, .int .i64 LT] 27)).mono HB4.out.size))
  have hW5 : (w4.alloc (.cells #[.slice none 0 0, .slice none 0 0, .slice none 0 0, .int .i64 LT] 27)).heap.size = C + 1 := by simp [hC.out]
  have H5 := one_c w _ (Z + 1) (.slice ao N cap) b r4.2 hm5
  have q5 := one_range r4.2
  obtain ⟨r5, hr5⟩ : ∃ r5, Hid (one r4.2 = r5) := ⟨_, Lib.hid rfl⟩
  rw [hr5.out] at H5 q5
  clear H4 hm4 ho4 hm5
  go_wp2_with fail
  rw [hC.out]
  refine H5.mono ?_
  rintro e w6 ⟨rfl, hm6, ho6⟩
  have HM6 := Lib.hid hm6
  have HKC6 := Lib.hid (ho6.bk HKC5.out (by omega) (by omega))
  have HKZ6 := Lib.hid (ho6.bk HKZ5.out (by omega) (by omega))
  have HB6 := Lib.hid (HB5.out.trans (ho6.below (B := w.heap.size) (by omega) (by omega) HB5.out.size))
  have hs6 : C + 1 ≤ w6.heap.size := by rw [← hW5]; exact ho6.size
  obtain ⟨K1, hK1⟩ : ∃ K : Nat, r5.1 = (K : Int) := ⟨r5.1.toNat, by omega⟩
  rw [hK1] at q5 ⊢
  have HK1 := Lib.hid hK1
  clear H5 hm6 ho6 hW5 HKC5 HKZ5 HKZ4 hK1
  go_upto_block 0 with fail
  obtain ⟨B1, hB1⟩ : ∃ B, Hid (w6.heap.size = B) := ⟨_, Lib.hid rfl⟩
  rw [hB1.out] at hs6
  have HO0 := Lib.hid (OwnR.nil (R := TI) w6 B1 (fun _ => False))
  have HON := Lib.hid (On.refl (Z + 1) C w6)
  go_cut [10, 11, 12, 13, 14] from 51 to 83 (fun s10 s11 s12 s13 s14 wc => ∃ iv, Hid (OwnF TI wc B1 iv (many dintP K1 r5.2).1) ∧ Hid (Bk wc C #[.slice none 0 0, iv, .slice none 0 0, .int .i64 LT] 27) ∧ Hid (RdD w wc (Z + 1) (.slice ao N cap) b (many dintP K1 r5.2).2) ∧ Hid (On (Z + 1) C w6 wc))
  case first =>
    go_wp2_with fail
    go_loopg [10, 11, 12, 13, 14] K1 (fun g s10 s11 s12 s13 s14 wr => ∃ (i : Nat) (iv : Value), i + g = K1 ∧ s10 = .int .i64 (i : Int) ∧ Hid (OwnF TI wr B1 iv (many dintP i r5.2).1) ∧ Hid (Bk wr C #[.slice none 0 0, iv, .slice none 0 0, .int .i64 LT] 27) ∧ Hid (RdD w wr (Z + 1) (.slice ao N cap) b (many dintP i r5.2).2) ∧ Hid (On (Z + 1) C w6 wr))
    case atStart => exact ⟨0, _, Nat.zero_add _, rfl, HO0, HKC6, HM6, HON⟩
    case round =>
      obtain ⟨i, iv, hi, rfl, HO, HKC, HM, HW6⟩ := hrel
      clear HO0 HON HM6 HKC6
      by_cases hlt : i < K1
      · obtain ⟨g, rfl⟩ : ∃ g, gk = g + 1 := ⟨gk - 1, by omega⟩
        have i0 : (0 : Int) ≤ (i : Int) := by omega
        have HSN := Lib.hid (many_snoc (p := dintP) i r5.2)
        have hml : (many dintP i r5.2).1.length = i := many_len _ _
        obtain ⟨s0, hs0⟩ : ∃ s0, Hid ((many dintP i r5.2).2 = s0) := ⟨_, Lib.hid rfl⟩
        rw [hs0.out] at HM HSN
        have HON7 := Lib.hid (On.refl (Z + 1) (Z + 1) wr)
        go_wp2_with fail
        go_loopg [11, 12, 13] 7 (fun g vv mv kv wk => ∃ (k : Nat) (V M : Int), k + g = 7 ∧ kv = .int .i64 (k : Int) ∧ vv = .int .i64 V ∧ mv = .int .i64 M ∧ Hid (V = (le (bys k s0).1 : Int)) ∧ Hid (M = ((256 ^ k : Nat) : Int)) ∧ Hid (RdD w wk (Z + 1) (.slice ao N cap) b (bys k s0).2) ∧ Hid (On (Z + 1) (Z + 1) wr wk))
        case atStart => exact ⟨0, 0, 1, Nat.zero_add _, rfl, rfl, rfl, Lib.hid rfl, Lib.hid rfl, HM, HON7⟩
        case round =>
          obtain ⟨k, V, M, hk, rfl, rfl, rfl, HV, HMM, HMK, HOK⟩ := hrel
          clear HON7
          have hq := one_range (bys k s0).2
          have H8 := one_c w _ (Z + 1) (.slice ao N cap) b (bys k s0).2 HMK.out
          have HLB := Lib.hid (le_bys k s0)
          have HBS := Lib.hid (bys_snoc k s0)
          have hVl := le_lt (bys k s0).1
          rw [bys_length] at hVl
          obtain ⟨r8, hr8⟩ : ∃ r, Hid (one (bys k s0).2 = r) := ⟨_, Lib.hid rfl⟩
          rw [hr8.out] at hq H8 HLB HBS
          obtain ⟨t8, ht8⟩ : ∃ t, Hid (r8.1 = t) := ⟨_, Lib.hid rfl⟩
          rw [ht8.out] at hq H8 HLB HBS
          by_cases hlk : k < 7
          · obtain ⟨g2, rfl⟩ : ∃ g, gk = g + 1 := ⟨gk - 1, by omega⟩
            have hP : 256 ^ k ≤ 256 ^ 6 := Nat.pow_le_pow_right (by decide) (by omega)
            have hP6 : (256 : Nat) ^ 6 = 281474976710656 := rfl
            have hMb : 0 ≤ M ∧ M ≤ 281474976710656 := by have := HMM.out; omega
            have hVb : 0 ≤ V ∧ V ≤ 281474976710656 := by have := HV.out; omega
            have p0 : 0 ≤ t8 * M := Int.mul_nonneg hq.1 hMb.1
            have p1 : t8 * M ≤ 255 * 281474976710656 := Int.mul_le_mul (by omega) hMb.2 hMb.1 (by omega)
            have k0 : (0 : Int) ≤ (k : Int) := by omega
            have HV2 := Lib.hid (show V + t8 * M = (le (bys (k + 1) s0).1 : Int) from by rw [HLB.out, HV.out, HMM.out])
            have HM2 := Lib.hid (show M * 256 = ((256 ^ (k + 1) : Nat) : Int) from by rw [HMM.out, Nat.pow_succ]; push_cast; rfl)
            clear hVl hP hP6
            go_wp2_with fail
            refine H8.mono ?_
            rintro e w8 ⟨rfl, hm8, ho8⟩
            have HM8 := Lib.hid hm8
            have HO8 := Lib.hid (HOK.out.trans ho8)
            clear H8 hm8 ho8
            go_wp2_with fail
            go_roundg g2
            case rel => exact ⟨k + 1, V + t8 * M, M * 256, by omega, by go_num, rfl, rfl, HV2, HM2, Lib.hid (by rw [HBS.out]; exact HM8.out), HO8⟩
            case measure => omega
          · have hk7 : k = 7 := by omega
            subst hk7
            have e7 : ((256 ^ 7 : Nat) : Int) = 72057594037927936 := rfl
            have e7' : (256 : Nat) ^ 7 = 72057594037927936 := rfl
            have hMv : M = 72057594037927936 := HMM.out.trans e7
            have hVb : 0 ≤ V ∧ V < 72057594037927936 := by have := HV.out; omega
            have hZB : Z + 1 < B1 := by omega
            have hCZ : C ≠ Z + 1 := by omega
            have hCB : C < B1 := by omega
            have hwC : w.heap.size ≤ C := by omega
            subst hMv
            clear e7 e7' hVl HLB
            by_cases h127 : t8 > 127
            · skip
              have HXV := Lib.hid (show V + (t8 - 256) * 72057594037927936 = (dintP s0).1 from by
                rw [dint_eq, dint_val, hr8.out, ht8.out, HV.out]
                unfold top
                rw [if_pos h127])
              obtain ⟨X, hX⟩ : ∃ X, V + (t8 - 256) * 72057594037927936 = X := ⟨_, rfl⟩
              rw [hX] at HXV
              have HR := Lib.hid (fun (w8 : World) => show RowR TI (w8.alloc (.cells #[.int .i64 X] 3)) (fun b => False ∧ iv.ownBlock ≠ some b) (.slice (some ⟨w8.heap.size, 0, none⟩) 1 1) [X] from rowR_new (q := []) #[.int .i64 X] 3 rfl rfl)
              go_wp2_with fail
              refine H8.mono ?_
              rintro e w8 ⟨rfl, hm8, ho8⟩
              have hon := HOK.out.trans ho8
              have hown := own_on HO.out hon hZB hZB (fun b h => h.elim)
              have hkc := hon.bk HKC.out hCZ hCZ
              have HOW := Lib.hid (fun b hb => hown.own (b := b) hb)
              have HOA := Lib.hid (hown.keep (balloc w8 (.cells #[.int .i64 X] 3)))
              have HLN := Lib.hid (show (many dintP i r5.2).1.length + [X].length ≤ 100000000000 by rw [hml]; simp; omega)
              have HBS8 := Lib.hid (show B1 ≤ (w8.alloc (.cells #[.int .i64 X] 3)).heap.size from by rw [← hB1.out]; exact Nat.le_trans HW6.out.size (Nat.le_trans hon.size (balloc w8 _).size))
              have HKA := Lib.hid (hkc.alloc (.cells #[.int .i64 X] 3))
              have HMA := Lib.hid (hm8.keep (balloc w8 (.cells #[.int .i64 X] 3)))
              have HNA := Lib.hid ((HW6.out.trans hon.wide).trans (On.of (balloc w8 (.cells #[.int .i64 X] 3))))
              have c1 := hkc.cell 1 _ rfl
              have lC := hkc.lt
              clear H8 hm8 ho8 hon hown hkc hml
              go_wp2_with (at_builtin; go_loud (refine wpList_row TI (w8.alloc (.cells #[.int .i64 X] 3)) rfl (.tmp 75) (.tmp 81) rfl B1 (fun _ => False) iv (.slice (some ⟨w8.heap.size, 0, none⟩) 1 1) (many dintP i r5.2).1 [X] rfl rfl HOA.out (HR.out w8) HLN.out HBS8.out ?_); intro ao9 n9 cap9 w9 hO9 hn9 hg9 ha9; clear hn9; have HO9 := Lib.hid hO9; have HK9 := Lib.hid (HKA.out.grown hg9 (fun e => by have := (HOW.out C e).1; omega)); have HM9 := Lib.hid (HMA.out.grown hg9 (fun b hb => (HOW.out b hb).1) hZB); have HN9 := Lib.hid (HNA.out.grown hg9 (fun b hb => by rw [hB1.out]; exact (HOW.out b hb).1)); have f9 := HK9.out.free 1; have r9 := HK9.out.cell 1 _ rfl; have l9 := HK9.out.lt; clear hO9 hg9 ha9)
              go_roundg g
              case rel => exact ⟨i + 1, _, by omega, by go_num, Lib.hid (by rw [HSN.out, ← HXV.out]; exact HO9.out.other (fun b h => h.elim) hCB 1 _), Lib.hid (HK9.out.set 1 _), Lib.hid (by rw [HSN.out, dint_eq, HBS.out]; exact HM9.out.set hCZ hwC 1 _), Lib.hid (HN9.out.trans (On.sety _ _ _ _ _))⟩
              case measure => omega
            · skip
              have HXV := Lib.hid (show V + t8 * 72057594037927936 = (dintP s0).1 from by
                rw [dint_eq, dint_val, hr8.out, ht8.out, HV.out]
                unfold top
                rw [if_neg h127])
              obtain ⟨X, hX⟩ : ∃ X, V + t8 * 72057594037927936 = X := ⟨_, rfl⟩
              rw [hX] at HXV
              have HR := Lib.hid (fun (w8 : World) => show RowR TI (w8.alloc (.cells #[.int .i64 X] 3)) (fun b => False ∧ iv.ownBlock ≠ some b) (.slice (some ⟨w8.heap.size, 0, none⟩) 1 1) [X] from rowR_new (q := []) #[.int .i64 X] 3 rfl rfl)
              go_wp2_with fail
              refine H8.mono ?_
              rintro e w8 ⟨rfl, hm8, ho8⟩
              have hon := HOK.out.trans ho8
              have hown := own_on HO.out hon hZB hZB (fun b h => h.elim)
              have hkc := hon.bk HKC.out hCZ hCZ
              have HOW := Lib.hid (fun b hb => hown.own (b := b) hb)
              have HOA := Lib.hid (hown.keep (balloc w8 (.cells #[.int .i64 X] 3)))
              have HLN := Lib.hid (show (many dintP i r5.2).1.length + [X].length ≤ 100000000000 by rw [hml]; simp; omega)
              have HBS8 := Lib.hid (show B1 ≤ (w8.alloc (.cells #[.int .i64 X] 3)).heap.size from by rw [← hB1.out]; exact Nat.le_trans HW6.out.size (Nat.le_trans hon.size (balloc w8 _).size))
              have HKA := Lib.hid (hkc.alloc (.cells #[.int .i64 X] 3))
              have HMA := Lib.hid (hm8.keep (balloc w8 (.cells #[.int .i64 X] 3)))
              have HNA := Lib.hid ((HW6.out.trans hon.wide).trans (On.of (balloc w8 (.cells #[.int .i64 X] 3))))
              have c1 := hkc.cell 1 _ rfl
              have lC := hkc.lt
              clear H8 hm8 ho8 hon hown hkc hml
              go_wp2_with (at_builtin; go_loud (refine wpList_row TI (w8.alloc (.cells #[.int .i64 X] 3)) rfl (.tmp 75) (.tmp 81) rfl B1 (fun _ => False) iv (.slice (some ⟨w8.heap.size, 0, none⟩) 1 1) (many dintP i r5.2).1 [X] rfl rfl HOA.out (HR.out w8) HLN.out HBS8.out ?_); intro ao9 n9 cap9 w9 hO9 hn9 hg9 ha9; clear hn9; have HO9 := Lib.hid hO9; have HK9 := Lib.hid (HKA.out.grown hg9 (fun e => by have := (HOW.out C e).1; omega)); have HM9 := Lib.hid (HMA.out.grown hg9 (fun b hb => (HOW.out b hb).1) hZB); have HN9 := Lib.hid (HNA.out.grown hg9 (fun b hb => by rw [hB1.out]; exact (HOW.out b hb).1)); have f9 := HK9.out.free 1; have r9 := HK9.out.cell 1 _ rfl; have l9 := HK9.out.lt; clear hO9 hg9 ha9)
              go_roundg g
              case rel => exact ⟨i + 1, _, by omega, by go_num, Lib.hid (by rw [HSN.out, ← HXV.out]; exact HO9.out.other (fun b h => h.elim) hCB 1 _), Lib.hid (HK9.out.set 1 _), Lib.hid (by rw [HSN.out, dint_eq, HBS.out]; exact HM9.out.set hCZ hwC 1 _), Lib.hid (HN9.out.trans (On.sety _ _ _ _ _))⟩
              case measure => omega
      · have hiK : i = K1 := by omega
        subst hiK
        go_wp2_with fail
        go_meet
        exact ⟨iv, HO, HKC, HM, HW6⟩
  case rest =>
    obtain ⟨iv, HOI, HKC, HM, HN⟩ := hcut
    generalize wc = w10 at HOI HKC HM HN ⊢
    clear HO0 HON HM6 HKC6
    have HRA := Lib.hid (show dlistP dintP r4.2 = many dintP K1 r5.2 from by
      show many dintP (one r4.2).1.toNat (one r4.2).2 = _
      rw [hr5.out, HK1.out]; rfl)
    obtain ⟨ra, hra⟩ : ∃ ra, Hid (many dintP K1 r5.2 = ra) := ⟨_, Lib.hid rfl⟩
    rw [hra.out] at HOI HM HRA
    have HKZ7 := Lib.hid (HN.out.bk HKZ6.out (by omega) (by omega))
    have HB7 := Lib.hid (HB6.out.trans (HN.out.below (B := w.heap.size) (by omega) (by omega) HB6.out.size))
    have hs7 : B1 ≤ w10.heap.size := by rw [← hB1.out]; exact HN.out.size
    have H6 := one_c w w10 (Z + 1) (.slice ao N cap) b ra.2 HM.out
    have q6 := one_range ra.2
    obtain ⟨r6, hr6⟩ : ∃ r, Hid (one ra.2 = r) := ⟨_, Lib.hid rfl⟩
    rw [hr6.out] at H6 q6
    obtain ⟨K2, hK2⟩ : ∃ K : Nat, r6.1 = (K : Int) := ⟨r6.1.toNat, by omega⟩
    rw [hK2] at H6 q6
    have HK2 := Lib.hid hK2
    clear hK2
    go_wp2_with fail
    refine H6.mono ?_
    rintro e w11 ⟨rfl, hm11, ho11⟩
    have HM11 := Lib.hid hm11
    have HKC11 := Lib.hid (ho11.bk HKC.out (by omega) (by omega))
    have HKZ11 := Lib.hid (ho11.bk HKZ7.out (by omega) (by omega))
    have HOI11 := Lib.hid (own_on HOI.out ho11 (by omega) (by omega) (fun b h => h.elim))
    have HB11 := Lib.hid (HB7.out.trans (ho11.below (B := w.heap.size) (by omega) (by omega) HB7.out.size))
    have hs11 : B1 ≤ w11.heap.size := Nat.le_trans hs7 ho11.size
    clear H6 hm11 ho11 HKC HM HN HOI HKZ6 HB6
    go_upto_block 4 with fail
    obtain ⟨B2, hB2⟩ : ∃ B, Hid (w11.heap.size = B) := ⟨_, Lib.hid rfl⟩
    rw [hB2.out] at hs11
    have HO0 := Lib.hid (OwnR.nil (R := TT) w11 B2 (fun _ => False))
    have HON := Lib.hid (On.refl (Z + 1) C w11)
    have hZ2 : Z + 1 < B2 := by omega
    have hC2 : C < B2 := by omega
    have hCZ : C ≠ Z + 1 := by omega
    have hwC : w.heap.size ≤ C := by omega
    go_cut [15, 16, 17, 18] from 86 to 110 (fun s15 s16 s17 s18 wc => ∃ tv, Hid (OwnF TT wc B2 tv (many dtextP K2 r6.2).1) ∧ Hid (Bk wc C #[.slice none 0 0, iv, tv, .int .i64 LT] 27) ∧ Hid (RdD w wc (Z + 1) (.slice ao N cap) b (many dtextP K2 r6.2).2) ∧ Hid (On (Z + 1) C w11 wc))
    case first =>
      go_wp2_with fail
      go_loopg [15, 16, 17, 18] K2 (fun g s15 s16 s17 s18 wr => ∃ (i : Nat) (tv : Value), i + g = K2 ∧ s15 = .int .i64 (i : Int) ∧ Hid (OwnF TT wr B2 tv (many dtextP i r6.2).1) ∧ Hid (Bk wr C #[.slice none 0 0, iv, tv, .int .i64 LT] 27) ∧ Hid (RdD w wr (Z + 1) (.slice ao N cap) b (many dtextP i r6.2).2) ∧ Hid (On (Z + 1) C w11 wr))
      case atStart => exact ⟨0, _, Nat.zero_add _, rfl, HO0, HKC11, HM11, HON⟩
      case round =>
        obtain ⟨i, tv, hi, rfl, HO, HKC, HM, HW6⟩ := hrel
        clear HO0 HON HM11 HKC11
        by_cases hlt : i < K2
        · obtain ⟨g, rfl⟩ : ∃ g, gk = g + 1 := ⟨gk - 1, by omega⟩
          have i0 : (0 : Int) ≤ (i : Int) := by omega
          have HSN := Lib.hid (many_snoc (p := dtextP) i r6.2)
          have hml : (many dtextP i r6.2).1.length = i := many_len _ _
          obtain ⟨s0, hs0⟩ : ∃ s0, Hid ((many dtextP i r6.2).2 = s0) := ⟨_, Lib.hid rfl⟩
          rw [hs0.out] at HM HSN
          have H7 := one_c w wr (Z + 1) (.slice ao N cap) b s0 HM.out
          have q7 := one_range s0
          have HDT := Lib.hid (show dtextP s0 = bys (one s0).1.toNat (one s0).2 from rfl)
          obtain ⟨r7, hr7⟩ : ∃ r, Hid (one s0 = r) := ⟨_, Lib.hid rfl⟩
          rw [hr7.out] at H7 q7 HDT
          obtain ⟨L, hL⟩ : ∃ K : Nat, r7.1 = (K : Int) := ⟨r7.1.toNat, by omega⟩
          rw [hL] at H7 q7 HDT
          have HDT2 := Lib.hid (show dtextP s0 = bys L r7.2 from HDT.out)
          clear HDT hL
          go_wp2_with fail
          refine H7.mono ?_
          rintro e w12 ⟨rfl, hm12, ho12⟩
          have HM12 := Lib.hid hm12
          have HOT := Lib.hid (own_on HO.out ho12 hZ2 hZ2 (fun b h => h.elim))
          have HKC12 := Lib.hid (ho12.bk HKC.out hCZ hCZ)
          have HW12 := Lib.hid (HW6.out.trans ho12.wide)
          have hz12 : Z + 1 < w12.heap.size := by have := HW12.out.size; have := hB2.out; omega
          have HOB0 := Lib.hid (OwnR.nil (R := TB) w12 w12.heap.size (fun _ => False))
          have HONB := Lib.hid (On.refl (Z + 1) (Z + 1) w12)
          clear H7 hm12 ho12 HO HKC HM HW6
          go_wp2_with fail
          go_loopg [17, 18] L (fun g sv kv wk => ∃ (k : Nat), k + g = L ∧ kv = .int .i64 (k : Int) ∧ Hid (OwnF TB wk w12.heap.size sv (bys k r7.2).1) ∧ Hid (RdD w wk (Z + 1) (.slice ao N cap) b (bys k r7.2).2) ∧ Hid (On (Z + 1) (Z + 1) w12 wk))
          case atStart => exact ⟨0, Nat.zero_add _, rfl, HOB0, HM12, HONB⟩
          case round =>
            obtain ⟨k, hk, rfl, HOB, HMK, HOK⟩ := hrel
            clear HOB0 HONB HM12
            by_cases hlk : k < L
            · obtain ⟨g2, rfl⟩ : ∃ g, gk = g + 1 := ⟨gk - 1, by omega⟩
              have hq := one_range (bys k r7.2).2
              have H8 := one_c w _ (Z + 1) (.slice ao N cap) b (bys k r7.2).2 HMK.out
              have HBS := Lib.hid (bys_snoc k r7.2)
              have hbl := bys_length k r7.2
              obtain ⟨r8, hr8⟩ : ∃ r, Hid (one (bys k r7.2).2 = r) := ⟨_, Lib.hid rfl⟩
              rw [hr8.out] at hq H8 HBS
              obtain ⟨t8, ht8⟩ : ∃ t, Hid (r8.1 = t) := ⟨_, Lib.hid rfl⟩
              rw [ht8.out] at hq H8 HBS
              have k0 : (0 : Int) ≤ (k : Int) := by omega
              have ew : IntKind.u8.wrap t8 = t8 := IntWalk.u8_in _ (by omega)
              go_wp2_with fail
              refine H8.mono ?_
              rintro e w13 ⟨rfl, hm13, ho13⟩
              have HM13 := Lib.hid hm13
              have HO13 := Lib.hid (HOK.out.trans ho13)
              have hown := own_on HOB.out ho13 hz12 hz12 (fun b h => h.elim)
              have HOW := Lib.hid (fun b hb => hown.own (b := b) hb)
              have HOA := Lib.hid (hown.keep (balloc w13 (.cells #[.int .u8 t8] 5)))
              have HR := Lib.hid (show RowR TB (w13.alloc (.cells #[.int .u8 t8] 5)) (fun b => False ∧ Value.ownBlock u17 ≠ some b) (.slice (some ⟨w13.heap.size, 0, none⟩) 1 1) [by1 t8] from rowR_new (q := []) #[.int .u8 t8] 5 (by show [Value.int .u8 ((by1 t8).toNat : Int)] = _; rw [by1_nat hq.1 hq.2]) rfl)
              have HLN := Lib.hid (show (bys k r7.2).1.length + [by1 t8].length ≤ 100000000000 by rw [hbl]; simp; omega)
              have HBS8 := Lib.hid (show w12.heap.size ≤ (w13.alloc (.cells #[.int .u8 t8] 5)).heap.size from Nat.le_trans HO13.out.size (balloc w13 _).size)
              have HMA := Lib.hid (HM13.out.keep (balloc w13 (.cells #[.int .u8 t8] 5)))
              have HNA := Lib.hid (HO13.out.trans (On.of (balloc w13 (.cells #[.int .u8 t8] 5))))
              clear H8 hm13 ho13 hown hbl
              go_wp2_with (at_builtin; go_loud (refine wpList_row TB (w13.alloc (.cells #[.int .u8 t8] 5)) rfl (.tmp 98) (.tmp 102) rfl w12.heap.size (fun _ => False) u17 (.slice (some ⟨w13.heap.size, 0, none⟩) 1 1) (bys k r7.2).1 [by1 t8] rfl rfl HOA.out HR.out HLN.out HBS8.out ?_); intro ao9 n9 cap9 w9 hO9 hn9 hg9 ha9; clear hn9; have HO9 := Lib.hid hO9; have HM9 := Lib.hid (HMA.out.grown hg9 (fun b hb => (HOW.out b hb).1) hz12); have HN9 := Lib.hid (HNA.out.grown hg9 (fun b hb => (HOW.out b hb).1)); clear hO9 hg9 ha9)
              go_roundg g2
              case rel => exact ⟨k + 1, by omega, by go_num, Lib.hid (by rw [HBS.out]; exact HO9.out), Lib.hid (by rw [HBS.out]; exact HM9.out), HN9⟩
              case measure => omega
            · have hkL : k = L := by omega
              subst hkL
              have hcv := conv_row (HOB.out.row.weak (S' := fun _ => True) fun _ _ _ => trivial)
              have hown := own_on HOT.out HOK.out hZ2 hZ2 (fun b h => h.elim)
              have hkc := HOK.out.bk HKC12.out hCZ hCZ
              obtain ⟨bt, hbt⟩ : ∃ x, Hid ((bys k r7.2).1 = x) := ⟨_, Lib.hid rfl⟩
              rw [hbt.out] at hcv
              obtain ⟨sa, scp, esv, _⟩ := HOB.out.val
              rw [hbt.out] at esv
              obtain ⟨BL, hBL⟩ : ∃ n, bt.length = n := ⟨_, rfl⟩
              rw [hBL] at esv
              subst esv
              have HOW := Lib.hid (fun b hb => hown.own (b := b) hb)
              have HOA := Lib.hid (hown.keep (balloc wr (.cells #[.string ⟨bt.toArray⟩] 9)))
              have HR := Lib.hid (show RowR TT (wr.alloc (.cells #[.string ⟨bt.toArray⟩] 9)) (fun b => False ∧ tv.ownBlock ≠ some b) (.slice (some ⟨wr.heap.size, 0, none⟩) 1 1) [bt] from rowR_new (q := []) #[.string ⟨bt.toArray⟩] 9 rfl rfl)
              have HLN := Lib.hid (show (many dtextP i r6.2).1.length + [bt].length ≤ 100000000000 by rw [hml]; simp; omega)
              have HBS8 := Lib.hid (show B2 ≤ (wr.alloc (.cells #[.string ⟨bt.toArray⟩] 9)).heap.size from by rw [← hB2.out]; exact Nat.le_trans HW12.out.size (Nat.le_trans HOK.out.size (balloc wr _).size))
              have HKA := Lib.hid (hkc.alloc (.cells #[.string ⟨bt.toArray⟩] 9))
              have HMA := Lib.hid (HMK.out.keep (balloc wr (.cells #[.string ⟨bt.toArray⟩] 9)))
              have HNA := Lib.hid ((HW12.out.trans HOK.out.wide).trans (On.of (balloc wr (.cells #[.string ⟨bt.toArray⟩] 9))))
              have c2 := hkc.cell 2 _ rfl
              have lC := hkc.lt
              clear hown hkc hml hBL
              go_wp2_with (at_builtin; go_loud (refine wpList_row TT (wr.alloc (.cells #[.string ⟨bt.toArray⟩] 9)) rfl (.tmp 105) (.tmp 108) rfl B2 (fun _ => False) tv (.slice (some ⟨wr.heap.size, 0, none⟩) 1 1) (many dtextP i r6.2).1 [bt] rfl rfl HOA.out HR.out HLN.out HBS8.out ?_); intro ao9 n9 cap9 w9 hO9 hn9 hg9 ha9; clear hn9; have HO9 := Lib.hid hO9; have HK9 := Lib.hid (HKA.out.grown hg9 (fun e => by have := (HOW.out C e).1; omega)); have HM9 := Lib.hid (HMA.out.grown hg9 (fun b hb => (HOW.out b hb).1) hZ2); have HN9 := Lib.hid (HNA.out.grown hg9 (fun b hb => by rw [hB2.out]; exact (HOW.out b hb).1)); have f9 := HK9.out.free 2; have r9 := HK9.out.cell 2 _ rfl; have l9 := HK9.out.lt; clear hO9 hg9 ha9)
              go_roundg g
              case rel => exact ⟨i + 1, _, by omega, by go_num, Lib.hid (by rw [HSN.out, HDT2.out, hbt.out]; exact HO9.out.other (fun b h => h.elim) hC2 2 _), Lib.hid (HK9.out.set 2 _), Lib.hid (by rw [HSN.out, HDT2.out]; exact HM9.out.set hCZ hwC 2 _), Lib.hid (HN9.out.trans (On.sety _ _ _ _ _))⟩
              case measure => omega
        · have hiK : i = K2 := by omega
          subst hiK
          go_wp2_with fail
          go_meet
          exact ⟨tv, HO, HKC, HM, HW6⟩
    case rest =>
      obtain ⟨tv, HOT, HKC, HM, HN⟩ := hcut
      generalize wc = w14 at HOT HKC HM HN ⊢
      clear HO0 HON HM11 HKC11
      have HRB := Lib.hid (show dlistP dtextP ra.2 = many dtextP K2 r6.2 from by
        show many dtextP (one ra.2).1.toNat (one ra.2).2 = _
        rw [hr6.out, HK2.out]; rfl)
      obtain ⟨rb, hrb⟩ : ∃ rb, Hid (many dtextP K2 r6.2 = rb) := ⟨_, Lib.hid rfl⟩
      rw [hrb.out] at HOT HM HRB
      have HKZ14 := Lib.hid (HN.out.bk HKZ11.out (by omega) (by omega))
      have HB14 := Lib.hid (HB11.out.trans (HN.out.below (B := w.heap.size) (by omega) (by omega) HB11.out.size))
      have HOI14 := Lib.hid (own_on HOI11.out HN.out (by omega) (by omega) (fun b h => h.elim))
      have hs14 : B2 ≤ w14.heap.size := by rw [← hB2.out]; exact HN.out.size
      have H6 := one_c w w14 (Z + 1) (.slice ao N cap) b rb.2 HM.out
      have q6 := one_range rb.2
      obtain ⟨r9, hr9⟩ : ∃ r, Hid (one rb.2 = r) := ⟨_, Lib.hid rfl⟩
      rw [hr9.out] at H6 q6
      obtain ⟨K3, hK3⟩ : ∃ K : Nat, r9.1 = (K : Int) := ⟨r9.1.toNat, by omega⟩
      rw [hK3] at H6 q6
      have HK3 := Lib.hid hK3
      clear hK3
      go_wp2_with fail
      refine H6.mono ?_
      rintro e w15 ⟨rfl, hm15, ho15⟩
      have HM15 := Lib.hid hm15
      have HKC15 := Lib.hid (ho15.bk HKC.out hCZ hCZ)
      have HKZ15 := Lib.hid (ho15.bk HKZ14.out (by omega) (by omega))
      have HOI15 := Lib.hid (own_on HOI14.out ho15 (by omega) (by omega) (fun b h => h.elim))
      have HOT15 := Lib.hid (own_on HOT.out ho15 hZ2 hZ2 (fun b h => h.elim))
      have HB15 := Lib.hid (HB14.out.trans (ho15.below (B := w.heap.size) (by omega) (by omega) HB14.out.size))
      have hs15 : B2 ≤ w15.heap.size := Nat.le_trans hs14 ho15.size
      clear H6 hm15 ho15 HKC HM HN HOI14 HOT HKZ11 HKZ14 HB14 HB11 HOI11
      go_upto_block 8 with fail
      obtain ⟨B3, hB3⟩ : ∃ B, Hid (w15.heap.size = B) := ⟨_, Lib.hid rfl⟩
      rw [hB3.out] at hs15
      have HO0 := Lib.hid (OwnR.nil (R := TF) w15 B3 (fun b => B3 ≤ b))
      have HON := Lib.hid (On.refl (Z + 1) C w15)
      have hZ3 : Z + 1 < B3 := by omega
      have hC3 : C < B3 := by omega
      go_cut [19, 20, 21, 22, 23, 24] from 113 to 161 (fun s19 s20 s21 s22 s23 s24 wc => ∃ fv, Hid (OwnR TF wc B3 (fun b => B3 ≤ b) fv (many dbodyP K3 r9.2).1) ∧ Hid (Bk wc C #[fv, iv, tv, .int .i64 LT] 27) ∧ Hid (RdD w wc (Z + 1) (.slice ao N cap) b (many dbodyP K3 r9.2).2) ∧ Hid (On (Z + 1) C w15 wc))
      case first =>
        go_wp2_with fail
        go_loopg [19, 20, 21, 22, 23, 24] K3 (fun g s19 s20 s21 s22 s23 s24 wr => ∃ (i : Nat) (fv : Value), i + g = K3 ∧ s19 = .int .i64 (i : Int) ∧ Hid (OwnR TF wr B3 (fun b => B3 ≤ b) fv (many dbodyP i r9.2).1) ∧ Hid (Bk wr C #[fv, iv, tv, .int .i64 LT] 27) ∧ Hid (RdD w wr (Z + 1) (.slice ao N cap) b (many dbodyP i r9.2).2) ∧ Hid (On (Z + 1) C w15 wr))
        case atStart => exact ⟨0, _, Nat.zero_add _, rfl, HO0, HKC15, HM15, HON⟩
        case round =>
          obtain ⟨i, fv, hi, rfl, HO, HKC, HM, HW6⟩ := hrel
          clear HO0 HON HM15 HKC15
          by_cases hlt : i < K3
          · obtain ⟨g, rfl⟩ : ∃ g, gk = g + 1 := ⟨gk - 1, by omega⟩
            have i0 : (0 : Int) ≤ (i : Int) := by omega
            have HSN := Lib.hid (many_snoc (p := dbodyP) i r9.2)
            have hml : (many dbodyP i r9.2).1.length = i := many_len _ _
            obtain ⟨s0, hs0⟩ : ∃ s0, Hid ((many dbodyP i r9.2).2 = s0) := ⟨_, Lib.hid rfl⟩
            rw [hs0.out] at HM HSN
            obtain ⟨Y, hY⟩ : ∃ Y, Hid (wr.heap.size = Y) := ⟨_, Lib.hid rfl⟩
            have hYB : B3 ≤ Y := by rw [← hB3.out, ← hY.out]; exact HW6.out.size
            have hYZ : Y ≠ Z + 1 := by omega
            have hYC : C ≠ Y := by omega
            have hwY : w.heap.size ≤ Y := by omega
            have KY := new_at wr #[.int .i64 0, .int .i64 0, .int .i64 0, .slice none 0 0] 49 hY.out
            have hoA : On (Z + 1) (Z + 1) wr (wr.alloc (.cells #[.int .i64 0, .int .i64 0, .int .i64 0, .slice none 0 0] 49)) := On.of (balloc wr _)
            have hmA := HM.out.keep (balloc wr (.cells #[.int .i64 0, .int .i64 0, .int .i64 0, .slice none 0 0] 49))
            have HDB := Lib.hid (dbody_eq s0)
            have q1 := one_range s0
            have H1 := one_c w _ (Z + 1) (.slice ao N cap) b s0 hmA
            obtain ⟨t1, ht1⟩ : ∃ r, Hid (one s0 = r) := ⟨_, Lib.hid rfl⟩
            rw [ht1.out] at HDB H1 q1
            obtain ⟨t2, ht2⟩ : ∃ r, Hid (one t1.2 = r) := ⟨_, Lib.hid rfl⟩
            rw [ht2.out] at HDB
            obtain ⟨t3, ht3⟩ : ∃ r, Hid (one t2.2 = r) := ⟨_, Lib.hid rfl⟩
            rw [ht3.out] at HDB
            have q4 := pair_range t3.2
            obtain ⟨t4, ht4⟩ : ∃ r, Hid (pair t3.2 = r) := ⟨_, Lib.hid rfl⟩
            rw [ht4.out] at HDB q4
            obtain ⟨L, hL⟩ : ∃ K : Nat, t4.1 = (K : Int) := ⟨t4.1.toNat, by omega⟩
            rw [hL] at HDB q4
            have HL := Lib.hid hL
            have HDB2 := Lib.hid (show dbodyP s0 = (⟨t1.1, t2.1, t3.1, (manyS dinsP L t4.2).1⟩, (manyS dinsP L t4.2).2) from HDB.out)
            clear HDB hL
            go_wp2_with fail
            rw [hY.out]
            refine H1.mono ?_
            rintro e w16 ⟨rfl, hm16, ho16⟩
            have K16 := ho16.bk KY hYZ hYZ
            have ho16 := hoA.trans ho16
            have H2 := one_c w (w16.setCell ⟨Y, 0, none⟩ (.int .i64 t1.1)) (Z + 1) (.slice ao N cap) b t1.2 (hm16.set hYZ hwY 0 _)
            rw [ht2.out] at H2
            have f0 := K16.free 0
            have c0 := K16.cell 0 _ rfl
            have ly := K16.lt
            clear H1 hm16 KY hoA hmA
            go_wp2_with fail
            refine H2.mono ?_
            rintro e w17 ⟨rfl, hm17, ho17⟩
            have K17 := ho17.bk (K16.set 0 (.int .i64 t1.1)) hYZ hYZ
            have hwr : wr.heap.size ≤ Y := by rw [hY.out]; exact Nat.le_refl _
            have ho17 := (ho16.setz hwr 0 (.int .i64 t1.1)).trans ho17
            have H3 := one_c w (w17.setCell ⟨Y, 1, none⟩ (.int .i64 t2.1)) (Z + 1) (.slice ao N cap) b t2.2 (hm17.set hYZ hwY 1 _)
            rw [ht3.out] at H3
            clear H2 hm17 K16 ho16 f0 c0 ly
            have f1 := K17.free 1
            have c1 := K17.cell 1 _ rfl
            have ly := K17.lt
            go_wp2_with fail
            refine H3.mono ?_
            rintro e w18 ⟨rfl, hm18, ho18⟩
            have K18 := ho18.bk (K17.set 1 (.int .i64 t2.1)) hYZ hYZ
            have ho18 := (ho17.setz hwr 1 (.int .i64 t2.1)).trans ho18
            have H4 := pair_c w (w18.setCell ⟨Y, 2, none⟩ (.int .i64 t3.1)) (Z + 1) (.slice ao N cap) b t3.2 (hm18.set hYZ hwY 2 _)
            rw [ht4.out, HL.out] at H4
            clear H3 hm18 K17 ho17 f1 c1 ly
            have f2 := K18.free 2
            have c2 := K18.cell 2 _ rfl
            have ly := K18.lt
            go_wp2_with fail
            refine H4.mono ?_
            rintro e w20 ⟨rfl, hm20, ho20⟩
            have HK20 := Lib.hid (ho20.bk (K18.set 2 (.int .i64 t3.1)) hYZ hYZ)
            have HN20 := Lib.hid ((ho18.setz hwr 2 (.int .i64 t3.1)).trans ho20)
            have HM20 := Lib.hid hm20
            clear H4 hm20 ho20 K18 ho18 f2 c2 ly
            go_upto_block 10 with fail
            obtain ⟨BY, hBY⟩ : ∃ B, Hid (w20.heap.size = B) := ⟨_, Lib.hid rfl⟩
            have hYBY : Y < BY := by have := HK20.out.lt; have := hBY.out; omega
            have hZBY : Z + 1 < BY := by omega
            have HO0 := Lib.hid (OwnR.nil (R := TN) w20 BY (fun _ => False))
            have HON := Lib.hid (On.refl (Z + 1) Y w20)
            go_cut [22, 23, 24] from 113 to 161 (fun s22 s23 s24 wc => ∃ cv, Hid (OwnF TN wc BY cv (manyS dinsP L t4.2).1) ∧ Hid (Bk wc Y #[.int .i64 t1.1, .int .i64 t2.1, .int .i64 t3.1, cv] 49) ∧ Hid (RdD w wc (Z + 1) (.slice ao N cap) b (manyS dinsP L t4.2).2) ∧ Hid (On (Z + 1) Y w20 wc))
            case first =>
              go_wp2_with fail
              go_loopg [22, 23, 24] L (fun g s22 s23 s24 wk => ∃ (k : Nat) (cv : Value), k + g = L ∧ s22 = .int .i64 (k : Int) ∧ Hid (OwnF TN wk BY cv (manyS dinsP k t4.2).1) ∧ Hid (Bk wk Y #[.int .i64 t1.1, .int .i64 t2.1, .int .i64 t3.1, cv] 49) ∧ Hid (RdD w wk (Z + 1) (.slice ao N cap) b (manyS dinsP k t4.2).2) ∧ Hid (On (Z + 1) Y w20 wk))
              case atStart => exact ⟨0, _, Nat.zero_add _, rfl, HO0, HK20, HM20, HON⟩
              case round =>
                obtain ⟨k, cv, hk, rfl, HOC, HKY, HMK, HOK⟩ := hrel
                clear HO0 HON HM20 HK20
                obtain ⟨ix, hkx, _, _⟩ := HMK.out.at_
                have hml6 := manyS_le (p := dinsP) k t4.2
                have HST := Lib.hid (fun (h : (manyS dinsP k t4.2).2.short = true) (d : Nat) => manyS_stop h d)
                have HSN6 := Lib.hid (manyS_snoc (p := dinsP) k t4.2)
                have k0 : (0 : Int) ≤ (k : Int) := by omega
                by_cases hlk : k < L
                · obtain ⟨g2, rfl⟩ : ∃ g, gk = g + 1 := ⟨gk - 1, by omega⟩
                  have hlki : (k : Int) < (L : Int) := by omega
                  cases hsh : (manyS dinsP k t4.2).2.short
                  case true =>
                    rw [hsh] at hkx
                    have x2 := hkx.cell 2 _ rfl
                    have HE := Lib.hid (show manyS dinsP L t4.2 = manyS dinsP k t4.2 from by
                      have := HST.out hsh (L - k)
                      rw [show k + (L - k) = L by omega] at this
                      exact this)
                    go_wp2_with fail
                    go_meet
                    exact ⟨cv, Lib.hid (by rw [HE.out]; exact HOC.out), HKY, Lib.hid (by rw [HE.out]; exact HMK.out), HOK⟩
                  case false =>
                    rw [hsh] at hkx
                    have x2 := hkx.cell 2 _ rfl
                    obtain ⟨sk, hsk⟩ : ∃ s, Hid ((manyS dinsP k t4.2).2 = s) := ⟨_, Lib.hid rfl⟩
                    have HSN7 := HSN6.out
                    rw [if_neg (by rw [hsh]; simp), hsk.out, dins_eq] at HSN7
                    rw [hsk.out] at HMK
                    have H1 := one_c w _ (Z + 1) (.slice ao N cap) b sk HMK.out
                    obtain ⟨u1, hu1⟩ : ∃ r, Hid (one sk = r) := ⟨_, Lib.hid rfl⟩
                    rw [hu1.out] at H1 HSN7
                    obtain ⟨u2, hu2⟩ : ∃ r, Hid (pair u1.2 = r) := ⟨_, Lib.hid rfl⟩
                    rw [hu2.out] at HSN7
                    obtain ⟨u3, hu3⟩ : ∃ r, Hid (pair u2.2 = r) := ⟨_, Lib.hid rfl⟩
                    rw [hu3.out] at HSN7
                    obtain ⟨op, hop⟩ : ∃ a, u1.1 = a := ⟨_, rfl⟩
                    obtain ⟨ia, hia⟩ : ∃ a, u2.1 = a := ⟨_, rfl⟩
                    obtain ⟨ib, hib⟩ : ∃ a, u3.1 = a := ⟨_, rfl⟩
                    rw [hop] at H1 HSN7
                    rw [hia, hib] at HSN7
                    have HSN8 := Lib.hid HSN7
                    have HIA := Lib.hid hia
                    have HIB := Lib.hid hib
                    have hcv := HOC.out.val
                    clear HSN7 HSN6 HST hsh hkx hop hia hib
                    go_wp2_with fail
                    refine H1.mono ?_
                    rintro e w23 ⟨rfl, hm23, ho23⟩
                    have H2 := pair_c w w23 (Z + 1) (.slice ao N cap) b u1.2 hm23
                    rw [hu2.out, HIA.out] at H2
                    clear H1 hm23 x2
                    go_wp2_with fail
                    refine H2.mono ?_
                    rintro e w24 ⟨rfl, hm24, ho24⟩
                    have ho24 := ho23.trans ho24
                    have K24 := ho24.bk HKY.out hYZ hYZ
                    have own24 := own_on HOC.out ho24 hZBY hZBY (fun b h => h.elim)
                    have HN24 := Lib.hid (HOK.out.trans ho24.wide)
                    have H3 := pair_c w w24.drew (Z + 1) (.slice ao N cap) b u2.2 (hm24.keep (bdr w24))
                    rw [hu3.out, HIB.out] at H3
                    replace H3 := Lib.hid H3
                    have HK24 := Lib.hid K24.drew
                    have HW24 := Lib.hid (own24.keep (bdr w24))
                    have y3 := K24.drew.cell 3 _ rfl
                    clear H2 hm24 ho24 ho23 K24 own24
                    obtain ⟨ka, kc, ekv, _⟩ := hcv
                    obtain ⟨NK, hNK⟩ : ∃ n, (manyS dinsP k t4.2).1.length = n := ⟨_, rfl⟩
                    rw [hNK] at ekv
                    subst ekv
                    go_upto_region 48 with fail
                    go_region_law (first
                      | (refine step_row TN (w25.alloc (.cells #[.int .i64 op, .int .i64 ia, .int .i64 ib] 45)) rfl (.tmp 147) (.tmp 153) rfl BY (fun _ => False) (.slice ka NK kc) (.slice (some ⟨w25.heap.size, 0, none⟩) 1 1) (manyS dinsP k t4.2).1 [⟨op, ia, ib⟩] (by rfl) (by rfl) HOA.out HR.out HLN.out HBS8.out ?_; intro ao9 n9 cap9 w9 hO9 hn9 hg9 ha9; clear hn9; have HO9 := Lib.hid hO9; have HK9 := Lib.hid (HKA.out.grown hg9 (fun e => by have := (HOW.out Y e).1; omega)); have HM9 := Lib.hid (HMA.out.grown hg9 (fun b hb => (HOW.out b hb).1) hZBY); have HN9 := Lib.hid (HNA.out.grown hg9 (fun b hb => by rw [hBY.out]; exact (HOW.out b hb).1)); have f9 := HK9.out.free 3; have r9' := HK9.out.cell 3 _ rfl; have l9 := HK9.out.lt; clear hO9 hg9 ha9)
                      | (go_simp; go_at_call 28; refine H3.out.mono ?_; rintro e w25 ⟨rfl, hm25, ho25⟩; have own25 := own_on HW24.out ho25 hZBY hZBY (fun b h => h.elim); have hky := ho25.bk HK24.out hYZ hYZ; have HOW := Lib.hid (fun b hb => own25.own (b := b) hb); have HOA := Lib.hid (own25.keep (balloc w25 (.cells #[.int .i64 op, .int .i64 ia, .int .i64 ib] 45))); have HR := Lib.hid (show RowR TN (w25.alloc (.cells #[.int .i64 op, .int .i64 ia, .int .i64 ib] 45)) (fun b => False ∧ (Value.slice ka NK kc).ownBlock ≠ some b) (.slice (some ⟨w25.heap.size, 0, none⟩) 1 1) [⟨op, ia, ib⟩] from rowR_new (q := []) #[.int .i64 op, .int .i64 ia, .int .i64 ib] 45 rfl rfl); have HLN := Lib.hid (show (manyS dinsP k t4.2).1.length + [(⟨op, ia, ib⟩ : In)].length ≤ 100000000000 by simp; omega); have HBS8 := Lib.hid (show BY ≤ (w25.alloc (.cells #[.int .i64 op, .int .i64 ia, .int .i64 ib] 45)).heap.size from by rw [← hBY.out]; exact Nat.le_trans HN24.out.size (Nat.le_trans ho25.size (balloc w25 _).size)); have HKA := Lib.hid (hky.alloc (.cells #[.int .i64 op, .int .i64 ia, .int .i64 ib] 45)); have HMA := Lib.hid (hm25.keep (balloc w25 (.cells #[.int .i64 op, .int .i64 ia, .int .i64 ib] 45))); have HNA := Lib.hid (((HN24.out.trans (On.of (bdr w24))).trans ho25.wide).trans (On.of (balloc w25 (.cells #[.int .i64 op, .int .i64 ia, .int .i64 ib] 45)))); have y3b := hky.cell 3 _ rfl; have y3c := HKA.out.cell 3 _ rfl; clear hm25 ho25 own25 hky))
                    all_goals
                      go_wp2_with fail
                      go_roundg g2
                      case rel => exact ⟨k + 1, _, by omega, by go_num, Lib.hid (by rw [HSN8.out]; exact HO9.out.other (fun b h => h.elim) hYBY 3 _), Lib.hid (HK9.out.set 3 _), Lib.hid (by rw [HSN8.out]; exact HM9.out.set hYZ hwY 3 _), Lib.hid (HN9.out.trans (On.sety _ _ _ _ _))⟩
                      case measure => omega
                · have hkL : k = L := by omega
                  subst hkL
                  go_wp2_with fail
                  go_meet
                  exact ⟨cv, HOC, HKY, HMK, HOK⟩
            case rest =>
              obtain ⟨cv, HOC, HKY, HMK, HOK⟩ := hcut
              generalize wc = w26 at HOC HKY HMK HOK ⊢
              clear HO0 HON HM20 HK20
              obtain ⟨ca, cc, ecv, _⟩ := HOC.out.val
              obtain ⟨mc, hmc⟩ : ∃ mc, Hid (manyS dinsP L t4.2 = mc) := ⟨_, Lib.hid rfl⟩
              rw [hmc.out] at HOC HMK HDB2 ecv
              obtain ⟨NC, hNC⟩ : ∃ n, mc.1.length = n := ⟨_, rfl⟩
              rw [hNC] at ecv
              subst ecv
              have hon := HN20.out
              have hlow : wr.heap.size ≤ Y := by rw [hY.out]; exact Nat.le_refl _
              have hnn : On (Z + 1) (Z + 1) wr w26 := by
                have h1 := HOK.out
                exact ⟨h1.os.trans hon.os, h1.tape.trans hon.tape, h1.output.trans hon.output, Nat.le_trans hon.size h1.size, fun q hq hx _ => (h1.block q (Nat.lt_of_lt_of_le hq hon.size) hx (by omega)).trans (hon.block q hq hx hx)⟩
              have hown := own_on HO.out hnn hZ3 hZ3 (fun b hb => by have hb : B3 ≤ b := hb; omega)
              have hkc := hnn.bk HKC.out hCZ hCZ
              have HOW := Lib.hid (fun b hb => hown.own (b := b) hb)
              have HUW := Lib.hid (fun b hb => HO.out.own (b := b) hb)
              have HOA := Lib.hid (hown.keep (balloc w26 (.cells #[.int .i64 t1.1, .int .i64 t2.1, .int .i64 t3.1, .slice ca NC cc] 49)))
              have HR := Lib.hid (show RowR TF (w26.alloc (.cells #[.int .i64 t1.1, .int .i64 t2.1, .int .i64 t3.1, .slice ca NC cc] 49)) (fun b => B3 ≤ b ∧ fv.ownBlock ≠ some b) (.slice (some ⟨w26.heap.size, 0, none⟩) 1 1) [⟨t1.1, t2.1, t3.1, mc.1⟩] from by
                refine rowR_new (q := [.slice ca NC cc]) #[.int .i64 t1.1, .int .i64 t2.1, .int .i64 t3.1, .slice ca NC cc] 49 rfl ?_
                obtain ⟨qs, g1, g2⟩ := HOC.out.rw
                rw [hNC] at g1
                exact ⟨_, qs, rfl, by rw [hNC]; exact g1.mv (Mv.weak _ fun b hb _ => ⟨by have hb : BY ≤ b := hb; omega, fun e => by have hb : BY ≤ b := hb; have := (HUW.out b e).2; have := hY.out; omega⟩), Hs.mv (Mv.weak _ fun b hb _ => hb.elim) _ _ g2⟩)
              have HLN := Lib.hid (show (many dbodyP i r9.2).1.length + [(⟨t1.1, t2.1, t3.1, mc.1⟩ : Bd)].length ≤ 100000000000 by rw [hml]; simp; omega)
              have HBS8 := Lib.hid (show B3 ≤ (w26.alloc (.cells #[.int .i64 t1.1, .int .i64 t2.1, .int .i64 t3.1, .slice ca NC cc] 49)).heap.size from by rw [← hB3.out]; exact Nat.le_trans HW6.out.size (Nat.le_trans hnn.size (balloc w26 _).size))
              have HKA := Lib.hid (hkc.alloc (.cells #[.int .i64 t1.1, .int .i64 t2.1, .int .i64 t3.1, .slice ca NC cc] 49))
              have HMA := Lib.hid (HMK.out.keep (balloc w26 (.cells #[.int .i64 t1.1, .int .i64 t2.1, .int .i64 t3.1, .slice ca NC cc] 49)))
              have HNA := Lib.hid ((HW6.out.trans hnn.wide).trans (On.of (balloc w26 (.cells #[.int .i64 t1.1, .int .i64 t2.1, .int .i64 t3.1, .slice ca NC cc] 49))))
              have c0 := hkc.cell 0 _ rfl
              have lC := hkc.lt
              have y0 := HKY.out.cell 0 _ rfl
              have y1 := HKY.out.cell 1 _ rfl
              have y2 := HKY.out.cell 2 _ rfl
              have y3 := HKY.out.cell 3 _ rfl
              clear hown hkc hml hNC hon hnn
              go_wp2_with (at_builtin; go_loud (refine wpList_row TF (w26.alloc (.cells #[.int .i64 t1.1, .int .i64 t2.1, .int .i64 t3.1, .slice ca NC cc] 49)) rfl (.tmp 157) (.tmp 159) rfl B3 (fun b => B3 ≤ b) fv (.slice (some ⟨w26.heap.size, 0, none⟩) 1 1) (many dbodyP i r9.2).1 [⟨t1.1, t2.1, t3.1, mc.1⟩] rfl rfl HOA.out HR.out HLN.out HBS8.out ?_); intro ao9 n9 cap9 w9 hO9 hn9 hg9 ha9; clear hn9; have HO9 := Lib.hid hO9; have HK9 := Lib.hid (HKA.out.grown hg9 (fun e => by have := (HOW.out C e).1; omega)); have HM9 := Lib.hid (HMA.out.grown hg9 (fun b hb => (HOW.out b hb).1) hZ3); have HN9 := Lib.hid (HNA.out.grown hg9 (fun b hb => by rw [hB3.out]; exact (HOW.out b hb).1)); have f9 := HK9.out.free 0; have r9' := HK9.out.cell 0 _ rfl; have l9 := HK9.out.lt; clear hO9 hg9 ha9)
              go_roundg g
              case rel => exact ⟨i + 1, _, by omega, by go_num, Lib.hid (by rw [HSN.out, HDB2.out]; exact HO9.out.other (fun b hb => by have hb : B3 ≤ b := hb; omega) hC3 0 _), Lib.hid (HK9.out.set 0 _), Lib.hid (by rw [HSN.out, HDB2.out]; exact HM9.out.set hCZ hwC 0 _), Lib.hid (HN9.out.trans (On.sety _ _ _ _ _))⟩
              case measure => omega
          · have hiK : i = K3 := by omega
            subst hiK
            go_wp2_with fail
            go_meet
            exact ⟨fv, HO, HKC, HM, HW6⟩
      case rest =>
        obtain ⟨fv, HOF, HKC, HM, HN⟩ := hcut
        generalize wc = w21 at HOF HKC HM HN ⊢
        clear HO0 HON HM15 HKC15
        have HRD := Lib.hid (show dlistP dbodyP rb.2 = many dbodyP K3 r9.2 from by
          show many dbodyP (one rb.2).1.toNat (one rb.2).2 = _
          rw [hr9.out, HK3.out]; rfl)
        obtain ⟨rd, hrd⟩ : ∃ rd, Hid (many dbodyP K3 r9.2 = rd) := ⟨_, Lib.hid rfl⟩
        rw [hrd.out] at HOF HM HRD
        have HDC := Lib.hid (show dcodeP r3.2 = (⟨rd.1, ra.1, rb.1, LT⟩, rd.2) from by
          rw [dcode_eq, hr4.out, HRA.out, HRB.out, HRD.out, hLT.out])
        have lI : ra.1.length = K1 := by rw [← hra.out]; exact many_len _ _
        have lT : rb.1.length = K2 := by rw [← hrb.out]; exact many_len _ _
        have lF : rd.1.length = K3 := by rw [← hrd.out]; exact many_len _ _
        have lC : ∀ f, f ∈ rd.1 → f.code.length ≤ 100000 := fun f hf => by
          rw [← hrd.out] at hf
          obtain ⟨s', e⟩ := many_all _ _ f hf
          rw [e, dbody_eq]
          dsimp only
          have h1 := manyS_le (p := dinsP) (pair (one (one (one s').2).2).2).1.toNat (pair (one (one (one s').2).2).2).2
          have h2 := pair_range (one (one (one s').2).2).2
          omega
        have HOI21 := own_on HOI15.out HN.out (by omega) (by omega) (fun b h => h.elim)
        have HOT21 := own_on HOT15.out HN.out (by omega) (by omega) (fun b h => h.elim)
        have HKZ21 := Lib.hid (HN.out.bk HKZ15.out (by omega) (by omega))
        have HB21 := Lib.hid (HB15.out.trans (HN.out.below (B := w.heap.size) (by omega) (by omega) HB15.out.size))
        have HHO := Lib.hid (show HasO w21 B1 ⟨rd.1, ra.1, rb.1, LT⟩ fv iv tv from ⟨ownR_low HOF.out (by omega) (fun b hb => by omega), HOI21, ownR_low HOT21 (by omega) (fun b h => h)⟩)
        have HMAY := may_c ⟨rd.1, ra.1, rb.1, LT⟩ _ _ _ w21 _ HHO.out.has ⟨by show rd.1.length ≤ _; omega, by show ra.1.length ≤ _; omega, by show rb.1.length ≤ _; omega, lC⟩
        obtain ⟨fa, fc, ef0, _⟩ := HHO.out.funs.val
        obtain ⟨ia, ic, ei0, _⟩ := HHO.out.ints.val
        obtain ⟨ta, tc, et0, _⟩ := HHO.out.texts.val
        have ef : fv = .slice fa K3 fc := by rw [ef0, ← lF]
        have ei : iv = .slice ia K1 ic := by rw [ei0, ← lI]
        have et : tv = .slice ta K2 tc := by rw [et0, ← lT]
        obtain ⟨mb, hmb⟩ : ∃ mb, mayB ⟨rd.1, ra.1, rb.1, LT⟩ = mb := ⟨_, rfl⟩
        rw [hmb] at HMAY
        have HMB := Lib.hid hmb
        clear ef0 ei0 et0 hmb lI lT lF lC HOI21 HOT21 HKZ15 HB15 HOI15 HOT15 HOF
        subst ef ei et
        dsimp only at HMAY
        have k0 := HKC.out.cell 0 _ rfl
        have k1 := HKC.out.cell 1 _ rfl
        have k2 := HKC.out.cell 2 _ rfl
        have k3 := HKC.out.cell 3 _ rfl
        go_wp2_with fail
        refine HMAY.mono ?_
        rintro e w22 ⟨rfl, hb22⟩
        have HKZ22 := Lib.hid (HKZ21.out.keep hb22)
        have HKC22 := Lib.hid (HKC.out.keep hb22)
        have HHO22 := Lib.hid (HHO.out.keep hb22)
        have HB22 := Lib.hid (HB21.out.trans (hb22.mono HB21.out.size))
        have hm22 := HM.out.keep hb22
        obtain ⟨i9, hkx, hi9, hrest⟩ := hm22.at_
        rw [hN.out] at hi9
        have HRE := Lib.hid hrest
        obtain ⟨sh, hsh⟩ : ∃ sh, rd.2.short = sh := ⟨_, rfl⟩
        rw [hsh] at hkx
        have HSH := Lib.hid hsh
        have x1 := hkx.cell 1 _ rfl
        have x2 := hkx.cell 2 _ rfl
        clear HMAY hb22 hm22 hkx hrest hsh k0 k1 k2 k3
        have z0 := HKZ22.out.cell 0 _ rfl
        have z1 := HKZ22.out.cell 1 _ rfl
        have z2 := HKZ22.out.cell 2 _ rfl
        have z3 := HKZ22.out.cell 3 _ rfl
        have g0 := HKZ22.out.free 0
        have g1 := HKZ22.out.free 1
        have g2 := HKZ22.out.free 2
        have g3 := HKZ22.out.free 3
        have lz := HKZ22.out.lt
        have k0 := HKC22.out.cell 0 _ rfl
        have k1 := HKC22.out.cell 1 _ rfl
        have k2 := HKC22.out.cell 2 _ rfl
        have k3 := HKC22.out.cell 3 _ rfl
        cases sh
        case true =>
          go_wp2_with fail
          have HF := Lib.hid (show fin hd (dcodeP r3.2) = none from by rw [HDC.out]; unfold fin; rw [if_neg]; intro h; have := HSH.out; rw [h.2.1] at this; cases this)
          have K9 := set4 HKZ22.out (a' := .slice none 0 0) (b' := .slice none 0 0) (c' := .slice none 0 0) (d' := .int .i64 0)
          have HB9 := Lib.hid ((((HB22.out.setCell (p := ⟨Z, 0, none⟩) hwz (.slice none 0 0)).setCell (p := ⟨Z, 1, none⟩) hwz (.slice none 0 0)).setCell (p := ⟨Z, 2, none⟩) hwz (.slice none 0 0)).setCell (p := ⟨Z, 3, none⟩) hwz (.int .i64 0))
          have d0 := K9.cell 0 _ rfl
          have d1 := K9.cell 1 _ rfl
          have d2 := K9.cell 2 _ rfl
          have d3 := K9.cell 3 _ rfl
          exact bodyPost_ret (v := .tuple #[.agg #[.slice none 0 0, .slice none 0 0, .slice none 0 0, .int .i64 0], .int .i64 31]) (by simp [results, Try.results11, go_sem, d0, d1, d2, d3]) rfl ⟨HB9.out, .inr ⟨HF.out, rfl⟩⟩
        case false =>
          by_cases hn9 : i9 = N
          case neg =>
            have e9 : ((i9 : Int) != (N : Int)) = true := bne_iff_ne.mpr (by omega)
            go_wp2_with fail
            have HF := Lib.hid (show fin hd (dcodeP r3.2) = none from by rw [HDC.out]; unfold fin; rw [if_neg]; intro h; have h3 := h.2.2.1; rw [HRE.out] at h3; have h4 := congrArg List.length h3; rw [List.length_drop, hN.out] at h4; simp at h4; omega)
            have K9 := set4 HKZ22.out (a' := .slice none 0 0) (b' := .slice none 0 0) (c' := .slice none 0 0) (d' := .int .i64 0)
            have HB9 := Lib.hid ((((HB22.out.setCell (p := ⟨Z, 0, none⟩) hwz (.slice none 0 0)).setCell (p := ⟨Z, 1, none⟩) hwz (.slice none 0 0)).setCell (p := ⟨Z, 2, none⟩) hwz (.slice none 0 0)).setCell (p := ⟨Z, 3, none⟩) hwz (.int .i64 0))
            have d0 := K9.cell 0 _ rfl
            have d1 := K9.cell 1 _ rfl
            have d2 := K9.cell 2 _ rfl
            have d3 := K9.cell 3 _ rfl
            exact bodyPost_ret (v := .tuple #[.agg #[.slice none 0 0, .slice none 0 0, .slice none 0 0, .int .i64 0], .int .i64 31]) (by simp [results, Try.results11, go_sem, d0, d1, d2, d3]) rfl ⟨HB9.out, .inr ⟨HF.out, rfl⟩⟩
          case pos =>
            subst hn9
            have e9 : ((i9 : Int) != (i9 : Int)) = false := by simp
            cases mb
            case false =>
              go_wp2_with fail
              have HF := Lib.hid (show fin hd (dcodeP r3.2) = none from by rw [HDC.out]; unfold fin; rw [if_neg]; intro h; have := HMB.out; rw [h.2.2.2] at this; cases this)
              have K9 := set4 HKZ22.out (a' := .slice none 0 0) (b' := .slice none 0 0) (c' := .slice none 0 0) (d' := .int .i64 0)
              have HB9 := Lib.hid ((((HB22.out.setCell (p := ⟨Z, 0, none⟩) hwz (.slice none 0 0)).setCell (p := ⟨Z, 1, none⟩) hwz (.slice none 0 0)).setCell (p := ⟨Z, 2, none⟩) hwz (.slice none 0 0)).setCell (p := ⟨Z, 3, none⟩) hwz (.int .i64 0))
              have d0 := K9.cell 0 _ rfl
              have d1 := K9.cell 1 _ rfl
              have d2 := K9.cell 2 _ rfl
              have d3 := K9.cell 3 _ rfl
              exact bodyPost_ret (v := .tuple #[.agg #[.slice none 0 0, .slice none 0 0, .slice none 0 0, .int .i64 0], .int .i64 31]) (by simp [results, Try.results11, go_sem, d0, d1, d2, d3]) rfl ⟨HB9.out, .inr ⟨HF.out, rfl⟩⟩
            case true =>
              go_wp2_with fail
              have HF := Lib.hid (show fin hd (dcodeP r3.2) = some ⟨rd.1, ra.1, rb.1, LT⟩ from by
                rw [HDC.out]
                unfold fin
                rw [if_pos]
                exact ⟨HHD2.out, HSH.out, by rw [HRE.out]; exact List.drop_eq_nil_of_le (by rw [hN.out]; exact Nat.le_refl _), HMB.out⟩)
              have K9 := set4 HKZ22.out (a' := .slice fa K3 fc) (b' := .slice ia K1 ic) (c' := .slice ta K2 tc) (d' := .int .i64 LT)
              have HB9 := Lib.hid ((((HB22.out.setCell (p := ⟨Z, 0, none⟩) hwz (.slice fa K3 fc)).setCell (p := ⟨Z, 1, none⟩) hwz (.slice ia K1 ic)).setCell (p := ⟨Z, 2, none⟩) hwz (.slice ta K2 tc)).setCell (p := ⟨Z, 3, none⟩) hwz (.int .i64 LT))
              have hzl : Z < B1 := by omega
              have HH9 := Lib.hid (hasO_low ((((HHO22.out.other hzl 0 (.slice fa K3 fc)).other hzl 1 (.slice ia K1 ic)).other hzl 2 (.slice ta K2 tc)).other hzl 3 (.int .i64 LT)) (show w.heap.size ≤ B1 by omega))
              have d0 := K9.cell 0 _ rfl
              have d1 := K9.cell 1 _ rfl
              have d2 := K9.cell 2 _ rfl
              have d3 := K9.cell 3 _ rfl
              exact bodyPost_ret (v := .tuple #[.agg #[.slice fa K3 fc, .slice ia K1 ic, .slice ta K2 tc, .int .i64 LT], .int .i64 0]) (by simp [results, Try.results11, go_sem, d0, d1, d2, d3]) rfl ⟨HB9.out, .inl ⟨⟨rd.1, ra.1, rb.1, LT⟩, _, _, _, HF.out, rfl, HH9.out⟩⟩
end Go.Proofs.Ytpommjmlenfknaa.QO
