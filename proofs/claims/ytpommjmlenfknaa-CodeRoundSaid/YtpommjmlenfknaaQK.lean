/- A code read, by the program: the walk of readCode. -/
import Derived.Test.YtpommjmlenfknaaQJ
namespace Go.Proofs.Ytpommjmlenfknaa.QK
open Go.RowKit Go.Proofs.Ytpommjmlenfknaa.RG Go.Proofs.Ytpommjmlenfknaa.KA Go.Proofs.Ytpommjmlenfknaa.KB Go.Proofs.Ytpommjmlenfknaa.KD Go.Proofs.Ytpommjmlenfknaa.KH Go.Proofs.Ytpommjmlenfknaa.PE Go.Proofs.Ytpommjmlenfknaa.PL Go.Proofs.Ytpommjmlenfknaa.QA Go.Proofs.Ytpommjmlenfknaa.QB Go.Proofs.Ytpommjmlenfknaa.QC Go.Proofs.Ytpommjmlenfknaa.QE Go.Proofs.Ytpommjmlenfknaa.QF Go.Proofs.Ytpommjmlenfknaa.QG Go.Proofs.Ytpommjmlenfknaa.QH Go.Proofs.Ytpommjmlenfknaa.QI Go.Proofs.Ytpommjmlenfknaa.QJ
set_option linter.unusedVariables false
set_option maxRecDepth 100000
set_option maxRecDepth 100000

theorem code_eq (s : St) : codeP s = (⟨(listP 1 120 bodyP (listP 1 120 textP (listP 1 120 (numP 8) (nx 1 s).2).2).2).1, (listP 1 120 (numP 8) (nx 1 s).2).1, (listP 1 120 textP (listP 1 120 (numP 8) (nx 1 s).2).2).1, num (nx 1 s).1⟩, (listP 1 120 bodyP (listP 1 120 textP (listP 1 120 (numP 8) (nx 1 s).2).2).2).2) := by
  unfold codeP mapP seqP
  generalize listP 1 120 (numP 8) = L
  generalize listP 1 120 textP = M
  generalize listP 1 120 bodyP = N
  unfold numP
  rfl
theorem hasO_on {w w' : World} {B x y : Nat} {c : Cd} {fv iv tv : Value} (h : HasO w B c fv iv tv) (hb : On x y w w') (hx : x < B) (hy : y < B) : HasO w' B c fv iv tv :=
  ⟨own_on h.funs hb hx hy (fun b hb => by have hb : B ≤ b := hb; omega), own_on h.ints hb hx hy (fun b h => h.elim), own_on h.texts hb hx hy (fun b h => h.elim)⟩
theorem hasO_low {w : World} {B B' : Nat} {c : Cd} {fv iv tv : Value} (h : HasO w B c fv iv tv) (hB : B' ≤ B) : HasO w B' c fv iv tv :=
  ⟨ownR_low h.funs hB (fun b hb => Nat.le_trans hB hb), ownR_low h.ints hB (fun _ h => h), ownR_low h.texts hB (fun _ h => h)⟩
set_option maxHeartbeats 16000000 in
theorem rcode_c (w0 w : World) (x y : Nat) (s : St) (h : RdM w0 w x y s) :
    Calls Try.prog 25 #[NX x y] w fun e w' => ∃ fv iv tv, e = .returned (.agg #[fv, iv, tv, .int .i64 (codeP s).1.lets]) ∧ HasO w' w.heap.size (codeP s).1 fv iv tv ∧ RdM w0 w' x y (codeP s).2 ∧ On x y w w' := by
  obtain ⟨rv0, hbx0, _⟩ := h.rest
  have hxl := hbx0.lt
  have hyl := h.short.lt
  clear hbx0
  have hsz0 : w0.heap.size ≤ w.heap.size := h.old.size
  obtain ⟨Z, hZ⟩ : ∃ Z, Hid (w.heap.size = Z) := ⟨_, Lib.hid rfl⟩
  have hZx : Z ≠ x := by rw [← hZ.out]; omega
  have hZy : Z ≠ y := by rw [← hZ.out]; omega
  have hRx : Z + 1 ≠ x := by rw [← hZ.out]; omega
  have hRy : Z + 1 ≠ y := by rw [← hZ.out]; omega
  have hZQ : Z ≠ Z + 1 + 1 := by omega
  have hRQ : Z + 1 ≠ Z + 1 + 1 := by omega
  have hQx : Z + 1 + 1 ≠ x := by rw [← hZ.out]; omega
  have hQy : Z + 1 + 1 ≠ y := by rw [← hZ.out]; omega
  have hwo : w0.heap.size ≤ Z := by rw [← hZ.out]; exact hsz0
  have hwo1 : w0.heap.size ≤ Z + 1 := Nat.le_succ_of_le hwo
  have hwo2 : w0.heap.size ≤ Z + 1 + 1 := Nat.le_succ_of_le hwo1
  have hwZ : w.heap.size ≤ Z := by rw [hZ.out]; exact Nat.le_refl _
  have hwZ1 : w.heap.size ≤ Z + 1 := Nat.le_succ_of_le hwZ
  have hwZ2 : w.heap.size ≤ Z + 1 + 1 := Nat.le_succ_of_le hwZ1
  rw [code_eq]
  dsimp only
  have l1 := nx_len 1 s
  obtain ⟨r1, hr1⟩ : ∃ r1, Hid (nx 1 s = r1) := ⟨_, Lib.hid rfl⟩
  rw [hr1.out] at l1 ⊢
  obtain ⟨ra, hra⟩ : ∃ ra, Hid (listP 1 120 (numP 8) r1.2 = ra) := ⟨_, Lib.hid rfl⟩
  rw [hra.out]
  obtain ⟨rb, hrb⟩ : ∃ rb, Hid (listP 1 120 textP ra.2 = rb) := ⟨_, Lib.hid rfl⟩
  rw [hrb.out]
  obtain ⟨rd, hrd⟩ : ∃ rd, Hid (listP 1 120 bodyP rb.2 = rd) := ⟨_, Lib.hid rfl⟩
  rw [hrd.out]
  have HL := Lib.hid l1
  clear l1
  go_enter Try.func25, Try.ntmps25
  go_upto_region 2 with fail
  rw [hZ.out]
  have K0 := ((new_at w #[NX x y] 77 hZ.out).alloc (.cells #[.slice none 0 0, .slice none 0 0, .slice none 0 0, .int .i64 0] 27)).alloc (.cells #[.slice none 0 0, .slice none 0 0, .slice none 0 0, .int .i64 0] 27)
  have K1 := (new_at (w.alloc (.cells #[NX x y] 77)) #[.slice none 0 0, .slice none 0 0, .slice none 0 0, .int .i64 0] 27 (show _ = Z + 1 by simp [hZ.out])).alloc (.cells #[.slice none 0 0, .slice none 0 0, .slice none 0 0, .int .i64 0] 27)
  have K2 := new_at ((w.alloc (.cells #[NX x y] 77)).alloc (.cells #[.slice none 0 0, .slice none 0 0, .slice none 0 0, .int .i64 0] 27)) #[.slice none 0 0, .slice none 0 0, .slice none 0 0, .int .i64 0] 27 (show _ = Z + 1 + 1 by simp [hZ.out])
  have hoA : On x y w (((w.alloc (.cells #[NX x y] 77)).alloc (.cells #[.slice none 0 0, .slice none 0 0, .slice none 0 0, .int .i64 0] 27)).alloc (.cells #[.slice none 0 0, .slice none 0 0, .slice none 0 0, .int .i64 0] 27)) := On.of (bnext (bnext (balloc w _) (balloc _ _)) (balloc _ _))
  have hmA := ((h.keep (balloc w (.cells #[NX x y] 77))).keep (balloc _ (.cells #[.slice none 0 0, .slice none 0 0, .slice none 0 0, .int .i64 0] 27))).keep (balloc _ (.cells #[.slice none 0 0, .slice none 0 0, .slice none 0 0, .int .i64 0] 27))
  generalize World.alloc (World.alloc (World.alloc w _) _) _ = W at K0 K1 K2 hoA hmA ⊢
  have HN1 := next_z w0 W x y s 1 1 rfl hmA (by decide)
  rw [hr1.out] at HN1
  have z0 := K0.cell 0 _ rfl
  clear h hmA
  go_wp2_with fail
  refine HN1.mono ?_
  rintro e w1 ⟨v1, rfl, hw1, hm1, ho1⟩
  clear HN1 z0
  have HA1 := number_c v1 r1.1 w1 _ (RowR.keep_old hw1 hm1) (by have := HL.out; omega)
  have K01 := ho1.bk K0 hZx hZy
  have K11 := ho1.bk K1 hRx hRy
  have K21 := ho1.bk K2 hQx hQy
  have ho1 := hoA.trans ho1
  clear hw1 K0 K1 K2 hoA HL
  have a3 := K21.free 3
  have b3 := K21.cell 3 _ rfl
  have lq := K21.lt
  have z1 := (K01.other hZQ 3 (.int .i64 (num r1.1))).cell 0 _ rfl
  go_wp2_with (go_at_call 37; refine HA1.mono ?_; rintro e w1' ⟨rfl, he1⟩; obtain rfl := he1.symm)
  have HI := listI_c w0 (w1.setCell ⟨Z + 1 + 1, 3, none⟩ (.int .i64 (num r1.1))) x y Z r1.2 (hm1.set hQx hQy hwo2 3 _) (K01.other hZQ 3 _) hZx hZy
  rw [hra.out] at HI
  refine HI.mono ?_
  rintro e w3 ⟨vI, rfl, hoI, hm3, ho3⟩
  have K03 := ho3.bk (K01.other hZQ 3 (.int .i64 (num r1.1))) hZx hZy
  have K13 := ho3.bk (K11.other hRQ 3 (.int .i64 (num r1.1))) hRx hRy
  have K23 := ho3.bk (K21.set 3 (.int .i64 (num r1.1))) hQx hQy
  have ho3 := (ho1.setz hwZ2 3 (.int .i64 (num r1.1))).trans ho3
  have hoI := ownR_low hoI (show Z + 1 + 1 + 1 ≤ _ by simp; omega) (fun b h => h)
  obtain ⟨ia, ic, rfl, _⟩ := hoI.val
  obtain ⟨NI, hNI⟩ : ∃ n, Hid (ra.1.length = n) := ⟨_, Lib.hid rfl⟩
  rw [hNI.out] at hoI ⊢
  clear HI HA1 K01 K11 K21 a3 b3 lq z1 hm1 ho1
  have a1 := K23.free 1
  have b1 := K23.cell 1 _ rfl
  have lq := K23.lt
  have z1 := (K03.other hZQ 1 (.slice ia NI ic)).cell 0 _ rfl
  have HT := listT_c w0 (w3.setCell ⟨Z + 1 + 1, 1, none⟩ (.slice ia NI ic)) x y Z ra.2 (hm3.set hQx hQy hwo2 1 _) (K03.other hZQ 1 _) hZx hZy
  rw [hrb.out] at HT
  go_wp2_with fail
  refine HT.mono ?_
  rintro e w5 ⟨vT, rfl, hoT, hm5, ho5⟩
  have hQ1 : Z + 1 + 1 < Z + 1 + 1 + 1 := Nat.lt_succ_self _
  have hx3 : x < Z + 1 + 1 + 1 := by have := hZ.out; omega
  have hy3 : y < Z + 1 + 1 + 1 := by have := hZ.out; omega
  have hoI := own_on (ownF_set hoI hQ1 1 (.slice ia NI ic)) ho5 hx3 hy3 (fun b h => h.elim)
  have K05 := ho5.bk (K03.other hZQ 1 (.slice ia NI ic)) hZx hZy
  have K15 := ho5.bk (K13.other hRQ 1 (.slice ia NI ic)) hRx hRy
  have K25 := ho5.bk (K23.set 1 (.slice ia NI ic)) hQx hQy
  have ho5 := (ho3.setz hwZ2 1 (.slice ia NI ic)).trans ho5
  have hoT := ownR_low hoT (show Z + 1 + 1 + 1 ≤ _ by simp; omega) (fun b h => h)
  obtain ⟨ta, tc, rfl, _⟩ := hoT.val
  obtain ⟨NT, hNT⟩ : ∃ n, Hid (rb.1.length = n) := ⟨_, Lib.hid rfl⟩
  rw [hNT.out] at hoT ⊢
  clear HT K03 K13 K23 a1 b1 lq z1 hm3 ho3
  have a2 := K25.free 2
  have b2 := K25.cell 2 _ rfl
  have lq := K25.lt
  have z1 := (K05.other hZQ 2 (.slice ta NT tc)).cell 0 _ rfl
  have HB := listB_c w0 (w5.setCell ⟨Z + 1 + 1, 2, none⟩ (.slice ta NT tc)) x y Z rb.2 (hm5.set hQx hQy hwo2 2 _) (K05.other hZQ 2 _) hZx hZy
  rw [hrd.out] at HB
  go_wp2_with fail
  refine HB.mono ?_
  rintro e w7 ⟨vB, rfl, hoB, hm7, ho7⟩
  have hoI := own_on (ownF_set hoI hQ1 2 (.slice ta NT tc)) ho7 hx3 hy3 (fun b h => h.elim)
  have hoT := own_on (ownF_set hoT hQ1 2 (.slice ta NT tc)) ho7 hx3 hy3 (fun b h => h.elim)
  have K17 := ho7.bk (K15.other hRQ 2 (.slice ta NT tc)) hRx hRy
  have K27 := ho7.bk (K25.set 2 (.slice ta NT tc)) hQx hQy
  have ho7 := (ho5.setz hwZ2 2 (.slice ta NT tc)).trans ho7
  have hoB := ownR_low hoB (show Z + 1 + 1 + 1 ≤ _ by simp; omega) (T' := fun b => Z + 1 + 1 + 1 ≤ b) (fun b hb => Nat.le_trans (show Z + 1 + 1 + 1 ≤ _ by simp; omega) hb)
  obtain ⟨fa, fc, rfl, _⟩ := hoB.val
  obtain ⟨NF, hNF⟩ : ∃ n, Hid (rd.1.length = n) := ⟨_, Lib.hid rfl⟩
  rw [hNF.out] at hoB ⊢
  clear HB K05 K15 K25 a2 b2 lq z1 hm5 ho5
  have HHO := Lib.hid (show HasO w7 (Z + 1 + 1 + 1) ⟨rd.1, ra.1, rb.1, num r1.1⟩ (.slice fa NF fc) (.slice ia NI ic) (.slice ta NT tc) from ⟨hoB, hoI, hoT⟩)
  have K28 := K27.set 0 (.slice fa NF fc)
  have K18 := K17.other hRQ 0 (.slice fa NF fc)
  have HS9 := Lib.hid (set4 K18 (a' := .slice fa NF fc) (b' := .slice ia NI ic) (c' := .slice ta NT tc) (d' := .int .i64 (num r1.1)))
  have HO9 := Lib.hid (((((ho7.setz hwZ2 0 (.slice fa NF fc)).setz hwZ1 0 (.slice fa NF fc)).setz hwZ1 1 (.slice ia NI ic)).setz hwZ1 2 (.slice ta NT tc)).setz hwZ1 3 (.int .i64 (num r1.1)))
  have HM9 := Lib.hid (((((hm7.set hQx hQy hwo2 0 (.slice fa NF fc)).set hRx hRy hwo1 0 (.slice fa NF fc)).set hRx hRy hwo1 1 (.slice ia NI ic)).set hRx hRy hwo1 2 (.slice ta NT tc)).set hRx hRy hwo1 3 (.int .i64 (num r1.1)))
  have hR1 : Z + 1 < Z + 1 + 1 + 1 := by omega
  have hh := ((((HHO.out.other hQ1 0 (.slice fa NF fc)).other hR1 0 (.slice fa NF fc)).other hR1 1 (.slice ia NI ic)).other hR1 2 (.slice ta NT tc)).other hR1 3 (.int .i64 (num r1.1))
  have HH9 := Lib.hid (hasO_low hh (show w.heap.size ≤ Z + 1 + 1 + 1 by omega))
  have q0 := K27.cell 0 _ rfl
  have q1 := K27.cell 1 _ rfl
  have q2 := K27.cell 2 _ rfl
  have q3 := K27.cell 3 _ rfl
  have fq := K27.free 0
  have s0 := K17.cell 0 _ rfl
  have s1 := K17.cell 1 _ rfl
  have s2 := K17.cell 2 _ rfl
  have s3 := K17.cell 3 _ rfl
  have fs0 := K17.free 0
  have fs1 := K17.free 1
  have fs2 := K17.free 2
  have fs3 := K17.free 3
  have lq := K27.lt
  have ls := K17.lt
  clear hoI hoT hoB hm7 ho7 hh K28 K18 K17 K27
  go_wp2_with fail
  have g0 := HS9.out.cell 0 _ rfl
  have g1 := HS9.out.cell 1 _ rfl
  have g2 := HS9.out.cell 2 _ rfl
  have g3 := HS9.out.cell 3 _ rfl
  exact bodyPost_ret (v := .agg #[.slice fa NF fc, .slice ia NI ic, .slice ta NT tc, .int .i64 (num r1.1)]) (by simp [results, Try.results25, go_sem, g0, g1, g2, g3]) rfl ⟨_, _, _, rfl, HH9.out, HM9.out, HO9.out⟩
end Go.Proofs.Ytpommjmlenfknaa.QK
