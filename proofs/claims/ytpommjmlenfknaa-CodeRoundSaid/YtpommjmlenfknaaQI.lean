/- Functions and a code read, by the program: the walks. -/
import Derived.Test.YtpommjmlenfknaaQH
namespace Go.Proofs.Ytpommjmlenfknaa.QI
open Go.RowKit Go.Proofs.Ytpommjmlenfknaa.RG Go.Proofs.Ytpommjmlenfknaa.KA Go.Proofs.Ytpommjmlenfknaa.KB Go.Proofs.Ytpommjmlenfknaa.KD Go.Proofs.Ytpommjmlenfknaa.KH Go.Proofs.Ytpommjmlenfknaa.PE Go.Proofs.Ytpommjmlenfknaa.PL Go.Proofs.Ytpommjmlenfknaa.QA Go.Proofs.Ytpommjmlenfknaa.QB Go.Proofs.Ytpommjmlenfknaa.QC Go.Proofs.Ytpommjmlenfknaa.QE Go.Proofs.Ytpommjmlenfknaa.QF Go.Proofs.Ytpommjmlenfknaa.QG Go.Proofs.Ytpommjmlenfknaa.QH
set_option linter.unusedVariables false
set_option maxRecDepth 100000
set_option maxRecDepth 100000

theorem _root_.Go.Proofs.Ytpommjmlenfknaa.KH.ownF_set {α : Type} {R : Ty Try.prog α} {w : World} {B Q : Nat} {v : Value} {L : List α} (h : OwnF R w B v L) (hQ : Q < B) (i : Nat) (u : Value) : OwnF R (w.setCell ⟨Q, i, none⟩ u) B v L := h.other (fun b h => h.elim) hQ i u
/-- Four values put into a block. -/
theorem set4 {w : World} {x : Nat} {a b c d a' b' c' d' : Value} {t : TypeId} (h : Bk w x #[a, b, c, d] t) : Bk ((((w.setCell ⟨x, 0, none⟩ a').setCell ⟨x, 1, none⟩ b').setCell ⟨x, 2, none⟩ c').setCell ⟨x, 3, none⟩ d') x #[a', b', c', d'] t :=
  (((h.set 0 a').set 1 b').set 2 c').set 3 d'
theorem body_eq (s : St) : bodyP s = (⟨num (nx 1 s).1, num (nx 1 (nx 1 s).2).1, num (nx 1 (nx 1 (nx 1 s).2).2).1, (listP 2 400 insP (nx 1 (nx 1 (nx 1 s).2).2).2).1⟩, (listP 2 400 insP (nx 1 (nx 1 (nx 1 s).2).2).2).2) := by
  unfold bodyP mapP seqP numP
  generalize listP 2 400 insP = L
  rfl
set_option maxHeartbeats 8000000 in
theorem fun_c (w0 w : World) (x y : Nat) (s : St) (h : RdM w0 w x y s) :
    Calls Try.prog 44 #[NX x y] w fun e w' => ∃ cv, e = .returned (.agg #[.int .i64 (bodyP s).1.kept, .int .i64 (bodyP s).1.locals, .int .i64 (bodyP s).1.stack, cv]) ∧ OwnF TN w' w.heap.size cv (bodyP s).1.code ∧ RdM w0 w' x y (bodyP s).2 ∧ On x y w w' := by
  obtain ⟨rv0, hbx0, _⟩ := h.rest
  have hxl := hbx0.lt
  have hyl := h.short.lt
  clear hbx0
  have hsz0 : w0.heap.size ≤ w.heap.size := h.old.size
  obtain ⟨Z, hZ⟩ : ∃ Z, Hid (w.heap.size = Z) := ⟨_, Lib.hid rfl⟩
  have hZx : Z ≠ x := by rw [← hZ.out]; omega
  have hZy : Z ≠ y := by rw [← hZ.out]; omega
  have hRx : Z + 1 ≠ x := by rw [← hZ.out]; omega
  have hRy : Z + 1 ≠ y := by rw [← hZ.out]; omega
  have hZQ : Z ≠ Z + 1 + 1 := by omega
  have hRQ : Z + 1 ≠ Z + 1 + 1 := by omega
  have hQx : Z + 1 + 1 ≠ x := by rw [← hZ.out]; omega
  have hQy : Z + 1 + 1 ≠ y := by rw [← hZ.out]; omega
  rw [body_eq]
  dsimp only
  generalize hLP : listP 2 400 insP = LP
  have l1 := nx_len 1 s
  have l2 := nx_len 1 (nx 1 s).2
  have l3 := nx_len 1 (nx 1 (nx 1 s).2).2
  obtain ⟨r1, hr1⟩ : ∃ r1, Hid (nx 1 s = r1) := ⟨_, Lib.hid rfl⟩
  rw [hr1.out] at l1 l2 l3 ⊢
  obtain ⟨r2, hr2⟩ : ∃ r2, Hid (nx 1 r1.2 = r2) := ⟨_, Lib.hid rfl⟩
  rw [hr2.out] at l2 l3 ⊢
  obtain ⟨r3, hr3⟩ : ∃ r3, Hid (nx 1 r2.2 = r3) := ⟨_, Lib.hid rfl⟩
  rw [hr3.out] at l3 ⊢
  go_enter Try.func44, Try.ntmps44
  go_upto_region 2 with fail
  rw [hZ.out]
  have K0 := ((new_at w #[NX x y] 77 hZ.out).alloc (.cells #[.int .i64 0, .int .i64 0, .int .i64 0, .slice none 0 0] 49)).alloc (.cells #[.int .i64 0, .int .i64 0, .int .i64 0, .slice none 0 0] 49)
  have K1 := (new_at (w.alloc (.cells #[NX x y] 77)) #[.int .i64 0, .int .i64 0, .int .i64 0, .slice none 0 0] 49 (show _ = Z + 1 by simp [hZ.out])).alloc (.cells #[.int .i64 0, .int .i64 0, .int .i64 0, .slice none 0 0] 49)
  have K2 := new_at ((w.alloc (.cells #[NX x y] 77)).alloc (.cells #[.int .i64 0, .int .i64 0, .int .i64 0, .slice none 0 0] 49)) #[.int .i64 0, .int .i64 0, .int .i64 0, .slice none 0 0] 49 (show _ = Z + 1 + 1 by simp [hZ.out])
  have hoA : On x y w (((w.alloc (.cells #[NX x y] 77)).alloc (.cells #[.int .i64 0, .int .i64 0, .int .i64 0, .slice none 0 0] 49)).alloc (.cells #[.int .i64 0, .int .i64 0, .int .i64 0, .slice none 0 0] 49)) := On.of (bnext (bnext (balloc w _) (balloc _ _)) (balloc _ _))
  have hmA := ((h.keep (balloc w (.cells #[NX x y] 77))).keep (balloc _ (.cells #[.int .i64 0, .int .i64 0, .int .i64 0, .slice none 0 0] 49))).keep (balloc _ (.cells #[.int .i64 0, .int .i64 0, .int .i64 0, .slice none 0 0] 49))
  generalize World.alloc (World.alloc (World.alloc w _) _) _ = W at K0 K1 K2 hoA hmA ⊢
  have HN1 := next_z w0 W.drew x y s 1 1 rfl (hmA.keep (bdr W)) (by decide)
  rw [hr1.out] at HN1
  replace HN1 := Lib.hid HN1
  have HL := Lib.hid (And.intro l1 (And.intro l2 l3))
  have z0 := K0.cell 0 _ rfl
  have zd : W.drew.cell? ⟨Z, 0, none⟩ = some (NX x y) := z0
  have HZ := Lib.hid K0
  have HR := Lib.hid K1
  have HQ := Lib.hid K2
  have HOA := Lib.hid hoA
  clear h K0 K1 K2 hoA hmA l1 l2 l3
  go_region_held3 (fun w' => w'.cell? ⟨Z, 0, none⟩ = some (NX x y)) (first | with_reducible exact hz1.out.cell 0 _ rfl | with_reducible exact hz2.out.cell 0 _ rfl | with_reducible exact hz3.out.cell 0 _ rfl | with_reducible exact (hz3.out.other hZQ 0 _).cell 0 _ rfl | with_reducible exact ((hz3.out.other hZQ 0 _).other hZQ 1 _).cell 0 _ rfl | with_reducible exact (((hz3.out.other hZQ 0 _).other hZQ 1 _).other hZQ 2 _).cell 0 _ rfl | go_keep)
    (first
      | (go_at_call 24; with_reducible refine HN1.out.mono ?_; rintro e w1 ⟨v1, rfl, hw1, hm1, ho1⟩; clear HN1; have HO1 := Lib.hid ho1; have hz1 := Lib.hid (ho1.bk (HZ.out.drew) hZx hZy); have hs1 := Lib.hid (ho1.bk (HR.out.drew) hRx hRy); have hq1 := Lib.hid (ho1.bk (HQ.out.drew) hQx hQy); have HA1 := Lib.hid (number_c v1 r1.1 w1 _ (RowR.keep_old hw1 hm1) (by have := HL.out.1; omega)); have HN2 := next_z w0 w1 x y r1.2 1 1 rfl hm1 (by decide); rw [hr2.out] at HN2; replace HN2 := Lib.hid HN2; clear hw1 hm1 ho1)
      | (go_at_call 37; with_reducible refine HA1.out.mono ?_; rintro e w1' ⟨rfl, he1⟩; clear HA1; obtain rfl := he1.symm)
      | (go_at_call 24; with_reducible refine HN2.out.mono ?_; rintro e w2 ⟨v2, rfl, hw2, hm2, ho2⟩; clear HN2; have HO2 := Lib.hid ho2; have hz2 := Lib.hid (ho2.bk hz1.out hZx hZy); have hs2 := Lib.hid (ho2.bk hs1.out hRx hRy); have hq2 := Lib.hid (ho2.bk hq1.out hQx hQy); have HA2 := Lib.hid (number_c v2 r2.1 w2 _ (RowR.keep_old hw2 hm2) (by have := HL.out.2.1; omega)); have HN3 := next_z w0 w2 x y r2.2 1 1 rfl hm2 (by decide); rw [hr3.out] at HN3; replace HN3 := Lib.hid HN3; clear hw2 hm2 ho2)
      | (go_at_call 37; with_reducible refine HA2.out.mono ?_; rintro e w2' ⟨rfl, he2⟩; clear HA2; obtain rfl := he2.symm)
      | (go_at_call 24; with_reducible refine HN3.out.mono ?_; rintro e w3 ⟨v3, rfl, hw3, hm3, ho3⟩; clear HN3; have HO3 := Lib.hid ho3; have HM3 := Lib.hid hm3; have hz3 := Lib.hid (ho3.bk hz2.out hZx hZy); have hs3 := Lib.hid (ho3.bk hs2.out hRx hRy); have hq3 := Lib.hid (ho3.bk hq2.out hQx hQy); have HA3 := Lib.hid (number_c v3 r3.1 w3 _ (RowR.keep_old hw3 hm3) (by have := HL.out.2.2; omega)); have f0 := hq3.out.free 0; have f1 := hq3.out.free 1; have f2 := hq3.out.free 2; have c0 := hq3.out.cell 0 _ rfl; have c1 := hq3.out.cell 1 _ rfl; have c2 := hq3.out.cell 2 _ rfl; have lq := hq3.out.lt; clear hw3 hm3 ho3)
      | (go_at_call 37; with_reducible refine HA3.out.mono ?_; rintro e w3' ⟨rfl, he3⟩; clear HA3; obtain rfl := he3.symm))
  go_upto_region 3 with fail
  have hwo : w0.heap.size ≤ Z := by rw [← hZ.out]; exact hsz0
  have hwo1 : w0.heap.size ≤ Z + 1 := Nat.le_succ_of_le hwo
  have hwo2 : w0.heap.size ≤ Z + 1 + 1 := Nat.le_succ_of_le hwo1
  have hwZ : w.heap.size ≤ Z := by rw [hZ.out]; exact Nat.le_refl _
  have hwZ1 : w.heap.size ≤ Z + 1 := Nat.le_succ_of_le hwZ
  have hwZ2 : w.heap.size ≤ Z + 1 + 1 := Nat.le_succ_of_le hwZ1
  have HM5 := Lib.hid (((HM3.out.set hQx hQy hwo2 0 (.int .i64 (num r1.1))).set hQx hQy hwo2 1 (.int .i64 (num r2.1))).set hQx hQy hwo2 2 (.int .i64 (num r3.1)))
  have HZ5 := Lib.hid (((hz3.out.other hZQ 0 (.int .i64 (num r1.1))).other hZQ 1 (.int .i64 (num r2.1))).other hZQ 2 (.int .i64 (num r3.1)))
  have HS5 := Lib.hid (((hs3.out.other hRQ 0 (.int .i64 (num r1.1))).other hRQ 1 (.int .i64 (num r2.1))).other hRQ 2 (.int .i64 (num r3.1)))
  have HQ5 := Lib.hid (((hq3.out.set 0 (.int .i64 (num r1.1))).set 1 (.int .i64 (num r2.1))).set 2 (.int .i64 (num r3.1)))
  have HO5 := Lib.hid ((((HOA.out.trans ((On.of (bdr W)).trans (HO1.out.trans (HO2.out.trans HO3.out)))).setz hwZ2 0 (.int .i64 (num r1.1))).setz hwZ2 1 (.int .i64 (num r2.1))).setz hwZ2 2 (.int .i64 (num r3.1)))
  generalize World.setCell (World.setCell (World.setCell w3 _ _) _ _) _ _ = W5 at HM5 HZ5 HS5 HQ5 HO5 ⊢
  have HL4 := listN_c w0 W5 x y Z r3.2 HM5.out HZ5.out hZx hZy
  rw [hLP] at HL4
  replace HL4 := Lib.hid HL4
  clear f0 f1 f2 c0 c1 c2 lq hz1 hz2 hz3 hs1 hs2 hs3 hq1 hq2 hq3 HZ HR HQ HOA HO1 HO2 HO3 HM3 z0 zd HL
  have z5 := HZ5.out.cell 0 _ rfl
  go_wp2_with fail
  refine HL4.out.mono ?_
  rintro e w6 ⟨v6, rfl, ho6, hm6, hn6⟩
  clear HL4 z5
  obtain ⟨ca, cc, rfl, _⟩ := ho6.val
  obtain ⟨NC, hNC⟩ : ∃ x, Hid ((LP r3.2).1.length = x) := ⟨_, Lib.hid rfl⟩
  rw [hNC.out] at ho6 ⊢
  have hQ5l := HQ5.out.lt
  have hS5l := HS5.out.lt
  have HQ6 := Lib.hid (hn6.bk HQ5.out hQx hQy)
  have HS6 := Lib.hid (hn6.bk HS5.out hRx hRy)
  have HQ7 := Lib.hid (HQ6.out.set 3 (.slice ca NC cc))
  have HS7 := Lib.hid (HS6.out.other hRQ 3 (.slice ca NC cc))
  have HS8 := Lib.hid (set4 HS7.out (a' := .int .i64 (num r1.1)) (b' := .int .i64 (num r2.1)) (c' := .int .i64 (num r3.1)) (d' := .slice ca NC cc))
  have HO8 := Lib.hid ((((((HO5.out.trans hn6).setz hwZ2 3 (.slice ca NC cc)).setz hwZ1 0 (.int .i64 (num r1.1))).setz hwZ1 1 (.int .i64 (num r2.1))).setz hwZ1 2 (.int .i64 (num r3.1))).setz hwZ1 3 (.slice ca NC cc))
  have HM8 := Lib.hid (((((hm6.set hQx hQy hwo2 3 (.slice ca NC cc)).set hRx hRy hwo1 0 (.int .i64 (num r1.1))).set hRx hRy hwo1 1 (.int .i64 (num r2.1))).set hRx hRy hwo1 2 (.int .i64 (num r3.1))).set hRx hRy hwo1 3 (.slice ca NC cc))
  have HW8 := Lib.hid (ownR_low (((((ownF_set ho6 hQ5l 3 (.slice ca NC cc)).other (fun b h => h.elim) hS5l 0 (.int .i64 (num r1.1))).other (fun b h => h.elim) hS5l 1 (.int .i64 (num r2.1))).other (fun b h => h.elim) hS5l 2 (.int .i64 (num r3.1))).other (fun b h => h.elim) hS5l 3 (.slice ca NC cc)) HO5.out.size (fun b h => h))
  have q0 := HQ6.out.cell 0 _ rfl
  have q1 := HQ6.out.cell 1 _ rfl
  have q2 := HQ6.out.cell 2 _ rfl
  have q3 := HQ6.out.cell 3 _ rfl
  have s0 := HS6.out.cell 0 _ rfl
  have s1 := HS6.out.cell 1 _ rfl
  have s2 := HS6.out.cell 2 _ rfl
  have s3 := HS6.out.cell 3 _ rfl
  have fq := HQ6.out.free 3
  have fs0 := HS6.out.free 0
  have fs1 := HS6.out.free 1
  have fs2 := HS6.out.free 2
  have fs3 := HS6.out.free 3
  have lq := HQ6.out.lt
  have ls := HS6.out.lt
  clear ho6 hm6 hn6
  go_wp2_with fail
  have g0 := HS8.out.cell 0 _ rfl
  have g1 := HS8.out.cell 1 _ rfl
  have g2 := HS8.out.cell 2 _ rfl
  have g3 := HS8.out.cell 3 _ rfl
  exact bodyPost_ret (v := .agg #[.int .i64 (num r1.1), .int .i64 (num r2.1), .int .i64 (num r3.1), .slice ca NC cc]) (by simp [results, Try.results44, go_sem, g0, g1, g2, g3]) rfl ⟨_, rfl, HW8.out, HM8.out, HO8.out⟩
end Go.Proofs.Ytpommjmlenfknaa.QI
