/- Rows of things read, by the program: the walks. -/
import Derived.Test.YtpommjmlenfknaaQF
import Derived.Deep.RegionHeld3
import Derived.Deep.DrawnRows
import Derived.Test.YtpommjmlenfknaaPL
namespace Go.Proofs.Ytpommjmlenfknaa.QG
open Go.RowKit Go.Proofs.Ytpommjmlenfknaa.RG Go.Proofs.Ytpommjmlenfknaa.KA Go.Proofs.Ytpommjmlenfknaa.KB Go.Proofs.Ytpommjmlenfknaa.KD Go.Proofs.Ytpommjmlenfknaa.KH Go.Proofs.Ytpommjmlenfknaa.PE Go.Proofs.Ytpommjmlenfknaa.PL Go.Proofs.Ytpommjmlenfknaa.QA Go.Proofs.Ytpommjmlenfknaa.QB Go.Proofs.Ytpommjmlenfknaa.QC Go.Proofs.Ytpommjmlenfknaa.QE Go.Proofs.Ytpommjmlenfknaa.QF
set_option linter.unusedVariables false
set_option maxRecDepth 100000
set_option maxRecDepth 100000

theorem many_snoc {α : Type} {p : St → α × St} : ∀ (n : Nat) (s : St), many p (n + 1) s = ((many p n s).1 ++ [(p (many p n s).2).1], (p (many p n s).2).2)
  | 0, s => rfl
  | n + 1, s => by
    show ((p s).1 :: (many p (n + 1) (p s).2).1, (many p (n + 1) (p s).2).2) = _
    rw [many_snoc n (p s).2]
    rfl
theorem own_on {α : Type} {R : Ty Try.prog α} {w w' : World} {B x y : Nat} {T : Nat → Prop} {v : Value} {L : List α} (h : OwnR R w B T v L) (hb : On x y w w') (hx : x < B) (hy : y < B) (hT : ∀ b, T b → b ≠ x ∧ b ≠ y) : OwnR R w' B T v L := by
  obtain ⟨qs, ⟨h1, h2⟩, h3⟩ := h
  refine ⟨qs, ⟨h1, ?_⟩, Hs.mv ⟨hb.size, fun b hb' hlt => ⟨hb', hb.block b hlt (hT b hb'.1).1 (hT b hb'.1).2⟩⟩ _ _ h3⟩
  rcases h2 with h2 | ⟨g, cap, cur, hv, hg, hh, r⟩
  · exact .inl h2
  · exact .inr ⟨g, cap, cur, hv, hg, by rw [hb.block g (Array.getElem?_eq_some_iff.1 hh).1 (by omega) (by omega)]; exact hh, r⟩
theorem _root_.Go.Proofs.Ytpommjmlenfknaa.QF.RdM.set {w0 w : World} {x y Q : Nat} {s : St} (h : RdM w0 w x y s) (hx : Q ≠ x) (hy : Q ≠ y) (hQ : w0.heap.size ≤ Q) (i : Nat) (v : Value) : RdM w0 (w.setCell ⟨Q, i, none⟩ v) x y s := by
  obtain ⟨rv, h1, h2⟩ := h.rest
  exact ⟨⟨rv, h1.other (Ne.symm hx) _ _, h2⟩, h.short.other (Ne.symm hy) _ _, h.old.setCell (p := ⟨Q, i, none⟩) hQ _, h.hx, h.hy, h.hne, h.few⟩
theorem _root_.Go.Proofs.Ytpommjmlenfknaa.QF.On.setz {x y Q : Nat} {w w' : World} (h : On x y w w') (hQ : w.heap.size ≤ Q) (i : Nat) (v : Value) : On x y w (w'.setCell ⟨Q, i, none⟩ v) :=
  ⟨h.os, h.tape, h.output, by simpa using h.size, fun k hk hx hy => (Below.heap_setCell _ _ _ _ (show k ≠ Q by omega)).trans (h.block k hk hx hy)⟩
/-- Bytes of an old world in this one. -/
theorem _root_.Go.Proofs.Ytpommjmlenfknaa.QG.RowR.keep_old {w0 w : World} {x y : Nat} {s : St} {v : Value} {l : By} (h : RowR TB w0 (fun _ => True) v l) (hm : RdM w0 w x y s) : RowR TB w (fun _ => True) v l := h.keep hm.old
/-- The reader as a value. -/
abbrev NX (x y : Nat) : Value := .func (.func 24) #[] #[.pointer (some ⟨x, 0, none⟩), .pointer (some ⟨y, 0, none⟩)]
theorem nx_few (k : Nat) (s : St) (h : s.rest.length ≤ 1000000000) : (nx k s).2.rest.length ≤ 1000000000 := by
  unfold nx
  split
  · exact h
  · show (s.rest.drop k).length ≤ _
    rw [List.length_drop]; omega
theorem next_z (w0 w : World) (x y : Nat) (s : St) (k : Nat) (kz : Int) (hkz : kz = (k : Int)) (h : RdM w0 w x y s) (hk : k ≤ 1000000) :
    Calls Try.prog 24 #[.int .i64 kz, .pointer (some ⟨x, 0, none⟩), .pointer (some ⟨y, 0, none⟩)] w fun e w' => ∃ v, e = .returned v ∧ RowR TB w0 (fun _ => True) v (nx k s).1 ∧ RdM w0 w' x y (nx k s).2 ∧ On x y w w' := by
  subst hkz
  exact next_c w0 w x y s k h hk
set_option maxHeartbeats 4000000 in
theorem int_c (w0 w : World) (x y z : Nat) (s : St) (h : RdM w0 w x y s) (hz : Bk w z #[NX x y] 77) :
    Calls Try.prog 39 #[.pointer (some ⟨z, 0, none⟩)] w fun e w' => e = .returned (.int .i64 (numP 8 s).1) ∧ RdM w0 w' x y (numP 8 s).2 ∧ On x y w w' := by
  have z0 := hz.cell 0 _ rfl
  have HN := Lib.hid (next_z w0 w x y s 8 8 rfl h (by decide))
  have hlen := nx_len 8 s
  have HL := Lib.hid hlen
  show Calls _ _ _ _ fun e w' => e = .returned (.int .i64 (num (nx 8 s).1)) ∧ RdM w0 w' x y (nx 8 s).2 ∧ On x y w w'
  clear h hz hlen
  generalize nx 8 s = r at HN HL ⊢
  go_enter Try.func39, Try.ntmps39
  go_wp2_with fail
  refine HN.out.mono ?_
  rintro e w1 ⟨v, rfl, hr, hm, ho⟩
  have HM := Lib.hid hm
  have HO := Lib.hid ho
  have HNum := Lib.hid (number_c v r.1 w1 _ (RowR.keep_old hr hm) HL.out)
  clear hr hm ho z0
  go_wp2_with fail
  refine HNum.out.mono ?_
  rintro e w2 ⟨rfl, rfl⟩
  go_wp2_with fail
  go_ret
  exact ⟨rfl, HM.out, HO.out⟩
set_option maxHeartbeats 8000000 in
theorem text_c (w0 w : World) (x y z : Nat) (s : St) (h : RdM w0 w x y s) (hz : Bk w z #[NX x y] 77) (hzx : z ≠ x) (hzy : z ≠ y) :
    Calls Try.prog 41 #[.pointer (some ⟨z, 0, none⟩)] w fun e w' => e = .returned (.string ⟨(textP s).1.toArray⟩) ∧ RdM w0 w' x y (textP s).2 ∧ On x y w w' := by
  have z0 := hz.cell 0 _ rfl
  have HZ := Lib.hid hz
  have HN := Lib.hid (next_z w0 w.drew x y s 1 1 rfl (h.keep (bdr w)) (by decide))
  have hlen := nx_len 1 s
  have HL := Lib.hid hlen
  obtain ⟨k, hk⟩ : ∃ k : Nat, num (nx 1 s).1 = (k : Int) := ⟨le (nx 1 s).1, num_le (by omega)⟩
  have hkb : k ≤ 255 := by
    have h1 := le_lt (nx 1 s).1
    have h2 : 256 ^ (nx 1 s).1.length ≤ 256 ^ 1 := Nat.pow_le_pow_right (by decide) hlen
    have h3 := num_le (b := (nx 1 s).1) (by omega)
    omega
  have ht : textP s = nx k (nx 1 s).2 := by
    show nx (num (nx 1 s).1).toNat (nx 1 s).2 = _
    rw [hk]; rfl
  rw [ht]
  have HK := Lib.hid hk
  clear h hz hlen ht hk
  generalize nx 1 s = r at HN HL HK ⊢
  have zd : w.drew.cell? ⟨z, 0, none⟩ = some (NX x y) := z0
  go_enter Try.func41, Try.ntmps41
  go_wp2_with fail
  go_region_with (first
      | (go_at_call 24; with_reducible refine HN.out.mono ?_; rintro e w1 ⟨v, rfl, hr, hm, ho⟩; clear HN; have HM := Lib.hid hm; have HO := Lib.hid ho; have hz1 := Lib.hid (ho.bk (HZ.out.drew) hzx hzy); have zc1 := hz1.out.cell 0 _ rfl; have HNum := Lib.hid (number_c v r.1 w1 _ (RowR.keep_old hr hm) (by have := HL.out; omega)); rw [HK.out] at HNum; have HN2 := Lib.hid (next_c w0 w1 x y r.2 k hm (by omega)); clear hr hm ho)
      | (go_at_call 37; refine HNum.out.mono ?_; rintro e w2 ⟨rfl, rfl⟩; clear HNum)
      | (go_at_call 24; with_reducible refine HN2.out.mono ?_; rintro e w3 ⟨v3, rfl, hr3, hm3, ho3⟩; have HM3 := Lib.hid hm3; have HO3 := Lib.hid ho3; have hcv := conv_row (RowR.keep_old hr3 hm3); clear hr3 hm3 ho3))
  all_goals (go_wp2_with fail; go_ret; exact ⟨rfl, HM3.out, (On.of (bdr w)).trans (HO.out.trans HO3.out)⟩)
set_option maxHeartbeats 8000000 in
theorem ins_c (w0 w : World) (x y z : Nat) (s : St) (h : RdM w0 w x y s) (hz : Bk w z #[NX x y] 77) (hzx : z ≠ x) (hzy : z ≠ y) (hxl : x < w.heap.size) (hyl : y < w.heap.size) :
    Calls Try.prog 65 #[.pointer (some ⟨z, 0, none⟩)] w fun e w' => e = .returned (.agg #[.int .i64 (insP s).1.op, .int .i64 (insP s).1.a, .int .i64 (insP s).1.b]) ∧ RdM w0 w' x y (insP s).2 ∧ On x y w w' := by
  obtain ⟨Q, hQ⟩ : ∃ Q, Hid (w.heap.size = Q) := ⟨_, Lib.hid rfl⟩
  have hQx : Q ≠ x := by rw [← hQ.out]; omega
  have hQy : Q ≠ y := by rw [← hQ.out]; omega
  have hzl := hz.lt
  have hzQ : z ≠ Q := by rw [← hQ.out]; omega
  have hKQ := new_at w #[.int .i64 0, .int .i64 0, .int .i64 0] 45 hQ.out
  have hoA : On x y w (w.alloc (.cells #[.int .i64 0, .int .i64 0, .int .i64 0] 45)) := On.of (balloc w _)
  have hmA := h.keep (balloc w (.cells #[.int .i64 0, .int .i64 0, .int .i64 0] 45))
  have hzA := hz.alloc (.cells #[.int .i64 0, .int .i64 0, .int .i64 0] 45)
  have hsz0 : w0.heap.size ≤ w.heap.size := h.old.size
  show Calls _ _ _ _ fun e w' => e = .returned (.agg #[.int .i64 (num (nx 1 s).1), .int .i64 (num (nx 2 (nx 1 s).2).1), .int .i64 (num (nx 2 (nx 2 (nx 1 s).2).2).1)]) ∧ RdM w0 w' x y (nx 2 (nx 2 (nx 1 s).2).2).2 ∧ On x y w w'
  have l1 := nx_len 1 s
  have l2 := nx_len 2 (nx 1 s).2
  have l3 := nx_len 2 (nx 2 (nx 1 s).2).2
  obtain ⟨r1, hr1⟩ : ∃ r1, Hid (nx 1 s = r1) := ⟨_, Lib.hid rfl⟩
  rw [hr1.out] at l1 l2 l3 ⊢
  obtain ⟨r2, hr2⟩ : ∃ r2, Hid (nx 2 r1.2 = r2) := ⟨_, Lib.hid rfl⟩
  rw [hr2.out] at l2 l3 ⊢
  obtain ⟨r3, hr3⟩ : ∃ r3, Hid (nx 2 r2.2 = r3) := ⟨_, Lib.hid rfl⟩
  rw [hr3.out] at l3 ⊢
  go_enter Try.func65, Try.ntmps65
  go_upto_region 1 with fail
  rw [hQ.out]
  generalize w.alloc _ = W at hKQ hoA hmA hzA ⊢
  have HN := next_z w0 W.drew x y s 1 1 rfl (hmA.keep (bdr W)) (by decide)
  rw [hr1.out] at HN
  replace HN := Lib.hid HN
  have HL := Lib.hid (And.intro l1 (And.intro l2 l3))
  have z0 := hzA.cell 0 _ rfl
  have zd : W.drew.cell? ⟨z, 0, none⟩ = some (NX x y) := z0
  have HZ := Lib.hid hzA
  have HQ := Lib.hid hKQ
  have HOA := Lib.hid hoA
  clear h hz hKQ hoA hmA hzA hzl l1 l2 l3
  go_region_held3 (fun w' => w'.cell? ⟨z, 0, none⟩ = some (NX x y)) (first | with_reducible exact hz1.out.cell 0 _ rfl | with_reducible exact hz2.out.cell 0 _ rfl | with_reducible exact hz3.out.cell 0 _ rfl | go_keep)
    (first
      | (go_at_call 24; with_reducible refine HN.out.mono ?_; rintro e w1 ⟨v1, rfl, hw1, hm1, ho1⟩; clear HN; have HO1 := Lib.hid ho1; have hz1 := Lib.hid (ho1.bk (HZ.out.drew) hzx hzy); have hq1 := Lib.hid (ho1.bk (HQ.out.drew) hQx hQy); have HW1 := Lib.hid hw1; have HN2 := next_z w0 w1 x y r1.2 2 2 rfl hm1 (by decide); rw [hr2.out] at HN2; replace HN2 := Lib.hid HN2; clear hw1 hm1 ho1)
      | (go_at_call 24; with_reducible refine HN2.out.mono ?_; rintro e w2 ⟨v2, rfl, hw2, hm2, ho2⟩; clear HN2; have HO2 := Lib.hid ho2; have hz2 := Lib.hid (ho2.bk hz1.out hzx hzy); have hq2 := Lib.hid (ho2.bk hq1.out hQx hQy); have HW2 := Lib.hid hw2; have HN3 := next_z w0 w2 x y r2.2 2 2 rfl hm2 (by decide); rw [hr3.out] at HN3; replace HN3 := Lib.hid HN3; clear hw2 hm2 ho2)
      | (go_at_call 24; with_reducible refine HN3.out.mono ?_; rintro e w3 ⟨v3, rfl, hw3, hm3, ho3⟩; clear HN3; have HO3 := Lib.hid ho3; have HM3 := Lib.hid hm3; have hz3 := Lib.hid (ho3.bk hz2.out hzx hzy); have hq3 := Lib.hid (ho3.bk hq2.out hQx hQy); have HA1 := Lib.hid (number_c v1 r1.1 w3 _ (RowR.keep_old HW1.out hm3) (by have := HL.out.1; omega)); have HA2 := Lib.hid (number_c v2 r2.1 w3 _ (RowR.keep_old HW2.out hm3) (by have := HL.out.2.1; omega)); have HA3 := Lib.hid (number_c v3 r3.1 w3 _ (RowR.keep_old hw3 hm3) (by have := HL.out.2.2; omega)); clear hw3 hm3 ho3))
  go_wp2_with fail
  refine HA1.out.mono ?_
  rintro e w4 ⟨rfl, he4⟩
  obtain rfl := he4.symm
  go_wp2_with fail
  refine HA2.out.mono ?_
  rintro e w4 ⟨rfl, he4⟩
  obtain rfl := he4.symm
  go_wp2_with fail
  refine HA3.out.mono ?_
  rintro e w4 ⟨rfl, he4⟩
  obtain rfl := he4.symm
  have f0 := hq3.out.free 0
  have f1 := hq3.out.free 1
  have f2 := hq3.out.free 2
  have c0 := hq3.out.cell 0 _ rfl
  have c1 := hq3.out.cell 1 _ rfl
  have c2 := hq3.out.cell 2 _ rfl
  have lq := hq3.out.lt
  go_wp2_with fail
  have K4 := ((hq3.out.set 0 (.int .i64 (num r1.1))).set 1 (.int .i64 (num r2.1))).set 2 (.int .i64 (num r3.1))
  have g0 := K4.cell 0 _ rfl
  have g1 := K4.cell 1 _ rfl
  have g2 := K4.cell 2 _ rfl
  have hwQ : w.heap.size ≤ Q := by rw [hQ.out]; exact Nat.le_refl _
  have hwo : w0.heap.size ≤ Q := by have := HM3.out.old.size; have := hQ.out; exact Nat.le_trans hsz0 hwQ
  exact bodyPost_ret (v := .agg #[.int .i64 (num r1.1), .int .i64 (num r2.1), .int .i64 (num r3.1)]) (by simp [results, Try.results65, go_sem, g0, g1, g2]) rfl ⟨rfl, ((HM3.out.set hQx hQy hwo 0 _).set hQx hQy hwo 1 _).set hQx hQy hwo 2 _, (((HOA.out.trans ((On.of (bdr W)).trans (HO1.out.trans (HO2.out.trans HO3.out)))).setz hwQ 0 _).setz hwQ 1 _).setz hwQ 2 _⟩
end Go.Proofs.Ytpommjmlenfknaa.QG
