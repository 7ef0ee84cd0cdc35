/- VerifyMore: the walk. -/
import Derived.Test.YtkhdkepjhifffaaVX
import Derived.Test.YtkhdkepjhifffaaVW
import Derived.Test.YtkhdkepjhifffaaPE
import Derived.Test.YtkhdkepjhifffaaWD
import Derived.Test.YtkhdkepjhifffaaWC
namespace Go.Proofs.Ytkhdkepjhifffaa.verifyMore
open Go.RowKit Go.Proofs.Ytkhdkepjhifffaa.RG Go.Proofs.Ytkhdkepjhifffaa.KA Go.Proofs.Ytkhdkepjhifffaa.KB Go.Proofs.Ytkhdkepjhifffaa.KC Go.Proofs.Ytkhdkepjhifffaa.KH Go.Proofs.Ytkhdkepjhifffaa.KI Go.Proofs.Ytkhdkepjhifffaa.PE Go.Proofs.Ytkhdkepjhifffaa.VA Go.Proofs.Ytkhdkepjhifffaa.VO Go.Proofs.Ytkhdkepjhifffaa.VP Go.Proofs.Ytkhdkepjhifffaa.VX
set_option linter.unusedVariables false
set_option maxRecDepth 100000
set_option maxRecDepth 100000

open Go.Proofs.Ytkhdkepjhifffaa.WA Go.Proofs.Ytkhdkepjhifffaa.WC
open Go.Proofs.Ytkhdkepjhifffaa.WD
theorem ext60 (s : By) : (ByteArray.mk s.toArray).extract 0 60 = ⟨(s.take 60).toArray⟩ := by
  apply ByteArray.ext
  simp
set_option maxHeartbeats 32000000 in
theorem long (w : World) (c : Cd) (fv iv tv : Value) (h : HasC w (fun _ => True) c fv iv tv) (hl : c.funs.length ≤ maxLen ∧ c.ints.length ≤ maxLen ∧ c.texts.length ≤ maxLen ∧ ∀ f, f ∈ c.funs → f.code.length ≤ maxLen) (n : Int) (s : By) (i60 : (s.length : Int) > 60) :
    Calls Try.prog 9 #[.agg #[fv, iv, tv, .int .i64 c.lets], .int .i64 n, .string ⟨s.toArray⟩] w fun e w' => e = .returned (.bool true) ∧ Below w.heap.size w w' := by
  obtain ⟨fo, fc, rfl, hfc⟩ := h.funs.val
  obtain ⟨io, ic, rfl, hic⟩ := h.ints.val
  obtain ⟨to_, tc, rfl, htc⟩ := h.texts.val
  obtain ⟨LT, hLT⟩ : ∃ x, Hid (c.lets = x) := ⟨_, Lib.hid rfl⟩
  obtain ⟨X, hX⟩ : ∃ X, Hid (w.heap.size = X) := ⟨_, Lib.hid rfl⟩
  have HCUT := Lib.hid (fun w' (hb : Below w.heap.size w w') => Go.Proofs.Ytkhdkepjhifffaa.WB.cutg_c c _ _ _ w' _ (h.keep hb) hl)
  have hs := few c
  obtain ⟨n1, hn1⟩ : ∃ x, Hid (c.funs.length = x) := ⟨_, Lib.hid rfl⟩
  obtain ⟨n2, hn2⟩ : ∃ x, Hid (c.ints.length = x) := ⟨_, Lib.hid rfl⟩
  obtain ⟨n3, hn3⟩ : ∃ x, Hid (c.texts.length = x) := ⟨_, Lib.hid rfl⟩
  rw [hn1.out, hn2.out, hn3.out] at HCUT ⊢
  unfold Go.Proofs.Ytkhdkepjhifffaa.WB.CutG at HCUT
  rw [hLT.out] at HCUT ⊢
  have HK := Lib.hid (new_at w #[.slice fo n1 fc, .slice io n2 ic, .slice to_ n3 tc, .int .i64 LT] 27 hX.out)
  have HX := Lib.hid (balloc w (.cells #[.slice fo n1 fc, .slice io n2 ic, .slice to_ n3 tc, .int .i64 LT] 27))
  clear h hl hfc hic htc hn1 hn2 hn3
  go_enter Try.func9, Try.ntmps9
  go_wp2_with fail
  refine (HCUT.out _ HX.out).mono ?_
  rintro e w2 ⟨f2, i2, t2, GS, rfl, hg2, hb2⟩
  have ho2 := hg2.o
  clear HCUT
  obtain ⟨fa, fc2, ef, _⟩ := ho2.funs.val
  obtain ⟨ia, ic2, ei, _⟩ := ho2.ints.val
  obtain ⟨ta, tc2, et, _⟩ := ho2.texts.val
  obtain ⟨NF, hNF⟩ : ∃ x, (cutCd c).funs.length = x := ⟨_, rfl⟩
  obtain ⟨NI, hNI⟩ : ∃ x, (cutCd c).ints.length = x := ⟨_, rfl⟩
  obtain ⟨NT, hNT⟩ : ∃ x, (cutCd c).texts.length = x := ⟨_, rfl⟩
  rw [hNF] at ef
  rw [hNI] at ei
  rw [hNT] at et
  subst ef ei et
  have HN := Lib.hid (And.intro hNF (And.intro hNI hNT))
  clear hNF hNI hNT
  have hk2 := HK.out.keep hb2
  have hX1 : X < (w.alloc (.cells #[.slice fo n1 fc, .slice io n2 ic, .slice to_ n3 tc, .int .i64 LT] 27)).heap.size := by simp [hX.out]
  have HKA := Lib.hid (put4 (a' := .slice fa NF fc2) (b' := .slice ia NI ic2) (c' := .slice ta NT tc2) (d' := .int .i64 LT) hk2)
  have HGA := Lib.hid ((((hg2.other hX1 0 (.slice fa NF fc2)).other hX1 1 (.slice ia NI ic2)).other hX1 2 (.slice ta NT tc2)).other hX1 3 (.int .i64 LT))
  have hxx := bnext HX.out hb2
  have HXA := Lib.hid (show Below w.heap.size w ((((w2.setCell ⟨X, 0, none⟩ (.slice fa NF fc2)).setCell ⟨X, 1, none⟩ (.slice ia NI ic2)).setCell ⟨X, 2, none⟩ (.slice ta NT tc2)).setCell ⟨X, 3, none⟩ (.int .i64 LT)) from (((hxx.setCell (p := ⟨X, 0, none⟩) (by have := hX.out; show w.heap.size ≤ X; omega) _).setCell (p := ⟨X, 1, none⟩) (by have := hX.out; show w.heap.size ≤ X; omega) _).setCell (p := ⟨X, 2, none⟩) (by have := hX.out; show w.heap.size ≤ X; omega) _).setCell (p := ⟨X, 3, none⟩) (by have := hX.out; show w.heap.size ≤ X; omega) _)
  have c0 := hk2.cell 0 _ rfl
  have c1 := hk2.cell 1 _ rfl
  have c2 := hk2.cell 2 _ rfl
  have c3 := hk2.cell 3 _ rfl
  have f0 := hk2.free 0
  have f1 := hk2.free 1
  have f2' := hk2.free 2
  have f3 := hk2.free 3
  have lX := hk2.lt
  clear hk2 hX1 hxx ho2 hg2 hb2
  rw [hX.out]
  go_wp2_with fail
  have HS := Lib.hid hs
  clear hs c0 c1 c2 c3 f0 f1 f2' f3 lX
  generalize hWA : World.setCell _ _ _ = WA at HKA HGA HXA ⊢
  clear hWA
  have hlt0 : (cutCd c).lets = LT := hLT.out
  rw [ext60 s]
  obtain ⟨s1, hs1⟩ : ∃ s1, s.take 60 = s1 := ⟨_, rfl⟩
  have HS1 := Lib.hid (show s1.length ≤ 60 from by rw [← hs1, List.length_take]; omega)
  rw [hs1]
  clear hs1 i60
  obtain ⟨r, hr⟩ : ∃ r, codeN (cutCd c) = r := ⟨_, rfl⟩
  have HRN := Lib.hid hr
  have HP := pcode_n (cutCd c) _ _ _ WA _ HGA.out.o.has HS.out
  rw [hlt0, hr] at HP
  have HPC := Lib.hid HP
  have hlb := few_code c
  have HFC := Lib.hid hlb
  clear HP hr hlb
  refine HPC.out.mono ?_
  rintro e w3 ⟨rfl, hb3⟩
  have HX3 := Lib.hid (bnext HXA.out hb3)
  have HK3 := Lib.hid (HKA.out.keep hb3)
  obtain ⟨B, hB⟩ : ∃ B, Hid (X + 1 = B) := ⟨_, Lib.hid rfl⟩
  have hg3 := HGA.out.keep hb3
  rw [World.size_alloc, hX.out, hB.out] at hg3
  have HG3 := Lib.hid hg3
  have HXB := Lib.hid (show X < B from by have := hB.out; omega)
  have HWB := Lib.hid (show w.heap.size ≤ X ∧ w.heap.size ≤ B from by have := hX.out; have := hB.out; omega)
  clear hb3 hg3 HPC HGA HKA HXA
  have hcs : r ≠ 0 ∨ (r = 0 ∧ n < -4611686018427387904) ∨ (r = 0 ∧ -4611686018427387904 ≤ n ∧ 4611686018427387903 < n) ∨ (r = 0 ∧ -4611686018427387904 ≤ n ∧ n ≤ 4611686018427387903 ∧ 50 < LT) ∨ (r = 0 ∧ -4611686018427387904 ≤ n ∧ n ≤ 4611686018427387903 ∧ LT ≤ 50) := by omega
  have k0 := HK3.out.cell 0 _ rfl
  have k1 := HK3.out.cell 1 _ rfl
  have k2 := HK3.out.cell 2 _ rfl
  have k3 := HK3.out.cell 3 _ rfl
  rcases hcs with q1 | ⟨q1, q2⟩ | ⟨q1, q2, q3⟩ | ⟨q1, q2, q3, q4⟩ | ⟨q1, q2, q3, q4⟩
  · have t1 : (r != 0) = true := by rw [bne_iff_ne]; exact q1
    clear q1
    go_wp2_with (go_at_call 19; refine (Go.Proofs.Ytkhdkepjhifffaa.VW.lives_c _).mono ?_; rintro e w9 ⟨rfl, hb9⟩; have HX9 := Lib.hid (bnext HX3.out hb9); clear hb9)
    go_ret
    exact ⟨rfl, HX9.out⟩
  · have t1 : (r != 0) = false := by rw [q1]; rfl
    clear q1
    go_wp2_with (go_at_call 19; refine (Go.Proofs.Ytkhdkepjhifffaa.VW.lives_c _).mono ?_; rintro e w9 ⟨rfl, hb9⟩; have HX9 := Lib.hid (bnext HX3.out hb9); clear hb9)
    go_ret
    exact ⟨rfl, HX9.out⟩
  · have t1 : (r != 0) = false := by rw [q1]; rfl
    have t2 : ¬ n < -4611686018427387904 := by omega
    have t3 : n > 4611686018427387903 := by omega
    clear q1
    go_wp2_with (go_at_call 19; refine (Go.Proofs.Ytkhdkepjhifffaa.VW.lives_c _).mono ?_; rintro e w9 ⟨rfl, hb9⟩; have HX9 := Lib.hid (bnext HX3.out hb9); clear hb9)
    go_ret
    exact ⟨rfl, HX9.out⟩
  · have t1 : (r != 0) = false := by rw [q1]; rfl
    have t2 : ¬ n < -4611686018427387904 := by omega
    have t3 : ¬ n > 4611686018427387903 := by omega
    have t4 : LT > 50 := by omega
    clear q1
    go_wp2_with (go_at_call 19; refine (Go.Proofs.Ytkhdkepjhifffaa.VW.lives_c _).mono ?_; rintro e w9 ⟨rfl, hb9⟩; have HX9 := Lib.hid (bnext HX3.out hb9); clear hb9)
    go_ret
    exact ⟨rfl, HX9.out⟩
  · have t1 : (r != 0) = false := by rw [q1]; rfl
    have t2 : ¬ n < -4611686018427387904 := by omega
    have t3 : ¬ n > 4611686018427387903 := by omega
    have t4 : ¬ LT > 50 := by omega
    subst q1
    have HCM := Lib.hid (code_more (s := s1) HRN.out (six c).1 (six c).2.1 (six c).2.2 (by rw [hlt0]; exact q4) q2 q3 HS1.out)
    have HLT0 := Lib.hid (show 0 ≤ LT from by have := (codeN_zero HRN.out).1; rw [← hlt0]; unfold mayB headOk at this; simp only [Bool.and_eq_true, decide_eq_true_eq] at this; omega)
    have HIO := Lib.hid (fun b e => (HG3.out.ints.own (b := b) e).1)
    have HTO := Lib.hid (fun b e => (HG3.out.texts.own (b := b) e).1)
    have HFO := Lib.hid (fun b e => (HG3.out.funs.own (b := b) e).1)
    have HB3 := Lib.hid (show B ≤ w3.heap.size from by have := HK3.out.lt; have := hB.out; omega)
    have HIA := Lib.hid (HG3.out.ints.keep (balloc w3 (.cells #[.int .i64 n] 3)))
    have HFA := Lib.hid (HG3.out.funs.keep (balloc w3 (.cells #[.int .i64 n] 3)))
    have HTA := Lib.hid (HG3.out.texts.keep (balloc w3 (.cells #[.int .i64 n] 3)))
    have HRI := Lib.hid (show RowR TI (w3.alloc (.cells #[.int .i64 n] 3)) (fun b => False ∧ (Value.slice ia NI ic2).ownBlock ≠ some b) (.slice (some ⟨w3.heap.size, 0, none⟩) 1 1) [n] from rowR_new (q := []) #[.int .i64 n] 3 rfl rfl)
    have HLI := Lib.hid (show (cutCd c).ints.length + [n].length ≤ 100000000000 from by have := (six c).2.1; simp; omega)
    have HLTX := Lib.hid (show (cutCd c).texts.length + [s1].length ≤ 100000000000 from by have := (six c).2.2; simp; omega)
    have HLF := Lib.hid (show (GS.map Prod.fst).length + [nb].length ≤ 100000000000 from by rw [HG3.out.fst]; have := (six c).1; simp; omega)
    have HFST := Lib.hid HG3.out.fst
    have HBI := Lib.hid (show B ≤ (w3.alloc (.cells #[.int .i64 n] 3)).heap.size from by have := HB3.out; simp; omega)
    have HKA := Lib.hid (HK3.out.alloc (.cells #[.int .i64 n] 3))
    have HXA := Lib.hid (bnext HX3.out (balloc w3 (.cells #[.int .i64 n] 3)))
    have lXB := HXB.out
    clear HG3
    go_wp2_with (first
      | (at_builtin
         go_loud (refine wpList_row TI (w3.alloc (.cells #[.int .i64 n] 3)) rfl (.tmp 32) (.tmp 34) rfl B (fun _ => False) (.slice ia NI ic2) (.slice (some ⟨w3.heap.size, 0, none⟩) 1 1) (cutCd c).ints [n] rfl rfl HIA.out HRI.out HLI.out HBI.out ?_)
         intro ao1 m1 cap1 w4 hO4 hn4 hg4 ha4
         have HI4 := Lib.hid (hO4.other (fun b h => h.elim) HXB.out 1 (.slice ao1 m1 cap1))
         have HF4 := Lib.hid ((own_typ HFA.out hg4 (blk_typ HIA.out (fun e => e ≠ TG.e ∧ e ≠ TN.e) (by decide))).other (fun b h => by have h : B ≤ b := h; have := HXB.out; omega) HXB.out 1 (.slice ao1 m1 cap1))
         have HT4 := Lib.hid ((flat_typ HTA.out hg4 (blk_typ HIA.out (fun e => e ≠ TT.e) (by decide))).other (fun b h => h.elim) HXB.out 1 (.slice ao1 m1 cap1))
         have hk4 := HKA.out.grown hg4 (fun e => by have := HIO.out X e; have := HXB.out; omega)
         have HK4 := Lib.hid (hk4.set 1 (.slice ao1 m1 cap1))
         have HX4 := Lib.hid (((HXA.out.trans (bgrown hg4 (fun b e => Nat.le_trans HWB.out.2 (HIO.out b e)) (Nat.le_trans HWB.out.2 HBI.out))).setCell (p := ⟨X, 1, none⟩) HWB.out.1 (.slice ao1 m1 cap1)))
         have HB4 := Lib.hid (show B ≤ w4.heap.size from Nat.le_trans HBI.out hg4.size)
         have HSZ4 := Lib.hid (show (w4.setCell ⟨X, 1, none⟩ (.slice ao1 m1 cap1)).heap.size = w4.heap.size from by simp)
         have f4 := hk4.free 1
         have r4 := hk4.cell 1 _ rfl
         have r40 := hk4.cell 0 _ rfl
         have r42 := hk4.cell 2 _ rfl
         have r43 := hk4.cell 3 _ rfl
         have l4 := hk4.lt
         obtain rfl : m1 = NI + 1 := by rw [hn4, HN.out.2.1]; rfl
         have HIB := Lib.hid (HI4.out.keep (balloc (w4.setCell ⟨X, 1, none⟩ (.slice ao1 (NI + 1) cap1)) (.cells #[.string ⟨s1.toArray⟩] 9)))
         have HFB := Lib.hid (HF4.out.keep (balloc (w4.setCell ⟨X, 1, none⟩ (.slice ao1 (NI + 1) cap1)) (.cells #[.string ⟨s1.toArray⟩] 9)))
         have HTB := Lib.hid (HT4.out.keep (balloc (w4.setCell ⟨X, 1, none⟩ (.slice ao1 (NI + 1) cap1)) (.cells #[.string ⟨s1.toArray⟩] 9)))
         have HRT := Lib.hid (show RowR TT ((w4.setCell ⟨X, 1, none⟩ (.slice ao1 (NI + 1) cap1)).alloc (.cells #[.string ⟨s1.toArray⟩] 9)) (fun b => False ∧ (Value.slice ta NT tc2).ownBlock ≠ some b) (.slice (some ⟨w4.heap.size, 0, none⟩) 1 1) [s1] from by
           have := rowR_new (R := TT) (w := w4.setCell ⟨X, 1, none⟩ (.slice ao1 (NI + 1) cap1)) (S := fun b => False ∧ (Value.slice ta NT tc2).ownBlock ≠ some b) (p := s1) (q := []) #[.string ⟨s1.toArray⟩] 9 rfl rfl
           rw [HSZ4.out] at this
           exact this)
         have HBB := Lib.hid (show B ≤ ((w4.setCell ⟨X, 1, none⟩ (.slice ao1 (NI + 1) cap1)).alloc (.cells #[.string ⟨s1.toArray⟩] 9)).heap.size from by have := HB4.out; simp; omega)
         have HKB := Lib.hid (HK4.out.alloc (.cells #[.string ⟨s1.toArray⟩] 9))
         have HXB5 := Lib.hid (bnext HX4.out (balloc _ (.cells #[.string ⟨s1.toArray⟩] 9)))
         clear hO4 hn4 hg4 ha4 hk4)
      | (at_builtin
         go_loud (refine wpList_row TT ((w4.setCell ⟨X, 1, none⟩ (.slice ao1 (NI + 1) cap1)).alloc (.cells #[.string ⟨s1.toArray⟩] 9)) rfl (.tmp 38) (.tmp 40) rfl B (fun _ => False) (.slice ta NT tc2) (.slice (some ⟨w4.heap.size, 0, none⟩) 1 1) (cutCd c).texts [s1] rfl rfl HTB.out HRT.out HLTX.out HBB.out ?_)
         intro ao2 m2 cap2 w5 hO5 hn5 hg5 ha5
         have HT5 := Lib.hid (hO5.other (fun b h => h.elim) HXB.out 2 (.slice ao2 m2 cap2))
         have HF5 := Lib.hid ((own_typ HFB.out hg5 (blk_typ HTB.out (fun e => e ≠ TG.e ∧ e ≠ TN.e) (by decide))).other (fun b h => by have h : B ≤ b := h; have := HXB.out; omega) HXB.out 2 (.slice ao2 m2 cap2))
         have HI5 := Lib.hid ((flat_typ HIB.out hg5 (blk_typ HTB.out (fun e => e ≠ TI.e) (by decide))).other (fun b h => h.elim) HXB.out 2 (.slice ao2 m2 cap2))
         have hk5 := HKB.out.grown hg5 (fun e => by have := HTO.out X e; have := HXB.out; omega)
         have HK5 := Lib.hid (hk5.set 2 (.slice ao2 m2 cap2))
         have HX5 := Lib.hid (((HXB5.out.trans (bgrown hg5 (fun b e => Nat.le_trans HWB.out.2 (HTO.out b e)) (Nat.le_trans HWB.out.2 HBB.out))).setCell (p := ⟨X, 2, none⟩) HWB.out.1 (.slice ao2 m2 cap2)))
         have HB5 := Lib.hid (show B ≤ w5.heap.size from Nat.le_trans HBB.out hg5.size)
         have f5 := hk5.free 2
         have f53 := hk5.free 3
         have r5 := hk5.cell 2 _ rfl
         have r50 := hk5.cell 0 _ rfl
         have r51 := hk5.cell 1 _ rfl
         have r53 := hk5.cell 3 _ rfl
         have l5 := hk5.lt
         obtain rfl : m2 = NT + 1 := by rw [hn5, HN.out.2.2]; rfl
         clear hO5 hn5 hg5 ha5 hk5 f4 r4 r40 r42 r43 l4
         have HT6 := Lib.hid (HT5.out.other (fun b h => h.elim) HXB.out 3 (.int .i64 (wrap64 (LT + 1))))
         have HI6 := Lib.hid (HI5.out.other (fun b h => h.elim) HXB.out 3 (.int .i64 (wrap64 (LT + 1))))
         have HF6 := Lib.hid (HF5.out.other (fun b h => by have h : B ≤ b := h; have := HXB.out; omega) HXB.out 3 (.int .i64 (wrap64 (LT + 1))))
         have HK6 := Lib.hid (HK5.out.set 3 (.int .i64 (wrap64 (LT + 1))))
         have HX6 := Lib.hid (HX5.out.setCell (p := ⟨X, 3, none⟩) HWB.out.1 (.int .i64 (wrap64 (LT + 1))))
         have HSZ6 := Lib.hid (show ((w5.setCell ⟨X, 2, none⟩ (.slice ao2 (NT + 1) cap2)).setCell ⟨X, 3, none⟩ (.int .i64 (wrap64 (LT + 1)))).heap.size = w5.heap.size from by simp)
         have HBL := Lib.hid (show Below ((w5.setCell ⟨X, 2, none⟩ (.slice ao2 (NT + 1) cap2)).setCell ⟨X, 3, none⟩ (.int .i64 (wrap64 (LT + 1)))).heap.size ((w5.setCell ⟨X, 2, none⟩ (.slice ao2 (NT + 1) cap2)).setCell ⟨X, 3, none⟩ (.int .i64 (wrap64 (LT + 1)))) ((((w5.setCell ⟨X, 2, none⟩ (.slice ao2 (NT + 1) cap2)).setCell ⟨X, 3, none⟩ (.int .i64 (wrap64 (LT + 1)))).alloc (.cells #[.int .i64 3, .int .i64 0, .int .i64 0, .int .i64 15, .int .i64 0, .int .i64 0] 45)).alloc (.cells #[.int .i64 0, .int .i64 1, .int .i64 1, .slice (some ⟨w5.heap.size, 0, none⟩) 2 2] 49)) from bnext (balloc ((w5.setCell ⟨X, 2, none⟩ (.slice ao2 (NT + 1) cap2)).setCell ⟨X, 3, none⟩ (.int .i64 (wrap64 (LT + 1)))) (.cells #[.int .i64 3, .int .i64 0, .int .i64 0, .int .i64 15, .int .i64 0, .int .i64 0] 45)) (balloc _ (.cells #[.int .i64 0, .int .i64 1, .int .i64 1, .slice (some ⟨w5.heap.size, 0, none⟩) 2 2] 49)))
         have HTC := Lib.hid (HT6.out.keep HBL.out)
         have HIC := Lib.hid (HI6.out.keep HBL.out)
         have HFC2 := Lib.hid (own_fst (HF6.out.keep HBL.out))
         have HRF := Lib.hid (show RowR TF ((((w5.setCell ⟨X, 2, none⟩ (.slice ao2 (NT + 1) cap2)).setCell ⟨X, 3, none⟩ (.int .i64 (wrap64 (LT + 1)))).alloc (.cells #[.int .i64 3, .int .i64 0, .int .i64 0, .int .i64 15, .int .i64 0, .int .i64 0] 45)).alloc (.cells #[.int .i64 0, .int .i64 1, .int .i64 1, .slice (some ⟨w5.heap.size, 0, none⟩) 2 2] 49)) (fun b => B ≤ b ∧ (Value.slice fa NF fc2).ownBlock ≠ some b) (.slice (some ⟨w5.heap.size + 1, 0, none⟩) 1 1) [nb] from by
           have := lit_row ((w5.setCell ⟨X, 2, none⟩ (.slice ao2 (NT + 1) cap2)).setCell ⟨X, 3, none⟩ (.int .i64 (wrap64 (LT + 1)))) (S := fun b => B ≤ b ∧ (Value.slice fa NF fc2).ownBlock ≠ some b) ⟨by have := HSZ6.out; have := HB5.out; omega, fun e => by have := (HF6.out.own e).2; omega⟩
           rw [HSZ6.out] at this
           exact this)
         have HBC := Lib.hid (show B ≤ ((((w5.setCell ⟨X, 2, none⟩ (.slice ao2 (NT + 1) cap2)).setCell ⟨X, 3, none⟩ (.int .i64 (wrap64 (LT + 1)))).alloc (.cells #[.int .i64 3, .int .i64 0, .int .i64 0, .int .i64 15, .int .i64 0, .int .i64 0] 45)).alloc (.cells #[.int .i64 0, .int .i64 1, .int .i64 1, .slice (some ⟨w5.heap.size, 0, none⟩) 2 2] 49)).heap.size from by have := HBL.out.size; have := HSZ6.out; have := HB5.out; omega)
         have HKC := Lib.hid (HK6.out.keep HBL.out)
         have HXC := Lib.hid (bnext HX6.out HBL.out))
      | (at_builtin
         go_loud (refine wpList_row TF ((((w5.setCell ⟨X, 2, none⟩ (.slice ao2 (NT + 1) cap2)).setCell ⟨X, 3, none⟩ (.int .i64 (wrap64 (LT + 1)))).alloc (.cells #[.int .i64 3, .int .i64 0, .int .i64 0, .int .i64 15, .int .i64 0, .int .i64 0] 45)).alloc (.cells #[.int .i64 0, .int .i64 1, .int .i64 1, .slice (some ⟨w5.heap.size, 0, none⟩) 2 2] 49)) rfl (.tmp 48) (.tmp 53) rfl B (fun b => B ≤ b) (.slice fa NF fc2) (.slice (some ⟨w5.heap.size + 1, 0, none⟩) 1 1) (GS.map Prod.fst) [nb] rfl rfl HFC2.out HRF.out HLF.out HBC.out ?_)
         intro ao3 m3 cap3 w7 hO7 hn7 hg7 ha7
         have HF7 := Lib.hid (hO7.other (fun b h => by have h : B ≤ b := h; have := HXB.out; omega) HXB.out 0 (.slice ao3 m3 cap3))
         have HI7 := Lib.hid ((flat_typ HIC.out hg7 (blk_typ HFC2.out (fun e => e ≠ TI.e) (by decide))).other (fun b h => h.elim) HXB.out 0 (.slice ao3 m3 cap3))
         have HT7 := Lib.hid ((flat_typ HTC.out hg7 (blk_typ HFC2.out (fun e => e ≠ TT.e) (by decide))).other (fun b h => h.elim) HXB.out 0 (.slice ao3 m3 cap3))
         have hk7 := HKC.out.grown hg7 (fun e => by have := HFO.out X e; have := HXB.out; omega)
         have HX7 := Lib.hid (((HXC.out.trans (bgrown hg7 (fun b e => Nat.le_trans HWB.out.2 (HFO.out b e)) (Nat.le_trans HWB.out.2 HBC.out))).setCell (p := ⟨X, 0, none⟩) HWB.out.1 (.slice ao3 m3 cap3)))
         have f7 := hk7.free 0
         have r7 := hk7.cell 0 _ rfl
         have r71 := hk7.cell 1 _ rfl
         have r72 := hk7.cell 2 _ rfl
         have r73 := hk7.cell 3 _ rfl
         have l7 := hk7.lt
         obtain rfl : m3 = NF + 1 := by rw [hn7, HFST.out, HN.out.1]; rfl
         clear hO7 hn7 hg7 ha7 hk7 f5 f53 r5 r50 r51 r53 l5))
    have hw : wrap64 (LT + 1) = LT + 1 := by
      have := HLT0.out
      unfold wrap64
      omega
    have hP := pcode_n (moreCd (cutCd c) n s1) (.slice ao3 (NF + 1) cap3) (.slice ao1 (NI + 1) cap1) (.slice ao2 (NT + 1) cap2) (w7.setCell ⟨X, 0, none⟩ (.slice ao3 (NF + 1) cap3)) (fun _ => True) ⟨by
      have := HF7.out.row.weak (S' := fun _ => True) (fun _ _ _ => trivial)
      rw [HFST.out] at this
      exact this, HI7.out.row.weak (fun _ _ _ => trivial), HT7.out.row.weak (fun _ _ _ => trivial)⟩ (few_more HFC.out (six c).1 (six c).2.1 (six c).2.2)
    rw [show (moreCd (cutCd c) n s1).lets = wrap64 (LT + 1) from by rw [hw, ← hlt0]; rfl, HCM.out] at hP
    refine hP.mono ?_
    clear hP
    rintro e w8 ⟨rfl, hb8⟩
    have HX8 := Lib.hid (bnext HX7.out hb8)
    clear hb8 hw f7 r7 r71 r72 r73 l7 HF7 HI7 HT7
    go_wp2_with (go_at_call 19; refine (Go.Proofs.Ytkhdkepjhifffaa.VW.lives_c _).mono ?_; rintro e w9 ⟨rfl, hb9⟩; have HX9 := Lib.hid (bnext HX8.out hb9); clear hb9)
    go_ret
    exact ⟨rfl, HX9.out⟩
set_option maxHeartbeats 32000000 in
theorem short (w : World) (c : Cd) (fv iv tv : Value) (h : HasC w (fun _ => True) c fv iv tv) (hl : c.funs.length ≤ maxLen ∧ c.ints.length ≤ maxLen ∧ c.texts.length ≤ maxLen ∧ ∀ f, f ∈ c.funs → f.code.length ≤ maxLen) (n : Int) (s : By) (i60 : ¬ (s.length : Int) > 60) :
    Calls Try.prog 9 #[.agg #[fv, iv, tv, .int .i64 c.lets], .int .i64 n, .string ⟨s.toArray⟩] w fun e w' => e = .returned (.bool true) ∧ Below w.heap.size w w' := by
  obtain ⟨fo, fc, rfl, hfc⟩ := h.funs.val
  obtain ⟨io, ic, rfl, hic⟩ := h.ints.val
  obtain ⟨to_, tc, rfl, htc⟩ := h.texts.val
  obtain ⟨LT, hLT⟩ : ∃ x, Hid (c.lets = x) := ⟨_, Lib.hid rfl⟩
  obtain ⟨X, hX⟩ : ∃ X, Hid (w.heap.size = X) := ⟨_, Lib.hid rfl⟩
  have HCUT := Lib.hid (fun w' (hb : Below w.heap.size w w') => Go.Proofs.Ytkhdkepjhifffaa.WB.cutg_c c _ _ _ w' _ (h.keep hb) hl)
  have hs := few c
  obtain ⟨n1, hn1⟩ : ∃ x, Hid (c.funs.length = x) := ⟨_, Lib.hid rfl⟩
  obtain ⟨n2, hn2⟩ : ∃ x, Hid (c.ints.length = x) := ⟨_, Lib.hid rfl⟩
  obtain ⟨n3, hn3⟩ : ∃ x, Hid (c.texts.length = x) := ⟨_, Lib.hid rfl⟩
  rw [hn1.out, hn2.out, hn3.out] at HCUT ⊢
  unfold Go.Proofs.Ytkhdkepjhifffaa.WB.CutG at HCUT
  rw [hLT.out] at HCUT ⊢
  have HK := Lib.hid (new_at w #[.slice fo n1 fc, .slice io n2 ic, .slice to_ n3 tc, .int .i64 LT] 27 hX.out)
  have HX := Lib.hid (balloc w (.cells #[.slice fo n1 fc, .slice io n2 ic, .slice to_ n3 tc, .int .i64 LT] 27))
  clear h hl hfc hic htc hn1 hn2 hn3
  go_enter Try.func9, Try.ntmps9
  go_wp2_with fail
  refine (HCUT.out _ HX.out).mono ?_
  rintro e w2 ⟨f2, i2, t2, GS, rfl, hg2, hb2⟩
  have ho2 := hg2.o
  clear HCUT
  obtain ⟨fa, fc2, ef, _⟩ := ho2.funs.val
  obtain ⟨ia, ic2, ei, _⟩ := ho2.ints.val
  obtain ⟨ta, tc2, et, _⟩ := ho2.texts.val
  obtain ⟨NF, hNF⟩ : ∃ x, (cutCd c).funs.length = x := ⟨_, rfl⟩
  obtain ⟨NI, hNI⟩ : ∃ x, (cutCd c).ints.length = x := ⟨_, rfl⟩
  obtain ⟨NT, hNT⟩ : ∃ x, (cutCd c).texts.length = x := ⟨_, rfl⟩
  rw [hNF] at ef
  rw [hNI] at ei
  rw [hNT] at et
  subst ef ei et
  have HN := Lib.hid (And.intro hNF (And.intro hNI hNT))
  clear hNF hNI hNT
  have hk2 := HK.out.keep hb2
  have hX1 : X < (w.alloc (.cells #[.slice fo n1 fc, .slice io n2 ic, .slice to_ n3 tc, .int .i64 LT] 27)).heap.size := by simp [hX.out]
  have HKA := Lib.hid (put4 (a' := .slice fa NF fc2) (b' := .slice ia NI ic2) (c' := .slice ta NT tc2) (d' := .int .i64 LT) hk2)
  have HGA := Lib.hid ((((hg2.other hX1 0 (.slice fa NF fc2)).other hX1 1 (.slice ia NI ic2)).other hX1 2 (.slice ta NT tc2)).other hX1 3 (.int .i64 LT))
  have hxx := bnext HX.out hb2
  have HXA := Lib.hid (show Below w.heap.size w ((((w2.setCell ⟨X, 0, none⟩ (.slice fa NF fc2)).setCell ⟨X, 1, none⟩ (.slice ia NI ic2)).setCell ⟨X, 2, none⟩ (.slice ta NT tc2)).setCell ⟨X, 3, none⟩ (.int .i64 LT)) from (((hxx.setCell (p := ⟨X, 0, none⟩) (by have := hX.out; show w.heap.size ≤ X; omega) _).setCell (p := ⟨X, 1, none⟩) (by have := hX.out; show w.heap.size ≤ X; omega) _).setCell (p := ⟨X, 2, none⟩) (by have := hX.out; show w.heap.size ≤ X; omega) _).setCell (p := ⟨X, 3, none⟩) (by have := hX.out; show w.heap.size ≤ X; omega) _)
  have c0 := hk2.cell 0 _ rfl
  have c1 := hk2.cell 1 _ rfl
  have c2 := hk2.cell 2 _ rfl
  have c3 := hk2.cell 3 _ rfl
  have f0 := hk2.free 0
  have f1 := hk2.free 1
  have f2' := hk2.free 2
  have f3 := hk2.free 3
  have lX := hk2.lt
  clear hk2 hX1 hxx ho2 hg2 hb2
  rw [hX.out]
  go_wp2_with fail
  have HS := Lib.hid hs
  clear hs c0 c1 c2 c3 f0 f1 f2' f3 lX
  generalize hWA : World.setCell _ _ _ = WA at HKA HGA HXA ⊢
  clear hWA
  have hlt0 : (cutCd c).lets = LT := hLT.out
  obtain ⟨s1, hs1⟩ : ∃ s1, s = s1 := ⟨_, rfl⟩
  have HS1 := Lib.hid (show s1.length ≤ 60 from by rw [← hs1]; omega)
  rw [hs1]
  clear hs1 i60
  obtain ⟨r, hr⟩ : ∃ r, codeN (cutCd c) = r := ⟨_, rfl⟩
  have HRN := Lib.hid hr
  have HP := pcode_n (cutCd c) _ _ _ WA _ HGA.out.o.has HS.out
  rw [hlt0, hr] at HP
  have HPC := Lib.hid HP
  have hlb := few_code c
  have HFC := Lib.hid hlb
  clear HP hr hlb
  refine HPC.out.mono ?_
  rintro e w3 ⟨rfl, hb3⟩
  have HX3 := Lib.hid (bnext HXA.out hb3)
  have HK3 := Lib.hid (HKA.out.keep hb3)
  obtain ⟨B, hB⟩ : ∃ B, Hid (X + 1 = B) := ⟨_, Lib.hid rfl⟩
  have hg3 := HGA.out.keep hb3
  rw [World.size_alloc, hX.out, hB.out] at hg3
  have HG3 := Lib.hid hg3
  have HXB := Lib.hid (show X < B from by have := hB.out; omega)
  have HWB := Lib.hid (show w.heap.size ≤ X ∧ w.heap.size ≤ B from by have := hX.out; have := hB.out; omega)
  clear hb3 hg3 HPC HGA HKA HXA
  have hcs : r ≠ 0 ∨ (r = 0 ∧ n < -4611686018427387904) ∨ (r = 0 ∧ -4611686018427387904 ≤ n ∧ 4611686018427387903 < n) ∨ (r = 0 ∧ -4611686018427387904 ≤ n ∧ n ≤ 4611686018427387903 ∧ 50 < LT) ∨ (r = 0 ∧ -4611686018427387904 ≤ n ∧ n ≤ 4611686018427387903 ∧ LT ≤ 50) := by omega
  have k0 := HK3.out.cell 0 _ rfl
  have k1 := HK3.out.cell 1 _ rfl
  have k2 := HK3.out.cell 2 _ rfl
  have k3 := HK3.out.cell 3 _ rfl
  rcases hcs with q1 | ⟨q1, q2⟩ | ⟨q1, q2, q3⟩ | ⟨q1, q2, q3, q4⟩ | ⟨q1, q2, q3, q4⟩
  · have t1 : (r != 0) = true := by rw [bne_iff_ne]; exact q1
    clear q1
    go_wp2_with (go_at_call 19; refine (Go.Proofs.Ytkhdkepjhifffaa.VW.lives_c _).mono ?_; rintro e w9 ⟨rfl, hb9⟩; have HX9 := Lib.hid (bnext HX3.out hb9); clear hb9)
    go_ret
    exact ⟨rfl, HX9.out⟩
  · have t1 : (r != 0) = false := by rw [q1]; rfl
    clear q1
    go_wp2_with (go_at_call 19; refine (Go.Proofs.Ytkhdkepjhifffaa.VW.lives_c _).mono ?_; rintro e w9 ⟨rfl, hb9⟩; have HX9 := Lib.hid (bnext HX3.out hb9); clear hb9)
    go_ret
    exact ⟨rfl, HX9.out⟩
  · have t1 : (r != 0) = false := by rw [q1]; rfl
    have t2 : ¬ n < -4611686018427387904 := by omega
    have t3 : n > 4611686018427387903 := by omega
    clear q1
    go_wp2_with (go_at_call 19; refine (Go.Proofs.Ytkhdkepjhifffaa.VW.lives_c _).mono ?_; rintro e w9 ⟨rfl, hb9⟩; have HX9 := Lib.hid (bnext HX3.out hb9); clear hb9)
    go_ret
    exact ⟨rfl, HX9.out⟩
  · have t1 : (r != 0) = false := by rw [q1]; rfl
    have t2 : ¬ n < -4611686018427387904 := by omega
    have t3 : ¬ n > 4611686018427387903 := by omega
    have t4 : LT > 50 := by omega
    clear q1
    go_wp2_with (go_at_call 19; refine (Go.Proofs.Ytkhdkepjhifffaa.VW.lives_c _).mono ?_; rintro e w9 ⟨rfl, hb9⟩; have HX9 := Lib.hid (bnext HX3.out hb9); clear hb9)
    go_ret
    exact ⟨rfl, HX9.out⟩
  · have t1 : (r != 0) = false := by rw [q1]; rfl
    have t2 : ¬ n < -4611686018427387904 := by omega
    have t3 : ¬ n > 4611686018427387903 := by omega
    have t4 : ¬ LT > 50 := by omega
    subst q1
    have HCM := Lib.hid (code_more (s := s1) HRN.out (six c).1 (six c).2.1 (six c).2.2 (by rw [hlt0]; exact q4) q2 q3 HS1.out)
    have HLT0 := Lib.hid (show 0 ≤ LT from by have := (codeN_zero HRN.out).1; rw [← hlt0]; unfold mayB headOk at this; simp only [Bool.and_eq_true, decide_eq_true_eq] at this; omega)
    have HIO := Lib.hid (fun b e => (HG3.out.ints.own (b := b) e).1)
    have HTO := Lib.hid (fun b e => (HG3.out.texts.own (b := b) e).1)
    have HFO := Lib.hid (fun b e => (HG3.out.funs.own (b := b) e).1)
    have HB3 := Lib.hid (show B ≤ w3.heap.size from by have := HK3.out.lt; have := hB.out; omega)
    have HIA := Lib.hid (HG3.out.ints.keep (balloc w3 (.cells #[.int .i64 n] 3)))
    have HFA := Lib.hid (HG3.out.funs.keep (balloc w3 (.cells #[.int .i64 n] 3)))
    have HTA := Lib.hid (HG3.out.texts.keep (balloc w3 (.cells #[.int .i64 n] 3)))
    have HRI := Lib.hid (show RowR TI (w3.alloc (.cells #[.int .i64 n] 3)) (fun b => False ∧ (Value.slice ia NI ic2).ownBlock ≠ some b) (.slice (some ⟨w3.heap.size, 0, none⟩) 1 1) [n] from rowR_new (q := []) #[.int .i64 n] 3 rfl rfl)
    have HLI := Lib.hid (show (cutCd c).ints.length + [n].length ≤ 100000000000 from by have := (six c).2.1; simp; omega)
    have HLTX := Lib.hid (show (cutCd c).texts.length + [s1].length ≤ 100000000000 from by have := (six c).2.2; simp; omega)
    have HLF := Lib.hid (show (GS.map Prod.fst).length + [nb].length ≤ 100000000000 from by rw [HG3.out.fst]; have := (six c).1; simp; omega)
    have HFST := Lib.hid HG3.out.fst
    have HBI := Lib.hid (show B ≤ (w3.alloc (.cells #[.int .i64 n] 3)).heap.size from by have := HB3.out; simp; omega)
    have HKA := Lib.hid (HK3.out.alloc (.cells #[.int .i64 n] 3))
    have HXA := Lib.hid (bnext HX3.out (balloc w3 (.cells #[.int .i64 n] 3)))
    have lXB := HXB.out
    clear HG3
    go_wp2_with (first
      | (at_builtin
         go_loud (refine wpList_row TI (w3.alloc (.cells #[.int .i64 n] 3)) rfl (.tmp 32) (.tmp 34) rfl B (fun _ => False) (.slice ia NI ic2) (.slice (some ⟨w3.heap.size, 0, none⟩) 1 1) (cutCd c).ints [n] rfl rfl HIA.out HRI.out HLI.out HBI.out ?_)
         intro ao1 m1 cap1 w4 hO4 hn4 hg4 ha4
         have HI4 := Lib.hid (hO4.other (fun b h => h.elim) HXB.out 1 (.slice ao1 m1 cap1))
         have HF4 := Lib.hid ((own_typ HFA.out hg4 (blk_typ HIA.out (fun e => e ≠ TG.e ∧ e ≠ TN.e) (by decide))).other (fun b h => by have h : B ≤ b := h; have := HXB.out; omega) HXB.out 1 (.slice ao1 m1 cap1))
         have HT4 := Lib.hid ((flat_typ HTA.out hg4 (blk_typ HIA.out (fun e => e ≠ TT.e) (by decide))).other (fun b h => h.elim) HXB.out 1 (.slice ao1 m1 cap1))
         have hk4 := HKA.out.grown hg4 (fun e => by have := HIO.out X e; have := HXB.out; omega)
         have HK4 := Lib.hid (hk4.set 1 (.slice ao1 m1 cap1))
         have HX4 := Lib.hid (((HXA.out.trans (bgrown hg4 (fun b e => Nat.le_trans HWB.out.2 (HIO.out b e)) (Nat.le_trans HWB.out.2 HBI.out))).setCell (p := ⟨X, 1, none⟩) HWB.out.1 (.slice ao1 m1 cap1)))
         have HB4 := Lib.hid (show B ≤ w4.heap.size from Nat.le_trans HBI.out hg4.size)
         have HSZ4 := Lib.hid (show (w4.setCell ⟨X, 1, none⟩ (.slice ao1 m1 cap1)).heap.size = w4.heap.size from by simp)
         have f4 := hk4.free 1
         have r4 := hk4.cell 1 _ rfl
         have r40 := hk4.cell 0 _ rfl
         have r42 := hk4.cell 2 _ rfl
         have r43 := hk4.cell 3 _ rfl
         have l4 := hk4.lt
         obtain rfl : m1 = NI + 1 := by rw [hn4, HN.out.2.1]; rfl
         have HIB := Lib.hid (HI4.out.keep (balloc (w4.setCell ⟨X, 1, none⟩ (.slice ao1 (NI + 1) cap1)) (.cells #[.string ⟨s1.toArray⟩] 9)))
         have HFB := Lib.hid (HF4.out.keep (balloc (w4.setCell ⟨X, 1, none⟩ (.slice ao1 (NI + 1) cap1)) (.cells #[.string ⟨s1.toArray⟩] 9)))
         have HTB := Lib.hid (HT4.out.keep (balloc (w4.setCell ⟨X, 1, none⟩ (.slice ao1 (NI + 1) cap1)) (.cells #[.string ⟨s1.toArray⟩] 9)))
         have HRT := Lib.hid (show RowR TT ((w4.setCell ⟨X, 1, none⟩ (.slice ao1 (NI + 1) cap1)).alloc (.cells #[.string ⟨s1.toArray⟩] 9)) (fun b => False ∧ (Value.slice ta NT tc2).ownBlock ≠ some b) (.slice (some ⟨w4.heap.size, 0, none⟩) 1 1) [s1] from by
           have := rowR_new (R := TT) (w := w4.setCell ⟨X, 1, none⟩ (.slice ao1 (NI + 1) cap1)) (S := fun b => False ∧ (Value.slice ta NT tc2).ownBlock ≠ some b) (p := s1) (q := []) #[.string ⟨s1.toArray⟩] 9 rfl rfl
           rw [HSZ4.out] at this
           exact this)
         have HBB := Lib.hid (show B ≤ ((w4.setCell ⟨X, 1, none⟩ (.slice ao1 (NI + 1) cap1)).alloc (.cells #[.string ⟨s1.toArray⟩] 9)).heap.size from by have := HB4.out; simp; omega)
         have HKB := Lib.hid (HK4.out.alloc (.cells #[.string ⟨s1.toArray⟩] 9))
         have HXB5 := Lib.hid (bnext HX4.out (balloc _ (.cells #[.string ⟨s1.toArray⟩] 9)))
         clear hO4 hn4 hg4 ha4 hk4)
      | (at_builtin
         go_loud (refine wpList_row TT ((w4.setCell ⟨X, 1, none⟩ (.slice ao1 (NI + 1) cap1)).alloc (.cells #[.string ⟨s1.toArray⟩] 9)) rfl (.tmp 38) (.tmp 40) rfl B (fun _ => False) (.slice ta NT tc2) (.slice (some ⟨w4.heap.size, 0, none⟩) 1 1) (cutCd c).texts [s1] rfl rfl HTB.out HRT.out HLTX.out HBB.out ?_)
         intro ao2 m2 cap2 w5 hO5 hn5 hg5 ha5
         have HT5 := Lib.hid (hO5.other (fun b h => h.elim) HXB.out 2 (.slice ao2 m2 cap2))
         have HF5 := Lib.hid ((own_typ HFB.out hg5 (blk_typ HTB.out (fun e => e ≠ TG.e ∧ e ≠ TN.e) (by decide))).other (fun b h => by have h : B ≤ b := h; have := HXB.out; omega) HXB.out 2 (.slice ao2 m2 cap2))
         have HI5 := Lib.hid ((flat_typ HIB.out hg5 (blk_typ HTB.out (fun e => e ≠ TI.e) (by decide))).other (fun b h => h.elim) HXB.out 2 (.slice ao2 m2 cap2))
         have hk5 := HKB.out.grown hg5 (fun e => by have := HTO.out X e; have := HXB.out; omega)
         have HK5 := Lib.hid (hk5.set 2 (.slice ao2 m2 cap2))
         have HX5 := Lib.hid (((HXB5.out.trans (bgrown hg5 (fun b e => Nat.le_trans HWB.out.2 (HTO.out b e)) (Nat.le_trans HWB.out.2 HBB.out))).setCell (p := ⟨X, 2, none⟩) HWB.out.1 (.slice ao2 m2 cap2)))
         have HB5 := Lib.hid (show B ≤ w5.heap.size from Nat.le_trans HBB.out hg5.size)
         have f5 := hk5.free 2
         have f53 := hk5.free 3
         have r5 := hk5.cell 2 _ rfl
         have r50 := hk5.cell 0 _ rfl
         have r51 := hk5.cell 1 _ rfl
         have r53 := hk5.cell 3 _ rfl
         have l5 := hk5.lt
         obtain rfl : m2 = NT + 1 := by rw [hn5, HN.out.2.2]; rfl
         clear hO5 hn5 hg5 ha5 hk5 f4 r4 r40 r42 r43 l4
         have HT6 := Lib.hid (HT5.out.other (fun b h => h.elim) HXB.out 3 (.int .i64 (wrap64 (LT + 1))))
         have HI6 := Lib.hid (HI5.out.other (fun b h => h.elim) HXB.out 3 (.int .i64 (wrap64 (LT + 1))))
         have HF6 := Lib.hid (HF5.out.other (fun b h => by have h : B ≤ b := h; have := HXB.out; omega) HXB.out 3 (.int .i64 (wrap64 (LT + 1))))
         have HK6 := Lib.hid (HK5.out.set 3 (.int .i64 (wrap64 (LT + 1))))
         have HX6 := Lib.hid (HX5.out.setCell (p := ⟨X, 3, none⟩) HWB.out.1 (.int .i64 (wrap64 (LT + 1))))
         have HSZ6 := Lib.hid (show ((w5.setCell ⟨X, 2, none⟩ (.slice ao2 (NT + 1) cap2)).setCell ⟨X, 3, none⟩ (.int .i64 (wrap64 (LT + 1)))).heap.size = w5.heap.size from by simp)
         have HBL := Lib.hid (show Below ((w5.setCell ⟨X, 2, none⟩ (.slice ao2 (NT + 1) cap2)).setCell ⟨X, 3, none⟩ (.int .i64 (wrap64 (LT + 1)))).heap.size ((w5.setCell ⟨X, 2, none⟩ (.slice ao2 (NT + 1) cap2)).setCell ⟨X, 3, none⟩ (.int .i64 (wrap64 (LT + 1)))) ((((w5.setCell ⟨X, 2, none⟩ (.slice ao2 (NT + 1) cap2)).setCell ⟨X, 3, none⟩ (.int .i64 (wrap64 (LT + 1)))).alloc (.cells #[.int .i64 3, .int .i64 0, .int .i64 0, .int .i64 15, .int .i64 0, .int .i64 0] 45)).alloc (.cells #[.int .i64 0, .int .i64 1, .int .i64 1, .slice (some ⟨w5.heap.size, 0, none⟩) 2 2] 49)) from bnext (balloc ((w5.setCell ⟨X, 2, none⟩ (.slice ao2 (NT + 1) cap2)).setCell ⟨X, 3, none⟩ (.int .i64 (wrap64 (LT + 1)))) (.cells #[.int .i64 3, .int .i64 0, .int .i64 0, .int .i64 15, .int .i64 0, .int .i64 0] 45)) (balloc _ (.cells #[.int .i64 0, .int .i64 1, .int .i64 1, .slice (some ⟨w5.heap.size, 0, none⟩) 2 2] 49)))
         have HTC := Lib.hid (HT6.out.keep HBL.out)
         have HIC := Lib.hid (HI6.out.keep HBL.out)
         have HFC2 := Lib.hid (own_fst (HF6.out.keep HBL.out))
         have HRF := Lib.hid (show RowR TF ((((w5.setCell ⟨X, 2, none⟩ (.slice ao2 (NT + 1) cap2)).setCell ⟨X, 3, none⟩ (.int .i64 (wrap64 (LT + 1)))).alloc (.cells #[.int .i64 3, .int .i64 0, .int .i64 0, .int .i64 15, .int .i64 0, .int .i64 0] 45)).alloc (.cells #[.int .i64 0, .int .i64 1, .int .i64 1, .slice (some ⟨w5.heap.size, 0, none⟩) 2 2] 49)) (fun b => B ≤ b ∧ (Value.slice fa NF fc2).ownBlock ≠ some b) (.slice (some ⟨w5.heap.size + 1, 0, none⟩) 1 1) [nb] from by
           have := lit_row ((w5.setCell ⟨X, 2, none⟩ (.slice ao2 (NT + 1) cap2)).setCell ⟨X, 3, none⟩ (.int .i64 (wrap64 (LT + 1)))) (S := fun b => B ≤ b ∧ (Value.slice fa NF fc2).ownBlock ≠ some b) ⟨by have := HSZ6.out; have := HB5.out; omega, fun e => by have := (HF6.out.own e).2; omega⟩
           rw [HSZ6.out] at this
           exact this)
         have HBC := Lib.hid (show B ≤ ((((w5.setCell ⟨X, 2, none⟩ (.slice ao2 (NT + 1) cap2)).setCell ⟨X, 3, none⟩ (.int .i64 (wrap64 (LT + 1)))).alloc (.cells #[.int .i64 3, .int .i64 0, .int .i64 0, .int .i64 15, .int .i64 0, .int .i64 0] 45)).alloc (.cells #[.int .i64 0, .int .i64 1, .int .i64 1, .slice (some ⟨w5.heap.size, 0, none⟩) 2 2] 49)).heap.size from by have := HBL.out.size; have := HSZ6.out; have := HB5.out; omega)
         have HKC := Lib.hid (HK6.out.keep HBL.out)
         have HXC := Lib.hid (bnext HX6.out HBL.out))
      | (at_builtin
         go_loud (refine wpList_row TF ((((w5.setCell ⟨X, 2, none⟩ (.slice ao2 (NT + 1) cap2)).setCell ⟨X, 3, none⟩ (.int .i64 (wrap64 (LT + 1)))).alloc (.cells #[.int .i64 3, .int .i64 0, .int .i64 0, .int .i64 15, .int .i64 0, .int .i64 0] 45)).alloc (.cells #[.int .i64 0, .int .i64 1, .int .i64 1, .slice (some ⟨w5.heap.size, 0, none⟩) 2 2] 49)) rfl (.tmp 48) (.tmp 53) rfl B (fun b => B ≤ b) (.slice fa NF fc2) (.slice (some ⟨w5.heap.size + 1, 0, none⟩) 1 1) (GS.map Prod.fst) [nb] rfl rfl HFC2.out HRF.out HLF.out HBC.out ?_)
         intro ao3 m3 cap3 w7 hO7 hn7 hg7 ha7
         have HF7 := Lib.hid (hO7.other (fun b h => by have h : B ≤ b := h; have := HXB.out; omega) HXB.out 0 (.slice ao3 m3 cap3))
         have HI7 := Lib.hid ((flat_typ HIC.out hg7 (blk_typ HFC2.out (fun e => e ≠ TI.e) (by decide))).other (fun b h => h.elim) HXB.out 0 (.slice ao3 m3 cap3))
         have HT7 := Lib.hid ((flat_typ HTC.out hg7 (blk_typ HFC2.out (fun e => e ≠ TT.e) (by decide))).other (fun b h => h.elim) HXB.out 0 (.slice ao3 m3 cap3))
         have hk7 := HKC.out.grown hg7 (fun e => by have := HFO.out X e; have := HXB.out; omega)
         have HX7 := Lib.hid (((HXC.out.trans (bgrown hg7 (fun b e => Nat.le_trans HWB.out.2 (HFO.out b e)) (Nat.le_trans HWB.out.2 HBC.out))).setCell (p := ⟨X, 0, none⟩) HWB.out.1 (.slice ao3 m3 cap3)))
         have f7 := hk7.free 0
         have r7 := hk7.cell 0 _ rfl
         have r71 := hk7.cell 1 _ rfl
         have r72 := hk7.cell 2 _ rfl
         have r73 := hk7.cell 3 _ rfl
         have l7 := hk7.lt
         obtain rfl : m3 = NF + 1 := by rw [hn7, HFST.out, HN.out.1]; rfl
         clear hO7 hn7 hg7 ha7 hk7 f5 f53 r5 r50 r51 r53 l5))
    have hw : wrap64 (LT + 1) = LT + 1 := by
      have := HLT0.out
      unfold wrap64
      omega
    have hP := pcode_n (moreCd (cutCd c) n s1) (.slice ao3 (NF + 1) cap3) (.slice ao1 (NI + 1) cap1) (.slice ao2 (NT + 1) cap2) (w7.setCell ⟨X, 0, none⟩ (.slice ao3 (NF + 1) cap3)) (fun _ => True) ⟨by
      have := HF7.out.row.weak (S' := fun _ => True) (fun _ _ _ => trivial)
      rw [HFST.out] at this
      exact this, HI7.out.row.weak (fun _ _ _ => trivial), HT7.out.row.weak (fun _ _ _ => trivial)⟩ (few_more HFC.out (six c).1 (six c).2.1 (six c).2.2)
    rw [show (moreCd (cutCd c) n s1).lets = wrap64 (LT + 1) from by rw [hw, ← hlt0]; rfl, HCM.out] at hP
    refine hP.mono ?_
    clear hP
    rintro e w8 ⟨rfl, hb8⟩
    have HX8 := Lib.hid (bnext HX7.out hb8)
    clear hb8 hw f7 r7 r71 r72 r73 l7 HF7 HI7 HT7
    go_wp2_with (go_at_call 19; refine (Go.Proofs.Ytkhdkepjhifffaa.VW.lives_c _).mono ?_; rintro e w9 ⟨rfl, hb9⟩; have HX9 := Lib.hid (bnext HX8.out hb9); clear hb9)
    go_ret
    exact ⟨rfl, HX9.out⟩
theorem walk (w : World) (c : Cd) (fv iv tv : Value) (h : HasC w (fun _ => True) c fv iv tv) (hl : c.funs.length ≤ maxLen ∧ c.ints.length ≤ maxLen ∧ c.texts.length ≤ maxLen ∧ ∀ f, f ∈ c.funs → f.code.length ≤ maxLen) (n : Int) (p0 : -9223372036854775808 ≤ n) (p1 : n ≤ 9223372036854775807) (s : By) :
    Calls Try.prog 9 #[.agg #[fv, iv, tv, .int .i64 c.lets], .int .i64 n, .string ⟨s.toArray⟩] w fun e w' => e = .returned (.bool true) ∧ Below w.heap.size w w' := by
  by_cases h60 : (s.length : Int) > 60
  · exact long w c fv iv tv h hl n s h60
  · exact short w c fv iv tv h hl n s h60
end Go.Proofs.Ytkhdkepjhifffaa.verifyMore
