/- VerifyDepths: the walk. -/
import Derived.Test.YtkhdkepjhifffaaVX
import Derived.Test.YtkhdkepjhifffaaVW
import Derived.Test.YtkhdkepjhifffaaPE
import Derived.Test.YtkhdkepjhifffaaVT
namespace Go.Proofs.Ytkhdkepjhifffaa.verifyDepths
open Go.RowKit Go.Proofs.Ytkhdkepjhifffaa.RG Go.Proofs.Ytkhdkepjhifffaa.KA Go.Proofs.Ytkhdkepjhifffaa.KB Go.Proofs.Ytkhdkepjhifffaa.KC Go.Proofs.Ytkhdkepjhifffaa.KH Go.Proofs.Ytkhdkepjhifffaa.KI Go.Proofs.Ytkhdkepjhifffaa.PE Go.Proofs.Ytkhdkepjhifffaa.VA Go.Proofs.Ytkhdkepjhifffaa.VO Go.Proofs.Ytkhdkepjhifffaa.VP Go.Proofs.Ytkhdkepjhifffaa.VX
set_option linter.unusedVariables false
set_option maxRecDepth 100000
set_option maxRecDepth 100000

set_option maxHeartbeats 32000000 in
theorem walk (w : World) (c : Cd) (fv iv tv : Value) (h : HasC w (fun _ => True) c fv iv tv) (hl : c.funs.length ≤ maxLen ∧ c.ints.length ≤ maxLen ∧ c.texts.length ≤ maxLen ∧ ∀ f, f ∈ c.funs → f.code.length ≤ maxLen) (n : Int) (p0 : -9223372036854775808 ≤ n) (p1 : n ≤ 9223372036854775807) :
    Calls Try.prog 6 #[.agg #[fv, iv, tv, .int .i64 c.lets], .int .i64 n] w fun e w' => e = .returned (.bool true) ∧ Below w.heap.size w w' := by
  obtain ⟨fo, fc, rfl, hfc⟩ := h.funs.val
  obtain ⟨io, ic, rfl, hic⟩ := h.ints.val
  obtain ⟨to_, tc, rfl, htc⟩ := h.texts.val
  obtain ⟨LT, hLT⟩ : ∃ x, Hid (c.lets = x) := ⟨_, Lib.hid rfl⟩
  obtain ⟨X, hX⟩ : ∃ X, Hid (w.heap.size = X) := ⟨_, Lib.hid rfl⟩
  have HCUT := Lib.hid (fun w' (hb : Below w.heap.size w w') => cut_c c _ _ _ w' _ (h.keep hb) hl)
  have hs := few c
  obtain ⟨n1, hn1⟩ : ∃ x, Hid (c.funs.length = x) := ⟨_, Lib.hid rfl⟩
  obtain ⟨n2, hn2⟩ : ∃ x, Hid (c.ints.length = x) := ⟨_, Lib.hid rfl⟩
  obtain ⟨n3, hn3⟩ : ∃ x, Hid (c.texts.length = x) := ⟨_, Lib.hid rfl⟩
  rw [hn1.out, hn2.out, hn3.out] at HCUT ⊢
  unfold CutRes at HCUT
  rw [hLT.out] at HCUT ⊢
  have HK := Lib.hid (new_at w #[.slice fo n1 fc, .slice io n2 ic, .slice to_ n3 tc, .int .i64 LT] 27 hX.out)
  have HX := Lib.hid (balloc w (.cells #[.slice fo n1 fc, .slice io n2 ic, .slice to_ n3 tc, .int .i64 LT] 27))
  clear h hl hfc hic htc hn1 hn2 hn3
  go_enter Try.func6, Try.ntmps6
  go_wp2_with fail
  refine (HCUT.out _ HX.out).mono ?_
  rintro e w2 ⟨f2, i2, t2, rfl, ho2, hb2⟩
  clear HCUT
  obtain ⟨fa, fc2, ef, _⟩ := ho2.funs.val
  obtain ⟨ia, ic2, ei, _⟩ := ho2.ints.val
  obtain ⟨ta, tc2, et, _⟩ := ho2.texts.val
  obtain ⟨NF, hNF⟩ : ∃ x, (cutCd c).funs.length = x := ⟨_, rfl⟩
  obtain ⟨NI, hNI⟩ : ∃ x, (cutCd c).ints.length = x := ⟨_, rfl⟩
  obtain ⟨NT, hNT⟩ : ∃ x, (cutCd c).texts.length = x := ⟨_, rfl⟩
  rw [hNF] at ef
  rw [hNI] at ei
  rw [hNT] at et
  subst ef ei et
  have HN := Lib.hid (And.intro hNF (And.intro hNI hNT))
  clear hNF hNI hNT
  have hk2 := HK.out.keep hb2
  have hX1 : X < (w.alloc (.cells #[.slice fo n1 fc, .slice io n2 ic, .slice to_ n3 tc, .int .i64 LT] 27)).heap.size := by simp [hX.out]
  have HKA := Lib.hid (put4 (a' := .slice fa NF fc2) (b' := .slice ia NI ic2) (c' := .slice ta NT tc2) (d' := .int .i64 LT) hk2)
  have HOA := Lib.hid ((((ho2.other hX1 0 (.slice fa NF fc2)).other hX1 1 (.slice ia NI ic2)).other hX1 2 (.slice ta NT tc2)).other hX1 3 (.int .i64 LT))
  have hxx := bnext HX.out hb2
  have HXA := Lib.hid (show Below w.heap.size w ((((w2.setCell ⟨X, 0, none⟩ (.slice fa NF fc2)).setCell ⟨X, 1, none⟩ (.slice ia NI ic2)).setCell ⟨X, 2, none⟩ (.slice ta NT tc2)).setCell ⟨X, 3, none⟩ (.int .i64 LT)) from (((hxx.setCell (p := ⟨X, 0, none⟩) (by have := hX.out; show w.heap.size ≤ X; omega) _).setCell (p := ⟨X, 1, none⟩) (by have := hX.out; show w.heap.size ≤ X; omega) _).setCell (p := ⟨X, 2, none⟩) (by have := hX.out; show w.heap.size ≤ X; omega) _).setCell (p := ⟨X, 3, none⟩) (by have := hX.out; show w.heap.size ≤ X; omega) _)
  have c0 := hk2.cell 0 _ rfl
  have c1 := hk2.cell 1 _ rfl
  have c2 := hk2.cell 2 _ rfl
  have c3 := hk2.cell 3 _ rfl
  have f0 := hk2.free 0
  have f1 := hk2.free 1
  have f2' := hk2.free 2
  have f3 := hk2.free 3
  have lX := hk2.lt
  clear hk2 hX1 hxx ho2 hb2
  rw [hX.out]
  go_wp2_with fail
  have HS := Lib.hid hs
  clear hs c0 c1 c2 c3 f0 f1 f2' f3 lX
  generalize hWA : World.setCell _ _ _ = WA at HKA HOA HXA ⊢
  clear hWA
  have hlt0 : (cutCd c).lets = LT := hLT.out
  clear p0 p1
  have HP := pdepths_n (cutCd c) _ _ _ n WA _ HOA.out.has HS.out
  rw [hlt0] at HP
  have HPC := Lib.hid HP
  clear HP
  have k0 := HKA.out.cell 0 _ rfl
  have k1 := HKA.out.cell 1 _ rfl
  have k2 := HKA.out.cell 2 _ rfl
  have k3 := HKA.out.cell 3 _ rfl
  go_wp2_with fail
  refine HPC.out.mono ?_
  rintro e w3 ⟨hb3, v, L, rfl, hrow, _, hdep⟩
  have HX3 := Lib.hid (bnext HXA.out hb3)
  have HK3 := Lib.hid (HKA.out.keep hb3)
  have HR3 := Lib.hid hrow
  have HD3 := Lib.hid hdep
  have HL3 := Lib.hid (dep_len hdep (few_code c))
  have HD := Go.Proofs.Ytkhdkepjhifffaa.VT.ddepths_c (cutCd c) _ _ _ n w3 _ (HOA.out.keep hb3).has HS.out
  rw [hlt0] at HD
  have HDC := Lib.hid HD
  clear HD hlt0 hb3 hrow hdep k0 k1 k2 k3 HPC HOA HKA HXA
  have k0 := HK3.out.cell 0 _ rfl
  have k1 := HK3.out.cell 1 _ rfl
  have k2 := HK3.out.cell 2 _ rfl
  have k3 := HK3.out.cell 3 _ rfl
  go_wp2_with fail
  refine HDC.out.mono ?_
  rintro e w4 ⟨hb4, v', L', rfl, hrow', _, hdep'⟩
  obtain rfl := HD3.out.one hdep'
  have HX4 := Lib.hid (bnext HX3.out hb4)
  have HR4 := Lib.hid (HR3.out.keep hb4)
  have HR5 := Lib.hid hrow'
  clear hb4 hrow' hdep' k0 k1 k2 k3 HDC HK3 HR3 HD3
  go_wp2_with fail
  refine (Go.Proofs.Ytkhdkepjhifffaa.VW.same_yes _ _ L w4 _ _ HR4.out HR5.out HL3.out).mono ?_
  rintro e w5 ⟨rfl, hb5⟩
  have HX5 := Lib.hid (bnext HX4.out hb5)
  clear hb5 HR4 HR5
  go_wp2_with (go_at_call 19; refine (Go.Proofs.Ytkhdkepjhifffaa.VW.lives_c _).mono ?_; rintro e w9 ⟨rfl, hb9⟩; have HX9 := Lib.hid (bnext HX5.out hb9); clear hb9)
  go_ret
  exact ⟨rfl, HX9.out⟩
end Go.Proofs.Ytkhdkepjhifffaa.verifyDepths
