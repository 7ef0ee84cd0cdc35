/- VerifyCodes: the walk. -/
import Derived.Test.YtkhdkepjhifffaaVX
import Derived.Test.YtkhdkepjhifffaaVW
import Derived.Test.YtkhdkepjhifffaaPE
import Derived.Deep.RegionHeld3
namespace Go.Proofs.Ytkhdkepjhifffaa.verifyCodes
open Go.RowKit Go.Proofs.Ytkhdkepjhifffaa.RG Go.Proofs.Ytkhdkepjhifffaa.KA Go.Proofs.Ytkhdkepjhifffaa.KB Go.Proofs.Ytkhdkepjhifffaa.KC Go.Proofs.Ytkhdkepjhifffaa.KH Go.Proofs.Ytkhdkepjhifffaa.KI Go.Proofs.Ytkhdkepjhifffaa.PE Go.Proofs.Ytkhdkepjhifffaa.VA Go.Proofs.Ytkhdkepjhifffaa.VO Go.Proofs.Ytkhdkepjhifffaa.VP Go.Proofs.Ytkhdkepjhifffaa.VX
set_option linter.unusedVariables false
set_option maxRecDepth 100000
set_option maxRecDepth 100000

set_option maxHeartbeats 32000000 in
theorem walk (w : World) (c : Cd) (fv iv tv : Value) (h : HasC w (fun _ => True) c fv iv tv) (hl : c.funs.length ≤ maxLen ∧ c.ints.length ≤ maxLen ∧ c.texts.length ≤ maxLen ∧ ∀ f, f ∈ c.funs → f.code.length ≤ maxLen) :
    Calls Try.prog 5 #[.agg #[fv, iv, tv, .int .i64 c.lets]] w fun e w' => e = .returned (.bool true) ∧ Below w.heap.size w w' := by
  obtain ⟨fo, fc, rfl, hfc⟩ := h.funs.val
  obtain ⟨io, ic, rfl, hic⟩ := h.ints.val
  obtain ⟨to_, tc, rfl, htc⟩ := h.texts.val
  obtain ⟨LT, hLT⟩ : ∃ x, Hid (c.lets = x) := ⟨_, Lib.hid rfl⟩
  obtain ⟨X, hX⟩ : ∃ X, Hid (w.heap.size = X) := ⟨_, Lib.hid rfl⟩
  have HCUT := Lib.hid (fun w' (hb : Below w.heap.size w w') => cut_c c _ _ _ w' _ (h.keep hb) hl)
  have hs := few c
  obtain ⟨n1, hn1⟩ : ∃ x, Hid (c.funs.length = x) := ⟨_, Lib.hid rfl⟩
  obtain ⟨n2, hn2⟩ : ∃ x, Hid (c.ints.length = x) := ⟨_, Lib.hid rfl⟩
  obtain ⟨n3, hn3⟩ : ∃ x, Hid (c.texts.length = x) := ⟨_, Lib.hid rfl⟩
  rw [hn1.out, hn2.out, hn3.out] at HCUT ⊢
  unfold CutRes at HCUT
  rw [hLT.out] at HCUT ⊢
  have HK := Lib.hid (new_at w #[.slice fo n1 fc, .slice io n2 ic, .slice to_ n3 tc, .int .i64 LT] 27 hX.out)
  have HX := Lib.hid (balloc w (.cells #[.slice fo n1 fc, .slice io n2 ic, .slice to_ n3 tc, .int .i64 LT] 27))
  clear h hl hfc hic htc hn1 hn2 hn3
  go_enter Try.func5, Try.ntmps5
  go_wp2_with fail
  refine (HCUT.out _ HX.out).mono ?_
  rintro e w2 ⟨f2, i2, t2, rfl, ho2, hb2⟩
  clear HCUT
  obtain ⟨fa, fc2, ef, _⟩ := ho2.funs.val
  obtain ⟨ia, ic2, ei, _⟩ := ho2.ints.val
  obtain ⟨ta, tc2, et, _⟩ := ho2.texts.val
  obtain ⟨NF, hNF⟩ : ∃ x, (cutCd c).funs.length = x := ⟨_, rfl⟩
  obtain ⟨NI, hNI⟩ : ∃ x, (cutCd c).ints.length = x := ⟨_, rfl⟩
  obtain ⟨NT, hNT⟩ : ∃ x, (cutCd c).texts.length = x := ⟨_, rfl⟩
  rw [hNF] at ef
  rw [hNI] at ei
  rw [hNT] at et
  subst ef ei et
  have HN := Lib.hid (And.intro hNF (And.intro hNI hNT))
  clear hNF hNI hNT
  have hk2 := HK.out.keep hb2
  have hX1 : X < (w.alloc (.cells #[.slice fo n1 fc, .slice io n2 ic, .slice to_ n3 tc, .int .i64 LT] 27)).heap.size := by simp [hX.out]
  have HKA := Lib.hid (put4 (a' := .slice fa NF fc2) (b' := .slice ia NI ic2) (c' := .slice ta NT tc2) (d' := .int .i64 LT) hk2)
  have HOA := Lib.hid ((((ho2.other hX1 0 (.slice fa NF fc2)).other hX1 1 (.slice ia NI ic2)).other hX1 2 (.slice ta NT tc2)).other hX1 3 (.int .i64 LT))
  have hxx := bnext HX.out hb2
  have HXA := Lib.hid (show Below w.heap.size w ((((w2.setCell ⟨X, 0, none⟩ (.slice fa NF fc2)).setCell ⟨X, 1, none⟩ (.slice ia NI ic2)).setCell ⟨X, 2, none⟩ (.slice ta NT tc2)).setCell ⟨X, 3, none⟩ (.int .i64 LT)) from (((hxx.setCell (p := ⟨X, 0, none⟩) (by have := hX.out; show w.heap.size ≤ X; omega) _).setCell (p := ⟨X, 1, none⟩) (by have := hX.out; show w.heap.size ≤ X; omega) _).setCell (p := ⟨X, 2, none⟩) (by have := hX.out; show w.heap.size ≤ X; omega) _).setCell (p := ⟨X, 3, none⟩) (by have := hX.out; show w.heap.size ≤ X; omega) _)
  have c0 := hk2.cell 0 _ rfl
  have c1 := hk2.cell 1 _ rfl
  have c2 := hk2.cell 2 _ rfl
  have c3 := hk2.cell 3 _ rfl
  have f0 := hk2.free 0
  have f1 := hk2.free 1
  have f2' := hk2.free 2
  have f3 := hk2.free 3
  have lX := hk2.lt
  clear hk2 hX1 hxx ho2 hb2
  rw [hX.out]
  go_wp2_with fail
  have HS := Lib.hid hs
  clear hs c0 c1 c2 c3 f0 f1 f2' f3 lX
  generalize hWA : World.setCell _ _ _ = WA at HKA HOA HXA ⊢
  clear hWA
  have hlt0 : (cutCd c).lets = LT := hLT.out
  obtain ⟨r, hr⟩ : ∃ r, codeN (cutCd c) = r := ⟨_, rfl⟩
  have HPC := Lib.hid (fun w' (hb : Below WA.heap.size WA w') => show Calls Try.prog 17 #[.agg #[.slice fa NF fc2, .slice ia NI ic2, .slice ta NT tc2, .int .i64 LT]] w' fun e w'' => e = .returned (.int .i64 r) ∧ Below w'.heap.size w' w'' from by
    have := pcode_n (cutCd c) _ _ _ w' _ (HOA.out.keep hb).has HS.out
    rw [hlt0, hr] at this
    exact this)
  have HDC := Lib.hid (fun w' (hb : Below WA.heap.size WA w') => show Calls Try.prog 18 #[.agg #[.slice fa NF fc2, .slice ia NI ic2, .slice ta NT tc2, .int .i64 LT]] w' fun e w'' => e = .returned (.int .i64 r) ∧ Below w'.heap.size w' w'' from by
    have := dcode_n (cutCd c) _ _ _ w' _ (HOA.out.keep hb).has HS.out
    rw [hlt0, hr] at this
    exact this)
  have he : (r == r) = true := by simp
  have HB1 := Lib.hid (bdr WA)
  have HC1 := Lib.hid (And.intro (HKA.out.drew.cell 0 (.slice fa NF fc2) rfl) (And.intro (HKA.out.drew.cell 1 (.slice ia NI ic2) rfl) (And.intro (HKA.out.drew.cell 2 (.slice ta NT tc2) rfl) (HKA.out.drew.cell 3 (.int .i64 LT) rfl))))
  clear hlt0 hr
  go_region_held3 (fun w' => w'.cell? ⟨X, 0, none⟩ = some (.slice fa NF fc2) ∧ w'.cell? ⟨X, 1, none⟩ = some (.slice ia NI ic2) ∧ w'.cell? ⟨X, 2, none⟩ = some (.slice ta NT tc2) ∧ w'.cell? ⟨X, 3, none⟩ = some (.int .i64 LT)) (first | with_reducible exact HC1.out | with_reducible exact HC2.out | with_reducible exact HC3.out | with_reducible exact HC4.out | with_reducible exact HC5.out | go_keep)
    (first
      | (go_at_call 17; (with_reducible refine (HPC.out _ HB1.out).mono ?_); rintro e w3 ⟨rfl, hb3⟩; have HB3 := Lib.hid (HB1.out.trans (hb3.mono HB1.out.size)); have HC3 := Lib.hid (And.intro ((HKA.out.keep HB3.out).cell 0 (.slice fa NF fc2) rfl) (And.intro ((HKA.out.keep HB3.out).cell 1 (.slice ia NI ic2) rfl) (And.intro ((HKA.out.keep HB3.out).cell 2 (.slice ta NT tc2) rfl) ((HKA.out.keep HB3.out).cell 3 (.int .i64 LT) rfl)))); clear hb3)
      | (go_at_call 18; (with_reducible refine (HDC.out _ HB3.out).mono ?_); rintro e w4 ⟨rfl, hb4⟩; have HB4 := Lib.hid (HB3.out.trans (hb4.mono HB3.out.size)); have HC4 := Lib.hid (And.intro ((HKA.out.keep HB4.out).cell 0 (.slice fa NF fc2) rfl) (And.intro ((HKA.out.keep HB4.out).cell 1 (.slice ia NI ic2) rfl) (And.intro ((HKA.out.keep HB4.out).cell 2 (.slice ta NT tc2) rfl) ((HKA.out.keep HB4.out).cell 3 (.int .i64 LT) rfl)))); clear hb4)
      | (go_at_call 19; refine (Go.Proofs.Ytkhdkepjhifffaa.VW.lives_c _).mono ?_; rintro e w5 ⟨rfl, hb5⟩; have HX5 := Lib.hid (bnext (bnext HXA.out HB4.out) hb5); have HC5 := Lib.hid (And.intro ((HKA.out.keep (bnext HB4.out hb5)).cell 0 (.slice fa NF fc2) rfl) (And.intro ((HKA.out.keep (bnext HB4.out hb5)).cell 1 (.slice ia NI ic2) rfl) (And.intro ((HKA.out.keep (bnext HB4.out hb5)).cell 2 (.slice ta NT tc2) rfl) ((HKA.out.keep (bnext HB4.out hb5)).cell 3 (.int .i64 LT) rfl)))); clear hb5))
  go_wp2_with fail
  go_ret
  exact ⟨rfl, HX5.out⟩
end Go.Proofs.Ytkhdkepjhifffaa.verifyCodes
