/- CodeLong: the walk. -/
import Derived.Test.YtmdhpeeippiamaaKI
import Derived.Test.YtmdhpeeippiamaaPL
import Derived.BigQuiet
import Derived.Deep.RegionHeld3
namespace Go.Proofs.Ytmdhpeeippiamaa.codeLong
open Go.RowKit Go.Proofs.Ytmdhpeeippiamaa.RG Go.Proofs.Ytmdhpeeippiamaa.KA Go.Proofs.Ytmdhpeeippiamaa.KB Go.Proofs.Ytmdhpeeippiamaa.KC Go.Proofs.Ytmdhpeeippiamaa.KD Go.Proofs.Ytmdhpeeippiamaa.KF Go.Proofs.Ytmdhpeeippiamaa.KH Go.Proofs.Ytmdhpeeippiamaa.KI Go.Proofs.Ytmdhpeeippiamaa.PA Go.Proofs.Ytmdhpeeippiamaa.PC Go.Proofs.Ytmdhpeeippiamaa.PE Go.Proofs.Ytmdhpeeippiamaa.PL
set_option linter.unusedVariables false
set_option maxRecDepth 100000

/-- A code's four values put into a block. -/
theorem put4 {w : World} {x : Nat} {a b c d a' b' c' d' : Value} {t : TypeId} (h : Bk w x #[a, b, c, d] t) : Bk ((((w.setCell ⟨x, 0, none⟩ a').setCell ⟨x, 1, none⟩ b').setCell ⟨x, 2, none⟩ c').setCell ⟨x, 3, none⟩ d') x #[a', b', c', d'] t :=
  (((h.set 0 a').set 1 b').set 2 c').set 3 d'
theorem few (c : Cd) : (cutCd c).funs.length ≤ 6 ∧ (cutCd c).ints.length ≤ 6 ∧ (cutCd c).texts.length ≤ 6 ∧ ∀ f, f ∈ (cutCd c).funs → f.code.length ≤ 60 := by
  refine ⟨by simp [cutCd]; omega, by simp [cutCd]; omega, by simp [cutCd]; omega, fun f hf => ?_⟩
  obtain ⟨g, _, rfl⟩ := List.mem_map.1 hf
  simp [cutBd]; omega
theorem pre2_step {c : Cd} {i : Nat} {s : By} (h : c.texts[i]? = some s) : (pre2 c (i + 1)).length = (pre2 c i).length + 1 + s.length := by
  unfold pre2
  rw [flat_snoc h]
  simp [encTx]
  omega
theorem pre3_step {c : Cd} {i : Nat} {f : Bd} (h : c.funs[i]? = some f) : (pre3 c (i + 1)).length = (pre3 c i).length + 5 + 5 * f.code.length := by
  unfold pre3
  rw [flat_snoc h]
  rw [← List.append_assoc, List.length_append, encBd_len]
  omega
theorem pre2_zero (c : Cd) : (pre2 c 0).length + 1 = 7 + 8 * c.ints.length := by
  have h : ∀ l : List Int, (l.flatMap (leK 8)).length = 8 * l.length := by
    intro l
    induction l with
    | nil => rfl
    | cons a l ih => rw [List.flatMap_cons, List.length_append, ih, leK_len, List.length_cons]; omega
  unfold pre2 pre1
  rw [List.take_length]
  simp [h]
  omega
theorem pre3_zero (c : Cd) : (pre3 c 0).length = (pre2 c c.texts.length).length + 1 := by
  unfold pre3
  simp
set_option maxHeartbeats 16000000 in
theorem walk (w : World) (c : Cd) (fv iv tv : Value) (h : HasC w (fun _ => True) c fv iv tv) (hl : c.funs.length ≤ maxLen ∧ c.ints.length ≤ maxLen ∧ c.texts.length ≤ maxLen ∧ ∀ f, f ∈ c.funs → f.code.length ≤ maxLen) :
    Calls Try.prog 8 #[.agg #[fv, iv, tv, .int .i64 c.lets]] w fun e w' => e = .returned (.bool true) ∧ Below w.heap.size w w' := by
  obtain ⟨fo, fc, rfl, hfc⟩ := h.funs.val
  obtain ⟨io, ic, rfl, hic⟩ := h.ints.val
  obtain ⟨to_, tc, rfl, htc⟩ := h.texts.val
  obtain ⟨LT, hLT⟩ : ∃ x, Hid (c.lets = x) := ⟨_, Lib.hid rfl⟩
  obtain ⟨X, hX⟩ : ∃ X, Hid (w.heap.size = X) := ⟨_, Lib.hid rfl⟩
  have HCUT := Lib.hid (fun w' (hb : Below w.heap.size w w') => cut_c c _ _ _ w' _ (h.keep hb) hl)
  have hs := few c
  obtain ⟨n1, hn1⟩ : ∃ x, Hid (c.funs.length = x) := ⟨_, Lib.hid rfl⟩
  obtain ⟨n2, hn2⟩ : ∃ x, Hid (c.ints.length = x) := ⟨_, Lib.hid rfl⟩
  obtain ⟨n3, hn3⟩ : ∃ x, Hid (c.texts.length = x) := ⟨_, Lib.hid rfl⟩
  rw [hn1.out, hn2.out, hn3.out] at HCUT ⊢
  unfold CutRes at HCUT
  rw [hLT.out] at HCUT ⊢
  have HK := Lib.hid (new_at w #[.slice fo n1 fc, .slice io n2 ic, .slice to_ n3 tc, .int .i64 LT] 26 hX.out)
  have HX := Lib.hid (balloc w (.cells #[.slice fo n1 fc, .slice io n2 ic, .slice to_ n3 tc, .int .i64 LT] 26))
  clear h hl hfc hic htc hn1 hn2 hn3
  go_enter Try.func8, Try.ntmps8
  go_wp2_with fail
  refine (HCUT.out _ HX.out).mono ?_
  rintro e w2 ⟨f2, i2, t2, rfl, ho2, hb2⟩
  clear HCUT
  obtain ⟨fa, fc2, ef, _⟩ := ho2.funs.val
  obtain ⟨ia, ic2, ei, _⟩ := ho2.ints.val
  obtain ⟨ta, tc2, et, _⟩ := ho2.texts.val
  obtain ⟨NF, hNF⟩ : ∃ x, (cutCd c).funs.length = x := ⟨_, rfl⟩
  obtain ⟨NI, hNI⟩ : ∃ x, (cutCd c).ints.length = x := ⟨_, rfl⟩
  obtain ⟨NT, hNT⟩ : ∃ x, (cutCd c).texts.length = x := ⟨_, rfl⟩
  rw [hNF] at ef
  rw [hNI] at ei
  rw [hNT] at et
  subst ef ei et
  have HN := Lib.hid (And.intro hNF (And.intro hNI hNT))
  clear hNF hNI hNT
  have hk2 := HK.out.keep hb2
  have hX1 : X < (w.alloc (.cells #[.slice fo n1 fc, .slice io n2 ic, .slice to_ n3 tc, .int .i64 LT] 26)).heap.size := by simp [hX.out]
  have HKA := Lib.hid (put4 (a' := .slice fa NF fc2) (b' := .slice ia NI ic2) (c' := .slice ta NT tc2) (d' := .int .i64 LT) hk2)
  have HOA := Lib.hid ((((ho2.other hX1 0 (.slice fa NF fc2)).other hX1 1 (.slice ia NI ic2)).other hX1 2 (.slice ta NT tc2)).other hX1 3 (.int .i64 LT))
  have hxx := bnext HX.out hb2
  have HXA := Lib.hid (show Below w.heap.size w ((((w2.setCell ⟨X, 0, none⟩ (.slice fa NF fc2)).setCell ⟨X, 1, none⟩ (.slice ia NI ic2)).setCell ⟨X, 2, none⟩ (.slice ta NT tc2)).setCell ⟨X, 3, none⟩ (.int .i64 LT)) from (((hxx.setCell (p := ⟨X, 0, none⟩) (by have := hX.out; show w.heap.size ≤ X; omega) _).setCell (p := ⟨X, 1, none⟩) (by have := hX.out; show w.heap.size ≤ X; omega) _).setCell (p := ⟨X, 2, none⟩) (by have := hX.out; show w.heap.size ≤ X; omega) _).setCell (p := ⟨X, 3, none⟩) (by have := hX.out; show w.heap.size ≤ X; omega) _)
  have c0 := hk2.cell 0 _ rfl
  have c1 := hk2.cell 1 _ rfl
  have c2 := hk2.cell 2 _ rfl
  have c3 := hk2.cell 3 _ rfl
  have f0 := hk2.free 0
  have f1 := hk2.free 1
  have f2' := hk2.free 2
  have f3 := hk2.free 3
  have lX := hk2.lt
  clear hk2 hX1 hxx ho2 hb2
  rw [hX.out]
  go_wp2_with fail
  have HS := Lib.hid hs
  clear hs
  generalize hWA : World.setCell _ _ _ = WA at HKA HOA HXA ⊢
  clear hWA
  have hlt0 : (cutCd c).lets = LT := hLT.out
  have HPE := pencode_c (cutCd c) _ _ _ WA _ HOA.out.has ⟨by have := HS.out.1; omega, by have := HS.out.2.1; omega, by have := HS.out.2.2.1; omega, fun f hf => Nat.le_trans (HS.out.2.2.2 f hf) (by decide)⟩
  rw [hlt0] at HPE
  clear hlt0
  refine HPE.mono ?_
  clear HPE
  rintro e w3 (⟨hm, v3, rfl, ho3, hb3⟩ | ⟨hm, rfl, hb3⟩)
  · have HK3 := Lib.hid (HKA.out.keep hb3)
    have HX3 := Lib.hid (bnext HXA.out hb3)
    have HC3 := Lib.hid (HOA.out.has.keep hb3)
    have HFC := Lib.hid (may_facts hm)
    have HPZ := Lib.hid (pre2_zero (cutCd c))
    obtain ⟨va, vcap, rfl, _⟩ := ho3.val
    obtain ⟨c', hc'⟩ : ∃ c', cutCd c = c' := ⟨_, rfl⟩
    rw [hc'] at HN HC3 HFC HPZ ⊢
    rw [← hc'] at HN
    rw [hc'] at HN
    have HL : Hid ((enc c').length = (pre3 c' NF).length) := Lib.hid (by rw [← pre_all, HN.out.1])
    obtain ⟨L, hLe⟩ : ∃ L, Hid ((enc c').length = L) := ⟨_, Lib.hid rfl⟩
    rw [hLe.out] at HL ⊢
    clear hb3 ho3 hm HOA HKA HXA hc'
    have hNI : NI ≤ 120 := by have := HFC.out.ints; have := HN.out.2.1; omega
    have hNT : NT ≤ 120 := by have := HFC.out.texts; have := HN.out.2.2; omega
    have hNF : NF ≤ 120 := by have := HFC.out.funs; have := HN.out.1; omega
    have k1 := HK3.out.cell 1 _ rfl
    have k2 := HK3.out.cell 2 _ rfl
    have k0 := HK3.out.cell 0 _ rfl
    have LV := Lib.hid (fun w => lives_c w)
    have i0 : (0 : Int) ≤ (NI : Int) := by omega
    go_wp2_with fail
    go_loopg [5, 6] NT (fun g nv iv wr => ∃ i : Nat, i + g = NT ∧ iv = .int .i64 (i : Int) ∧ w3 = wr ∧ ∃ n : Int, nv = .int .i64 n ∧ Hid (n = (((pre2 c' i).length + 1 : Nat) : Int)))
    case atStart => exact ⟨0, Nat.zero_add _, rfl, rfl, _, rfl, Lib.hid (by rw [HPZ.out]; have := HN.out.2.1; push_cast; omega)⟩
    case round =>
      obtain ⟨i, hi, rfl, rfl, n, rfl, HNN⟩ := hrel
      by_cases hlt : i < NT
      · obtain ⟨g, rfl⟩ : ∃ g, gk = g + 1 := ⟨gk - 1, by omega⟩
        have hne : c'.texts ≠ [] := by intro e; have := HN.out.2.2; rw [e] at this; simp at this; omega
        obtain ⟨b, off, cap, hve, _, hblt, hcells⟩ := HC3.out.texts.open_ hne
        rw [HN.out.2.2] at hve
        cases hve
        obtain ⟨s, hn⟩ := getElem?_of_lt (l := c'.texts) (k := i) (by rw [HN.out.2.2]; exact hlt)
        obtain ⟨q, hL, _⟩ := hcells i s hn
        have x0 : w3.cell? ⟨b, off + i, none⟩ = some (.string ⟨s.toArray⟩) := by have := hL 0 _ rfl; simpa [TT, Ty.flat] using this
        have HST := Lib.hid (pre2_step hn)
        have hsl := HFC.out.etext s (List.mem_of_getElem? hn)
        have hsz : (ByteArray.mk s.toArray).size = s.length := rfl
        have hnb : 0 ≤ n ∧ n ≤ 10000 := by have := HNN.out; have := pre2_le HFC.out i; omega
        have j0 : (0 : Int) ≤ (i : Int) := by omega
        have j1 : (i : Int) < (NT : Int) := by omega
        clear hcells hL hn hne
        go_wp2_with fail
        go_roundg g
        case rel => exact ⟨i + 1, by omega, by go_num, rfl, _, rfl, Lib.hid (by rw [HST.out]; have := HNN.out; push_cast at this ⊢; omega)⟩
        case measure => omega
      · have hiN : i = NT := by omega
        have HP3 := Lib.hid (show n = (((pre3 c' 0).length : Nat) : Int) from by rw [HNN.out, pre3_zero, HN.out.2.2, hiN])
        go_wp2_with fail
        go_loopg [5, 7] NF (fun g nv iv wr => ∃ i : Nat, i + g = NF ∧ iv = .int .i64 (i : Int) ∧ w3 = wr ∧ ∃ n : Int, nv = .int .i64 n ∧ Hid (n = (((pre3 c' i).length : Nat) : Int)))
        case atStart => exact ⟨0, Nat.zero_add _, rfl, rfl, _, rfl, HP3⟩
        case round =>
          obtain ⟨i3, hi3, rfl, rfl, n3, rfl, HN3⟩ := hrel
          by_cases hlt3 : i3 < NF
          · obtain ⟨g, rfl⟩ : ∃ g, gk = g + 1 := ⟨gk - 1, by omega⟩
            have hne : c'.funs ≠ [] := by intro e; have := HN.out.1; rw [e] at this; simp at this; omega
            obtain ⟨b, off, cap, hve, _, hblt, hcells⟩ := HC3.out.funs.open_ hne
            rw [HN.out.1] at hve
            cases hve
            obtain ⟨f, hf⟩ := getElem?_of_lt (l := c'.funs) (k := i3) (by rw [HN.out.1]; exact hlt3)
            obtain ⟨q, hL, hq⟩ := hcells i3 f hf
            obtain ⟨qv, rfl, hrow⟩ := hasBd_row hq
            obtain ⟨co, cc, rfl, hcc⟩ := hrow.val
            have HST := Lib.hid (pre3_step hf)
            have hfl := (HFC.out.efun f (List.mem_of_getElem? hf)).2.2.2.1
            obtain ⟨NC, hNC⟩ : ∃ x, f.code.length = x := ⟨_, rfl⟩
            rw [hNC] at hfl hL HST
            have x3 : w3.cell? ⟨b, off + i3 * 4 + 3, none⟩ = some (.slice co NC cc) := hL 3 _ rfl
            have hnb : 0 ≤ n3 ∧ n3 ≤ 400000 := by have := HN3.out; have := pre3_le HFC.out i3; omega
            have j0 : (0 : Int) ≤ (i3 : Int) := by omega
            have j1 : (i3 : Int) < (NF : Int) := by omega
            clear hcells hL hf hne hq hrow hNC hcc
            go_wp2_with fail
            go_roundg g
            case rel => exact ⟨i3 + 1, by omega, by go_num, rfl, _, rfl, Lib.hid (by rw [HST.out]; have := HN3.out; push_cast at this ⊢; omega)⟩
            case measure => omega
          · have hiF : i3 = NF := by omega
            have HE := Lib.hid (show n3 = (L : Int) from by rw [HN3.out, hiF, HL.out])
            have e1 : ((L : Int) == n3) = true := by rw [HE.out]; simp
            go_wp2_with (go_at_call 15; refine (LV.out _).mono ?_; rintro e w7 ⟨rfl, hb7⟩; have HX7 := Lib.hid (bnext HX3.out hb7); clear hb7)
            go_ret
            exact ⟨rfl, HX7.out⟩
  · have HK3 := Lib.hid (HKA.out.keep hb3)
    have HX3 := Lib.hid (bnext HXA.out hb3)
    have HC3 := Lib.hid (HOA.out.has.keep hb3)
    have HPM := Lib.hid (pmay_c (cutCd c) _ _ _ w3 _ HC3.out ⟨by have := HS.out.1; omega, by have := HS.out.2.1; omega, by have := HS.out.2.2.1; omega, fun f hf => Nat.le_trans (HS.out.2.2.2 f hf) (by decide)⟩)
    have hlet : (cutCd c).lets = LT := hLT.out
    rw [hm, hlet] at HPM
    have LV := Lib.hid (fun w => lives_c w)
    clear hb3 hm HOA HKA HXA hlet
    have k0 := HK3.out.cell 0 _ rfl
    have k1 := HK3.out.cell 1 _ rfl
    have k2 := HK3.out.cell 2 _ rfl
    have k3 := HK3.out.cell 3 _ rfl
    go_wp2_with (first | (go_at_call 13; refine HPM.out.mono ?_; rintro e w5 ⟨rfl, hb5⟩; have HX5 := Lib.hid (bnext HX3.out hb5); clear hb5) | (go_at_call 15; refine (LV.out _).mono ?_; rintro e w7 ⟨rfl, hb7⟩; have HX7 := Lib.hid (bnext HX5.out hb7); clear hb7))
    go_ret
    exact ⟨rfl, HX7.out⟩
end Go.Proofs.Ytmdhpeeippiamaa.codeLong
