/- CodeEncodes: the walk. -/
import Derived.Test.YtmdhpeeippiamaaKI
import Derived.Test.YtmdhpeeippiamaaPL
import Derived.BigQuiet
import Derived.Deep.RegionHeld3
namespace Go.Proofs.Ytmdhpeeippiamaa.codeEncodes
open Go.RowKit Go.Proofs.Ytmdhpeeippiamaa.RG Go.Proofs.Ytmdhpeeippiamaa.KA Go.Proofs.Ytmdhpeeippiamaa.KB Go.Proofs.Ytmdhpeeippiamaa.KC Go.Proofs.Ytmdhpeeippiamaa.KD Go.Proofs.Ytmdhpeeippiamaa.KF Go.Proofs.Ytmdhpeeippiamaa.KH Go.Proofs.Ytmdhpeeippiamaa.KI Go.Proofs.Ytmdhpeeippiamaa.PA Go.Proofs.Ytmdhpeeippiamaa.PC Go.Proofs.Ytmdhpeeippiamaa.PE Go.Proofs.Ytmdhpeeippiamaa.PL
set_option linter.unusedVariables false
set_option maxRecDepth 100000

/-- A code's four values put into a block. -/
theorem put4 {w : World} {x : Nat} {a b c d a' b' c' d' : Value} {t : TypeId} (h : Bk w x #[a, b, c, d] t) : Bk ((((w.setCell ⟨x, 0, none⟩ a').setCell ⟨x, 1, none⟩ b').setCell ⟨x, 2, none⟩ c').setCell ⟨x, 3, none⟩ d') x #[a', b', c', d'] t :=
  (((h.set 0 a').set 1 b').set 2 c').set 3 d'
theorem few (c : Cd) : (cutCd c).funs.length ≤ 6 ∧ (cutCd c).ints.length ≤ 6 ∧ (cutCd c).texts.length ≤ 6 ∧ ∀ f, f ∈ (cutCd c).funs → f.code.length ≤ 60 := by
  refine ⟨by simp [cutCd]; omega, by simp [cutCd]; omega, by simp [cutCd]; omega, fun f hf => ?_⟩
  obtain ⟨g, _, rfl⟩ := List.mem_map.1 hf
  simp [cutBd]; omega
theorem same_c {w : World} {v v' : Value} {l : By} (h : RowR TB w (fun _ => True) v l) (h' : RowR TB w (fun _ => True) v' l) : Calls Try.prog 12 #[v, v'] w fun e w' => e = .returned (.bool true) ∧ w' = w := by
  have c1 := conv_row h
  have c2 := conv_row h'
  have e1 : ((⟨l.toArray⟩ : ByteArray) == ⟨l.toArray⟩) = true := by rw [MapKept.bytes_beq]
  obtain ⟨a, b, rfl, _⟩ := h.val
  obtain ⟨a', b', rfl, _⟩ := h'.val
  generalize l.length = n at c1 c2 ⊢
  generalize (⟨l.toArray⟩ : ByteArray) = S at c1 c2 e1
  go_enter Try.func12, Try.ntmps12
  go_wp2_with fail
  go_ret
  exact ⟨rfl, rfl⟩
set_option maxHeartbeats 16000000 in
theorem walk (w : World) (c : Cd) (fv iv tv : Value) (h : HasC w (fun _ => True) c fv iv tv) (hl : c.funs.length ≤ maxLen ∧ c.ints.length ≤ maxLen ∧ c.texts.length ≤ maxLen ∧ ∀ f, f ∈ c.funs → f.code.length ≤ maxLen) :
    Calls Try.prog 3 #[.agg #[fv, iv, tv, .int .i64 c.lets]] w fun e w' => e = .returned (.bool true) ∧ Below w.heap.size w w' := by
  obtain ⟨fo, fc, rfl, hfc⟩ := h.funs.val
  obtain ⟨io, ic, rfl, hic⟩ := h.ints.val
  obtain ⟨to_, tc, rfl, htc⟩ := h.texts.val
  obtain ⟨LT, hLT⟩ : ∃ x, Hid (c.lets = x) := ⟨_, Lib.hid rfl⟩
  obtain ⟨X, hX⟩ : ∃ X, Hid (w.heap.size = X) := ⟨_, Lib.hid rfl⟩
  have HCUT := Lib.hid (fun w' (hb : Below w.heap.size w w') => cut_c c _ _ _ w' _ (h.keep hb) hl)
  have hs := few c
  obtain ⟨n1, hn1⟩ : ∃ x, Hid (c.funs.length = x) := ⟨_, Lib.hid rfl⟩
  obtain ⟨n2, hn2⟩ : ∃ x, Hid (c.ints.length = x) := ⟨_, Lib.hid rfl⟩
  obtain ⟨n3, hn3⟩ : ∃ x, Hid (c.texts.length = x) := ⟨_, Lib.hid rfl⟩
  rw [hn1.out, hn2.out, hn3.out] at HCUT ⊢
  unfold CutRes at HCUT
  rw [hLT.out] at HCUT ⊢
  have HK := Lib.hid (new_at w #[.slice fo n1 fc, .slice io n2 ic, .slice to_ n3 tc, .int .i64 LT] 26 hX.out)
  have HX := Lib.hid (balloc w (.cells #[.slice fo n1 fc, .slice io n2 ic, .slice to_ n3 tc, .int .i64 LT] 26))
  clear h hl hfc hic htc hn1 hn2 hn3
  go_enter Try.func3, Try.ntmps3
  go_wp2_with fail
  refine (HCUT.out _ HX.out).mono ?_
  rintro e w2 ⟨f2, i2, t2, rfl, ho2, hb2⟩
  clear HCUT
  obtain ⟨fa, fc2, ef, _⟩ := ho2.funs.val
  obtain ⟨ia, ic2, ei, _⟩ := ho2.ints.val
  obtain ⟨ta, tc2, et, _⟩ := ho2.texts.val
  obtain ⟨NF, hNF⟩ : ∃ x, (cutCd c).funs.length = x := ⟨_, rfl⟩
  obtain ⟨NI, hNI⟩ : ∃ x, (cutCd c).ints.length = x := ⟨_, rfl⟩
  obtain ⟨NT, hNT⟩ : ∃ x, (cutCd c).texts.length = x := ⟨_, rfl⟩
  rw [hNF] at ef
  rw [hNI] at ei
  rw [hNT] at et
  subst ef ei et
  have HN := Lib.hid (And.intro hNF (And.intro hNI hNT))
  clear hNF hNI hNT
  have hk2 := HK.out.keep hb2
  have hX1 : X < (w.alloc (.cells #[.slice fo n1 fc, .slice io n2 ic, .slice to_ n3 tc, .int .i64 LT] 26)).heap.size := by simp [hX.out]
  have HKA := Lib.hid (put4 (a' := .slice fa NF fc2) (b' := .slice ia NI ic2) (c' := .slice ta NT tc2) (d' := .int .i64 LT) hk2)
  have HOA := Lib.hid ((((ho2.other hX1 0 (.slice fa NF fc2)).other hX1 1 (.slice ia NI ic2)).other hX1 2 (.slice ta NT tc2)).other hX1 3 (.int .i64 LT))
  have hxx := bnext HX.out hb2
  have HXA := Lib.hid (show Below w.heap.size w ((((w2.setCell ⟨X, 0, none⟩ (.slice fa NF fc2)).setCell ⟨X, 1, none⟩ (.slice ia NI ic2)).setCell ⟨X, 2, none⟩ (.slice ta NT tc2)).setCell ⟨X, 3, none⟩ (.int .i64 LT)) from (((hxx.setCell (p := ⟨X, 0, none⟩) (by have := hX.out; show w.heap.size ≤ X; omega) _).setCell (p := ⟨X, 1, none⟩) (by have := hX.out; show w.heap.size ≤ X; omega) _).setCell (p := ⟨X, 2, none⟩) (by have := hX.out; show w.heap.size ≤ X; omega) _).setCell (p := ⟨X, 3, none⟩) (by have := hX.out; show w.heap.size ≤ X; omega) _)
  have c0 := hk2.cell 0 _ rfl
  have c1 := hk2.cell 1 _ rfl
  have c2 := hk2.cell 2 _ rfl
  have c3 := hk2.cell 3 _ rfl
  have f0 := hk2.free 0
  have f1 := hk2.free 1
  have f2' := hk2.free 2
  have f3 := hk2.free 3
  have lX := hk2.lt
  clear hk2 hX1 hxx ho2 hb2
  rw [hX.out]
  go_wp2_with fail
  have HS := Lib.hid hs
  clear hs
  generalize hWA : World.setCell _ _ _ = WA at HKA HOA HXA ⊢
  clear hWA
  have hlt0 : (cutCd c).lets = LT := hLT.out
  have HPE := pencode_c (cutCd c) _ _ _ WA _ HOA.out.has ⟨by have := HS.out.1; omega, by have := HS.out.2.1; omega, by have := HS.out.2.2.1; omega, fun f hf => Nat.le_trans (HS.out.2.2.2 f hf) (by decide)⟩
  rw [hlt0] at HPE
  clear hlt0
  refine HPE.mono ?_
  clear HPE
  rintro e w3 (⟨hm, v3, rfl, ho3, hb3⟩ | ⟨hm, rfl, hb3⟩)
  · skip
    have HK3 := Lib.hid (HKA.out.keep hb3)
    have HX3 := Lib.hid (bnext HXA.out hb3)
    have HC3 := Lib.hid (HOA.out.has.keep hb3)
    clear hb3
    have k0 := HK3.out.cell 0 _ rfl
    have k1 := HK3.out.cell 1 _ rfl
    have k2 := HK3.out.cell 2 _ rfl
    have k3 := HK3.out.cell 3 _ rfl
    go_wp2_with fail
    have hlt0 : (cutCd c).lets = LT := hLT.out
    have HPE := encode_c (cutCd c) _ _ _ w3 _ HC3.out ⟨by have := HS.out.1; omega, by have := HS.out.2.1; omega, by have := HS.out.2.2.1; omega, fun f hf => Nat.le_trans (HS.out.2.2.2 f hf) (by decide)⟩
    rw [hlt0] at HPE
    clear hlt0
    refine HPE.mono ?_
    clear HPE
    rintro e w4 (⟨hm2, v4, rfl, ho4, hb4⟩ | ⟨hm2, rfl, hb4⟩)
    · skip
      have HK4 := Lib.hid (HK3.out.keep hb4)
      have HX4 := Lib.hid (bnext HX3.out hb4)
      have HC4 := Lib.hid (HC3.out.keep hb4)
      have HR3 := Lib.hid ((ho3.keep hb4).row.weak (fun _ _ _ => trivial))
      have HR4 := Lib.hid (ho4.row.weak (fun _ _ _ => trivial))
      clear hb4 k0 k1 k2 k3
      go_wp2_with fail
      refine (same_c HR3.out HR4.out).mono ?_
      rintro e w5 ⟨rfl, rfl⟩
      obtain ⟨w4, hw4⟩ : ∃ w4, w4 = w5 := ⟨_, rfl⟩
      rw [← hw4] at HK4 HX4 HC4 ⊢
      clear hw4
      have HPM := Lib.hid (fun w' (hb : Below w4.heap.size w4 w') => pmay_c (cutCd c) _ _ _ w' _ (HC4.out.keep hb) ⟨by have := HS.out.1; omega, by have := HS.out.2.1; omega, by have := HS.out.2.2.1; omega, fun f hf => Nat.le_trans (HS.out.2.2.2 f hf) (by decide)⟩)
      have HRM := Lib.hid (fun w' (hb : Below w4.heap.size w4 w') => may_c (cutCd c) _ _ _ w' _ (HC4.out.keep hb) ⟨by have := HS.out.1; omega, by have := HS.out.2.1; omega, by have := HS.out.2.2.1; omega, fun f hf => Nat.le_trans (HS.out.2.2.2 f hf) (by decide)⟩)
      rw [hm] at HPM HRM
      have hlet : (cutCd c).lets = LT := hLT.out
      rw [hlet] at HPM HRM
      clear hlet hm hm2
      have q0 := HK4.out.cell 0 _ rfl
      have q1 := HK4.out.cell 1 _ rfl
      have q2 := HK4.out.cell 2 _ rfl
      have q3 := HK4.out.cell 3 _ rfl
      go_wp2_with fail
      go_region_held3 (fun w' => w'.cell? ⟨X, 0, none⟩ = some (.slice fa NF fc2) ∧ w'.cell? ⟨X, 1, none⟩ = some (.slice ia NI ic2) ∧ w'.cell? ⟨X, 2, none⟩ = some (.slice ta NT tc2) ∧ w'.cell? ⟨X, 3, none⟩ = some (.int .i64 LT)) (first | with_reducible exact ⟨hk5.out.cell 0 _ rfl, hk5.out.cell 1 _ rfl, hk5.out.cell 2 _ rfl, hk5.out.cell 3 _ rfl⟩ | with_reducible exact ⟨hk6.out.cell 0 _ rfl, hk6.out.cell 1 _ rfl, hk6.out.cell 2 _ rfl, hk6.out.cell 3 _ rfl⟩ | with_reducible exact ⟨hk7.out.cell 0 _ rfl, hk7.out.cell 1 _ rfl, hk7.out.cell 2 _ rfl, hk7.out.cell 3 _ rfl⟩ | go_keep)
        (first
          | (go_at_call 13; refine (HPM.out _ (bdr _)).mono ?_; rintro e w5 ⟨rfl, hb5⟩; have hx5 := Lib.hid (bdrew hb5); have hk5 := Lib.hid ((HK4.out.drew).keep hb5); clear hb5)
          | (go_at_call 14; refine (HRM.out _ hx5.out).mono ?_; rintro e w6 ⟨rfl, hb6⟩; have hx6 := Lib.hid (bnext hx5.out hb6); have hk6 := Lib.hid (hk5.out.keep hb6); clear hb6)
          | (go_at_call 15; refine (lives_c _).mono ?_; rintro e w7 ⟨rfl, hb7⟩; have hx7 := Lib.hid (bnext hx6.out hb7); have hk7 := Lib.hid (hk6.out.keep hb7); clear hb7))
      go_wp2_with fail
      go_ret
      exact ⟨rfl, bnext HX4.out hx7.out⟩
    · rw [hm] at hm2; cases hm2
  · skip
    have HK3 := Lib.hid (HKA.out.keep hb3)
    have HX3 := Lib.hid (bnext HXA.out hb3)
    have HC3 := Lib.hid (HOA.out.has.keep hb3)
    clear hb3
    have k0 := HK3.out.cell 0 _ rfl
    have k1 := HK3.out.cell 1 _ rfl
    have k2 := HK3.out.cell 2 _ rfl
    have k3 := HK3.out.cell 3 _ rfl
    go_wp2_with fail
    have hlt0 : (cutCd c).lets = LT := hLT.out
    have HPE := encode_c (cutCd c) _ _ _ w3 _ HC3.out ⟨by have := HS.out.1; omega, by have := HS.out.2.1; omega, by have := HS.out.2.2.1; omega, fun f hf => Nat.le_trans (HS.out.2.2.2 f hf) (by decide)⟩
    rw [hlt0] at HPE
    clear hlt0
    refine HPE.mono ?_
    clear HPE
    rintro e w4 (⟨hm2, v4, rfl, ho4, hb4⟩ | ⟨hm2, rfl, hb4⟩)
    · rw [hm] at hm2; cases hm2
    · skip
      have HK4 := Lib.hid (HK3.out.keep hb4)
      have HX4 := Lib.hid (bnext HX3.out hb4)
      have HC4 := Lib.hid (HC3.out.keep hb4)
      have HR3 := Lib.hid (show RowR TB w4 (fun _ => True) (.slice none 0 0) [] from rowR_nil _ _)
      have HR4 := Lib.hid (show RowR TB w4 (fun _ => True) (.slice none 0 0) [] from rowR_nil _ _)
      clear hb4 k0 k1 k2 k3
      go_wp2_with fail
      refine (same_c HR3.out HR4.out).mono ?_
      rintro e w5 ⟨rfl, rfl⟩
      obtain ⟨w4, hw4⟩ : ∃ w4, w4 = w5 := ⟨_, rfl⟩
      rw [← hw4] at HK4 HX4 HC4 ⊢
      clear hw4
      have HPM := Lib.hid (fun w' (hb : Below w4.heap.size w4 w') => pmay_c (cutCd c) _ _ _ w' _ (HC4.out.keep hb) ⟨by have := HS.out.1; omega, by have := HS.out.2.1; omega, by have := HS.out.2.2.1; omega, fun f hf => Nat.le_trans (HS.out.2.2.2 f hf) (by decide)⟩)
      have HRM := Lib.hid (fun w' (hb : Below w4.heap.size w4 w') => may_c (cutCd c) _ _ _ w' _ (HC4.out.keep hb) ⟨by have := HS.out.1; omega, by have := HS.out.2.1; omega, by have := HS.out.2.2.1; omega, fun f hf => Nat.le_trans (HS.out.2.2.2 f hf) (by decide)⟩)
      rw [hm] at HPM HRM
      have hlet : (cutCd c).lets = LT := hLT.out
      rw [hlet] at HPM HRM
      clear hlet hm hm2
      have q0 := HK4.out.cell 0 _ rfl
      have q1 := HK4.out.cell 1 _ rfl
      have q2 := HK4.out.cell 2 _ rfl
      have q3 := HK4.out.cell 3 _ rfl
      go_wp2_with fail
      go_region_held3 (fun w' => w'.cell? ⟨X, 0, none⟩ = some (.slice fa NF fc2) ∧ w'.cell? ⟨X, 1, none⟩ = some (.slice ia NI ic2) ∧ w'.cell? ⟨X, 2, none⟩ = some (.slice ta NT tc2) ∧ w'.cell? ⟨X, 3, none⟩ = some (.int .i64 LT)) (first | with_reducible exact ⟨hk5.out.cell 0 _ rfl, hk5.out.cell 1 _ rfl, hk5.out.cell 2 _ rfl, hk5.out.cell 3 _ rfl⟩ | with_reducible exact ⟨hk6.out.cell 0 _ rfl, hk6.out.cell 1 _ rfl, hk6.out.cell 2 _ rfl, hk6.out.cell 3 _ rfl⟩ | with_reducible exact ⟨hk7.out.cell 0 _ rfl, hk7.out.cell 1 _ rfl, hk7.out.cell 2 _ rfl, hk7.out.cell 3 _ rfl⟩ | go_keep)
        (first
          | (go_at_call 13; refine (HPM.out _ (bdr _)).mono ?_; rintro e w5 ⟨rfl, hb5⟩; have hx5 := Lib.hid (bdrew hb5); have hk5 := Lib.hid ((HK4.out.drew).keep hb5); clear hb5)
          | (go_at_call 14; refine (HRM.out _ hx5.out).mono ?_; rintro e w6 ⟨rfl, hb6⟩; have hx6 := Lib.hid (bnext hx5.out hb6); have hk6 := Lib.hid (hk5.out.keep hb6); clear hb6)
          | (go_at_call 15; refine (lives_c _).mono ?_; rintro e w7 ⟨rfl, hb7⟩; have hx7 := Lib.hid (bnext hx6.out hb7); have hk7 := Lib.hid (hk6.out.keep hb7); clear hb7))
      go_wp2_with fail
      go_ret
      exact ⟨rfl, bnext HX4.out hx7.out⟩
end Go.Proofs.Ytmdhpeeippiamaa.codeEncodes
