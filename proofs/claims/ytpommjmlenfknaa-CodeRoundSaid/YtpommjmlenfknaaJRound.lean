/- CodeRound: the walk. -/
import Derived.Test.YtpommjmlenfknaaJDecodes
import Derived.Test.YtpommjmlenfknaaKI
namespace Go.Proofs.Ytpommjmlenfknaa.codeRound
open Go.RowKit Go.Proofs.Ytpommjmlenfknaa.RG Go.Proofs.Ytpommjmlenfknaa.KA Go.Proofs.Ytpommjmlenfknaa.KB Go.Proofs.Ytpommjmlenfknaa.KC Go.Proofs.Ytpommjmlenfknaa.KD Go.Proofs.Ytpommjmlenfknaa.KG Go.Proofs.Ytpommjmlenfknaa.KF Go.Proofs.Ytpommjmlenfknaa.KH Go.Proofs.Ytpommjmlenfknaa.KI Go.Proofs.Ytpommjmlenfknaa.PE Go.Proofs.Ytpommjmlenfknaa.PL Go.Proofs.Ytpommjmlenfknaa.QC Go.Proofs.Ytpommjmlenfknaa.QD Go.Proofs.Ytpommjmlenfknaa.QF Go.Proofs.Ytpommjmlenfknaa.QL Go.Proofs.Ytpommjmlenfknaa.codeDecodes
set_option linter.unusedVariables false
set_option maxRecDepth 100000
set_option maxRecDepth 100000

/-- A code's four values put into a block. -/
theorem put4 {w : World} {x : Nat} {a b c d a' b' c' d' : Value} {t : TypeId} (h : Bk w x #[a, b, c, d] t) : Bk ((((w.setCell ⟨x, 0, none⟩ a').setCell ⟨x, 1, none⟩ b').setCell ⟨x, 2, none⟩ c').setCell ⟨x, 3, none⟩ d') x #[a', b', c', d'] t :=
  (((h.set 0 a').set 1 b').set 2 c').set 3 d'
theorem few (c : Cd) : (cutCd c).funs.length ≤ 100000 ∧ (cutCd c).ints.length ≤ 100000 ∧ (cutCd c).texts.length ≤ 100000 ∧ ∀ f, f ∈ (cutCd c).funs → f.code.length ≤ 100000 := by
  refine ⟨by simp [cutCd]; omega, by simp [cutCd]; omega, by simp [cutCd]; omega, fun f hf => ?_⟩
  obtain ⟨g, _, rfl⟩ := List.mem_map.1 hf
  simp [cutBd]; omega
theorem wide {c : Cd} (h : c.funs.length ≤ 100000 ∧ c.ints.length ≤ 100000 ∧ c.texts.length ≤ 100000 ∧ ∀ f, f ∈ c.funs → f.code.length ≤ 100000) : c.funs.length ≤ 100000000000 ∧ c.ints.length ≤ 100000000000 ∧ c.texts.length ≤ 100000000000 ∧ ∀ f, f ∈ c.funs → f.code.length ≤ 100000000000 :=
  ⟨by omega, by omega, by omega, fun f hf => Nat.le_trans (h.2.2.2 f hf) (by decide)⟩
theorem bytes_same {w : World} {v v' : Value} {l : By} (h : RowR TB w (fun _ => True) v l) (h' : RowR TB w (fun _ => True) v' l) : Calls Try.prog 16 #[v, v'] w fun e w' => e = .returned (.bool true) ∧ w = w' := by
  have c1 := conv_row h
  have c2 := conv_row h'
  have e1 : ((⟨l.toArray⟩ : ByteArray) == ⟨l.toArray⟩) = true := by rw [MapKept.bytes_beq]
  obtain ⟨a, b, rfl, _⟩ := h.val
  obtain ⟨a', b', rfl, _⟩ := h'.val
  generalize l.length = n at c1 c2 ⊢
  generalize (⟨l.toArray⟩ : ByteArray) = S at c1 c2 e1
  go_enter Try.func16, Try.ntmps16
  go_wp2_with fail
  go_ret
  exact ⟨rfl, rfl⟩
theorem enc_few {c : Cd} (h : mayB c = true) : (enc c).length ≤ 1000000 := by
  rw [← pre_all]
  exact Nat.le_trans (pre3_le (may_facts h) _) (by decide)
/-- The bytes that are looked at: all, or the first 1500. -/
def Cases (w : World) (v : Value) (l l1 : By) (N : Nat) : Prop :=
  (∃ b off cap, v = .slice (some ⟨b, off, none⟩) N cap ∧ (N : Int) > 1500 ∧ (1500 : Int) ≤ (cap : Int) ∧ RowR TB w (fun _ => True) (.slice (some ⟨b, off, none⟩) 1500 cap) l1) ∨ (∃ ao cap, v = .slice ao N cap ∧ ¬ (N : Int) > 1500 ∧ RowR TB w (fun _ => True) (.slice ao N cap) l1)
theorem cases_of {w : World} {v : Value} {l : By} (h : RowR TB w (fun _ => True) v l) : ∃ l1, Cases w v l l1 l.length ∧ l1.length ≤ 1000000 := by
  by_cases hk : 1500 < l.length
  · obtain ⟨b, off, cap, hv, hc, _⟩ := h.open_ (by intro e; rw [e] at hk; simp at hk)
    subst hv
    exact ⟨l.take 1500, .inl ⟨b, off, cap, rfl, by omega, by omega, first_row h hk hc⟩, by rw [List.length_take]; omega⟩
  · obtain ⟨ao, cap, hv, hc⟩ := h.val
    subst hv
    exact ⟨l, .inr ⟨ao, cap, rfl, by omega, h⟩, by omega⟩
set_option maxHeartbeats 32000000 in
theorem walk (w : World) (c : Cd) (fv iv tv : Value) (h : HasC w (fun _ => True) c fv iv tv) (hl : c.funs.length ≤ maxLen ∧ c.ints.length ≤ maxLen ∧ c.texts.length ≤ maxLen ∧ ∀ f, f ∈ c.funs → f.code.length ≤ maxLen) (bv : Value) (l : By) (hrow : RowR TB w (fun _ => True) bv l) (hln : l.length ≤ maxLen) :
    Calls Try.prog 4 #[.agg #[fv, iv, tv, .int .i64 c.lets], bv] w fun e w' => e = .returned (.bool true) ∧ Below w.heap.size w w' := by
  obtain ⟨l1, hcs, hl1⟩ := cases_of hrow
  have HCS := Lib.hid hcs
  have HL1 := Lib.hid hl1
  obtain ⟨N, hN⟩ : ∃ N, Hid (l.length = N) := ⟨_, Lib.hid rfl⟩
  rw [hN.out] at HCS
  obtain ⟨bo, bc, ebv, _⟩ := hrow.val
  rw [hN.out] at ebv
  subst ebv
  obtain ⟨fo, fc, rfl, hfc⟩ := h.funs.val
  obtain ⟨io, ic, rfl, hic⟩ := h.ints.val
  obtain ⟨to_, tc, rfl, htc⟩ := h.texts.val
  obtain ⟨LT, hLT⟩ : ∃ x, Hid (c.lets = x) := ⟨_, Lib.hid rfl⟩
  obtain ⟨X, hX⟩ : ∃ X, Hid (w.heap.size = X) := ⟨_, Lib.hid rfl⟩
  have HCUT := Lib.hid (fun w' (hb : Below w.heap.size w w') => cut_c c _ _ _ w' _ (h.keep hb) hl)
  have hs := few c
  obtain ⟨n1, hn1⟩ : ∃ x, Hid (c.funs.length = x) := ⟨_, Lib.hid rfl⟩
  obtain ⟨n2, hn2⟩ : ∃ x, Hid (c.ints.length = x) := ⟨_, Lib.hid rfl⟩
  obtain ⟨n3, hn3⟩ : ∃ x, Hid (c.texts.length = x) := ⟨_, Lib.hid rfl⟩
  rw [hn1.out, hn2.out, hn3.out] at HCUT ⊢
  unfold CutRes at HCUT
  rw [hLT.out] at HCUT ⊢
  have HK := Lib.hid (new_at w #[.slice fo n1 fc, .slice io n2 ic, .slice to_ n3 tc, .int .i64 LT] 27 hX.out)
  have HX := Lib.hid (balloc w (.cells #[.slice fo n1 fc, .slice io n2 ic, .slice to_ n3 tc, .int .i64 LT] 27))
  clear h hl hfc hic htc hn1 hn2 hn3 hcs hl1 hrow hln
  go_enter Try.func4, Try.ntmps4
  go_wp2_with fail
  refine (HCUT.out _ HX.out).mono ?_
  rintro e w2 ⟨f2, i2, t2, rfl, ho2, hb2⟩
  clear HCUT
  obtain ⟨fa, fc2, ef, _⟩ := ho2.funs.val
  obtain ⟨ia, ic2, ei, _⟩ := ho2.ints.val
  obtain ⟨ta, tc2, et, _⟩ := ho2.texts.val
  obtain ⟨NF, hNF⟩ : ∃ x, (cutCd c).funs.length = x := ⟨_, rfl⟩
  obtain ⟨NI, hNI⟩ : ∃ x, (cutCd c).ints.length = x := ⟨_, rfl⟩
  obtain ⟨NT, hNT⟩ : ∃ x, (cutCd c).texts.length = x := ⟨_, rfl⟩
  rw [hNF] at ef
  rw [hNI] at ei
  rw [hNT] at et
  subst ef ei et
  have HN := Lib.hid (And.intro hNF (And.intro hNI hNT))
  clear hNF hNI hNT
  have hk2 := HK.out.keep hb2
  have hX1 : X < (w.alloc (.cells #[.slice fo n1 fc, .slice io n2 ic, .slice to_ n3 tc, .int .i64 LT] 27)).heap.size := by simp [hX.out]
  have HKA := Lib.hid (put4 (a' := .slice fa NF fc2) (b' := .slice ia NI ic2) (c' := .slice ta NT tc2) (d' := .int .i64 LT) hk2)
  have HOA := Lib.hid ((((ho2.other hX1 0 (.slice fa NF fc2)).other hX1 1 (.slice ia NI ic2)).other hX1 2 (.slice ta NT tc2)).other hX1 3 (.int .i64 LT))
  have hxx := bnext HX.out hb2
  have HXA := Lib.hid (show Below w.heap.size w ((((w2.setCell ⟨X, 0, none⟩ (.slice fa NF fc2)).setCell ⟨X, 1, none⟩ (.slice ia NI ic2)).setCell ⟨X, 2, none⟩ (.slice ta NT tc2)).setCell ⟨X, 3, none⟩ (.int .i64 LT)) from (((hxx.setCell (p := ⟨X, 0, none⟩) (by have := hX.out; show w.heap.size ≤ X; omega) _).setCell (p := ⟨X, 1, none⟩) (by have := hX.out; show w.heap.size ≤ X; omega) _).setCell (p := ⟨X, 2, none⟩) (by have := hX.out; show w.heap.size ≤ X; omega) _).setCell (p := ⟨X, 3, none⟩) (by have := hX.out; show w.heap.size ≤ X; omega) _)
  have c0 := hk2.cell 0 _ rfl
  have c1 := hk2.cell 1 _ rfl
  have c2 := hk2.cell 2 _ rfl
  have c3 := hk2.cell 3 _ rfl
  have f0 := hk2.free 0
  have f1 := hk2.free 1
  have f2' := hk2.free 2
  have f3 := hk2.free 3
  have lX := hk2.lt
  clear hk2 hX1 hxx ho2 hb2
  rw [hX.out]
  go_wp2_with fail
  have HS := Lib.hid hs
  clear hs c0 c1 c2 c3 f0 f1 f2' f3 lX
  generalize hWA : World.setCell _ _ _ = WA at HKA HOA HXA ⊢
  clear hWA
  have hlt0 : (cutCd c).lets = LT := hLT.out
  have HPE := pencode_c (cutCd c) _ _ _ WA _ HOA.out.has (wide HS.out)
  rw [hlt0] at HPE
  clear hlt0
  refine HPE.mono ?_
  clear HPE
  rintro e w3 (⟨hm, v3, rfl, ho3, hb3⟩ | ⟨hm, rfl, hb3⟩)
  · skip
    have HK3 := Lib.hid (HKA.out.keep hb3)
    have HX3 := Lib.hid (bnext HXA.out hb3)
    have HC3 := Lib.hid (HOA.out.keep hb3).has
    have HR3 := Lib.hid (ho3.row.weak (S' := fun _ => True) (fun _ _ _ => trivial))
    have HLE := Lib.hid (enc_few hm)
    have HFU := Lib.hid (decP_full hm)
    obtain ⟨va, vcap, rfl, _⟩ := ho3.val
    obtain ⟨NE, hNE⟩ : ∃ n, Hid ((enc (cutCd c)).length = n) := ⟨_, Lib.hid rfl⟩
    rw [hNE.out] at HR3 ⊢
    clear hb3 ho3 hm HOA HKA HXA
    have k0 := HK3.out.cell 0 _ rfl
    have k1 := HK3.out.cell 1 _ rfl
    have k2 := HK3.out.cell 2 _ rfl
    have k3 := HK3.out.cell 3 _ rfl
    go_wp2_with fail
    refine (pdecode_c _ (enc (cutCd c)) w3 HR3.out HLE.out).mono ?_
    rintro e w4 ⟨hb4, (⟨c2, fv2, iv2, tv2, hdc2, rfl, ho4⟩ | ⟨hdc2, rfl⟩)⟩
    · skip
      obtain rfl : cutCd c = c2 := by have := HFU.out; rw [this] at hdc2; exact Option.some.inj hdc2
      obtain ⟨fo2, fcc, efo, _⟩ := ho4.funs.val
      obtain ⟨io2, icc, eio, _⟩ := ho4.ints.val
      obtain ⟨to2, tcc, eto, _⟩ := ho4.texts.val
      rw [HN.out.1] at efo
      rw [HN.out.2.1] at eio
      rw [HN.out.2.2] at eto
      subst efo eio eto
      have hlt0 : (cutCd c).lets = LT := hLT.out
      rw [hlt0]
      have HK4 := Lib.hid ((HK3.out.keep hb4).alloc (.cells #[.slice fo2 NF fcc, .slice io2 NI icc, .slice to2 NT tcc, .int .i64 LT] 27))
      have HY4 := Lib.hid (Bk.new w4 #[.slice fo2 NF fcc, .slice io2 NI icc, .slice to2 NT tcc, .int .i64 LT] 27)
      have HX4 := Lib.hid (bnext HX3.out (bnext hb4 (balloc w4 (.cells #[.slice fo2 NF fcc, .slice io2 NI icc, .slice to2 NT tcc, .int .i64 LT] 27))))
      have HA := Lib.hid (HC3.out.keep (bnext hb4 (balloc w4 (.cells #[.slice fo2 NF fcc, .slice io2 NI icc, .slice to2 NT tcc, .int .i64 LT] 27))))
      have HB := Lib.hid (ho4.keep (balloc w4 (.cells #[.slice fo2 NF fcc, .slice io2 NI icc, .slice to2 NT tcc, .int .i64 LT] 27))).has
      have HS0 := same_c (cutCd c) _ _ _ _ _ _ _ _ _ HA.out HB.out HS.out
      rw [hlt0] at HS0
      have HSM := Lib.hid HS0
      clear HS0 hlt0 hb4 hdc2 ho4 k0 k1 k2 k3
      have x0 := HK4.out.cell 0 _ rfl
      have x1 := HK4.out.cell 1 _ rfl
      have x2 := HK4.out.cell 2 _ rfl
      have x3 := HK4.out.cell 3 _ rfl
      have y0 := HY4.out.cell 0 _ rfl
      have y1 := HY4.out.cell 1 _ rfl
      have y2 := HY4.out.cell 2 _ rfl
      have y3 := HY4.out.cell 3 _ rfl
      go_wp2_with fail
      refine HSM.out.mono ?_
      rintro e wT ⟨rfl, hb5⟩
      have HXT := Lib.hid (bnext HX4.out hb5)
      clear hb5 x0 x1 x2 x3 y0 y1 y2 y3
      rcases HCS.out with ⟨b, off, cap, hbv, i1, i2, hr1⟩ | ⟨ao, cap, hbv, i1, hr1⟩
      · cases hbv
        have HR1 := Lib.hid hr1
        clear hr1
        go_wp2_with fail
        refine (pdecode_c _ l1 wT (HR1.out.keep HXT.out) HL1.out).mono ?_
        rintro e wD ⟨hbD, (⟨cd, gv, jv, sv, hdc, rfl, hoD⟩ | ⟨hdc, rfl⟩)⟩
        · skip
          obtain ⟨go, gc, egv, _⟩ := hoD.funs.val
          obtain ⟨jo, jc, ejv, _⟩ := hoD.ints.val
          obtain ⟨so, sc, esv, _⟩ := hoD.texts.val
          obtain ⟨M1, hM1⟩ : ∃ n, Hid (cd.funs.length = n) := ⟨_, Lib.hid rfl⟩
          obtain ⟨M2, hM2⟩ : ∃ n, Hid (cd.ints.length = n) := ⟨_, Lib.hid rfl⟩
          obtain ⟨M3, hM3⟩ : ∃ n, Hid (cd.texts.length = n) := ⟨_, Lib.hid rfl⟩
          obtain ⟨LD, hLD⟩ : ∃ n, Hid (cd.lets = n) := ⟨_, Lib.hid rfl⟩
          rw [hM1.out] at egv
          rw [hM2.out] at ejv
          rw [hM3.out] at esv
          subst egv ejv esv
          rw [hLD.out]
          have HKD := Lib.hid (Bk.new wD #[.slice go M1 gc, .slice jo M2 jc, .slice so M3 sc, .int .i64 LD] 27)
          have HXD := Lib.hid (bnext HXT.out (bnext hbD (balloc wD (.cells #[.slice go M1 gc, .slice jo M2 jc, .slice so M3 sc, .int .i64 LD] 27))))
          have HOD := Lib.hid (hoD.keep (balloc wD (.cells #[.slice go M1 gc, .slice jo M2 jc, .slice so M3 sc, .int .i64 LD] 27))).has
          have HSD := Lib.hid (sizes (decP_sound hdc).1)
          have HSND := Lib.hid (decP_sound hdc)
          have y0 := HKD.out.cell 0 _ rfl
          have y1 := HKD.out.cell 1 _ rfl
          have y2 := HKD.out.cell 2 _ rfl
          have y3 := HKD.out.cell 3 _ rfl
          clear hbD hoD hdc
          have HPE := pencode_c cd _ _ _ (wD.alloc (.cells #[.slice go M1 gc, .slice jo M2 jc, .slice so M3 sc, .int .i64 LD] 27)) _ HOD.out (wide HSD.out)
          rw [hLD.out] at HPE
          have HPE := Lib.hid HPE
          go_wp2_with fail
          refine HPE.out.mono ?_
          clear HPE
          rintro e wE (⟨hmE, vE, rfl, hoE, hbE⟩ | ⟨hmE, rfl, hbE⟩)
          · skip
            have HXE := Lib.hid (bnext HXD.out hbE)
            have HRE0 := hoE.row.weak (S' := fun _ => True) (fun _ _ _ => trivial)
            rw [HSND.out.2] at HRE0
            have HRE := Lib.hid HRE0
            clear hmE hoE hbE HRE0 y0 y1 y2 y3
            go_wp2_with fail
            refine (bytes_same HRE.out (HR1.out.keep HXE.out)).mono ?_
            rintro e w5 ⟨rfl, rfl⟩
            go_wp2_with (go_at_call 13; refine (lives_c _).mono ?_; rintro e w7 ⟨rfl, hb7⟩; have HX7 := Lib.hid (bnext HXE.out hb7); clear hb7)
            go_ret
            exact ⟨rfl, HX7.out⟩
          · rw [HSND.out.1] at hmE; cases hmE
        · skip
          have HXD := Lib.hid (bnext HXT.out (bnext hbD (balloc wD (.cells #[.slice none 0 0, .slice none 0 0, .slice none 0 0, .int .i64 0] 27))))
          clear hbD hdc
          go_wp2_with (go_at_call 13; refine (lives_c _).mono ?_; rintro e w7 ⟨rfl, hb7⟩; have HX7 := Lib.hid (bnext HXD.out hb7); clear hb7)
          go_ret
          exact ⟨rfl, HX7.out⟩
      · cases hbv
        have HR1 := Lib.hid hr1
        clear hr1
        have i2 : decide ((N : Int) > 1500) = false := by simp; omega
        clear i1
        go_wp2_with fail
        refine (pdecode_c _ l1 wT (HR1.out.keep HXT.out) HL1.out).mono ?_
        rintro e wD ⟨hbD, (⟨cd, gv, jv, sv, hdc, rfl, hoD⟩ | ⟨hdc, rfl⟩)⟩
        · skip
          obtain ⟨go, gc, egv, _⟩ := hoD.funs.val
          obtain ⟨jo, jc, ejv, _⟩ := hoD.ints.val
          obtain ⟨so, sc, esv, _⟩ := hoD.texts.val
          obtain ⟨M1, hM1⟩ : ∃ n, Hid (cd.funs.length = n) := ⟨_, Lib.hid rfl⟩
          obtain ⟨M2, hM2⟩ : ∃ n, Hid (cd.ints.length = n) := ⟨_, Lib.hid rfl⟩
          obtain ⟨M3, hM3⟩ : ∃ n, Hid (cd.texts.length = n) := ⟨_, Lib.hid rfl⟩
          obtain ⟨LD, hLD⟩ : ∃ n, Hid (cd.lets = n) := ⟨_, Lib.hid rfl⟩
          rw [hM1.out] at egv
          rw [hM2.out] at ejv
          rw [hM3.out] at esv
          subst egv ejv esv
          rw [hLD.out]
          have HKD := Lib.hid (Bk.new wD #[.slice go M1 gc, .slice jo M2 jc, .slice so M3 sc, .int .i64 LD] 27)
          have HXD := Lib.hid (bnext HXT.out (bnext hbD (balloc wD (.cells #[.slice go M1 gc, .slice jo M2 jc, .slice so M3 sc, .int .i64 LD] 27))))
          have HOD := Lib.hid (hoD.keep (balloc wD (.cells #[.slice go M1 gc, .slice jo M2 jc, .slice so M3 sc, .int .i64 LD] 27))).has
          have HSD := Lib.hid (sizes (decP_sound hdc).1)
          have HSND := Lib.hid (decP_sound hdc)
          have y0 := HKD.out.cell 0 _ rfl
          have y1 := HKD.out.cell 1 _ rfl
          have y2 := HKD.out.cell 2 _ rfl
          have y3 := HKD.out.cell 3 _ rfl
          clear hbD hoD hdc
          have HPE := pencode_c cd _ _ _ (wD.alloc (.cells #[.slice go M1 gc, .slice jo M2 jc, .slice so M3 sc, .int .i64 LD] 27)) _ HOD.out (wide HSD.out)
          rw [hLD.out] at HPE
          have HPE := Lib.hid HPE
          go_wp2_with fail
          refine HPE.out.mono ?_
          clear HPE
          rintro e wE (⟨hmE, vE, rfl, hoE, hbE⟩ | ⟨hmE, rfl, hbE⟩)
          · skip
            have HXE := Lib.hid (bnext HXD.out hbE)
            have HRE0 := hoE.row.weak (S' := fun _ => True) (fun _ _ _ => trivial)
            rw [HSND.out.2] at HRE0
            have HRE := Lib.hid HRE0
            clear hmE hoE hbE HRE0 y0 y1 y2 y3
            go_wp2_with fail
            refine (bytes_same HRE.out (HR1.out.keep HXE.out)).mono ?_
            rintro e w5 ⟨rfl, rfl⟩
            go_wp2_with (go_at_call 13; refine (lives_c _).mono ?_; rintro e w7 ⟨rfl, hb7⟩; have HX7 := Lib.hid (bnext HXE.out hb7); clear hb7)
            go_ret
            exact ⟨rfl, HX7.out⟩
          · rw [HSND.out.1] at hmE; cases hmE
        · skip
          have HXD := Lib.hid (bnext HXT.out (bnext hbD (balloc wD (.cells #[.slice none 0 0, .slice none 0 0, .slice none 0 0, .int .i64 0] 27))))
          clear hbD hdc
          go_wp2_with (go_at_call 13; refine (lives_c _).mono ?_; rintro e w7 ⟨rfl, hb7⟩; have HX7 := Lib.hid (bnext HXD.out hb7); clear hb7)
          go_ret
          exact ⟨rfl, HX7.out⟩
    · rw [HFU.out] at hdc2; cases hdc2
  · skip
    obtain ⟨wT, hwT⟩ : ∃ wT, wT = w3 := ⟨_, rfl⟩
    rw [← hwT] at hb3 ⊢
    have HXT := Lib.hid (bnext HXA.out hb3)
    clear hb3 hwT hm HOA HKA HXA
    rcases HCS.out with ⟨b, off, cap, hbv, i1, i2, hr1⟩ | ⟨ao, cap, hbv, i1, hr1⟩
    · cases hbv
      have HR1 := Lib.hid hr1
      clear hr1
      go_wp2_with fail
      refine (pdecode_c _ l1 wT (HR1.out.keep HXT.out) HL1.out).mono ?_
      rintro e wD ⟨hbD, (⟨cd, gv, jv, sv, hdc, rfl, hoD⟩ | ⟨hdc, rfl⟩)⟩
      · skip
        obtain ⟨go, gc, egv, _⟩ := hoD.funs.val
        obtain ⟨jo, jc, ejv, _⟩ := hoD.ints.val
        obtain ⟨so, sc, esv, _⟩ := hoD.texts.val
        obtain ⟨M1, hM1⟩ : ∃ n, Hid (cd.funs.length = n) := ⟨_, Lib.hid rfl⟩
        obtain ⟨M2, hM2⟩ : ∃ n, Hid (cd.ints.length = n) := ⟨_, Lib.hid rfl⟩
        obtain ⟨M3, hM3⟩ : ∃ n, Hid (cd.texts.length = n) := ⟨_, Lib.hid rfl⟩
        obtain ⟨LD, hLD⟩ : ∃ n, Hid (cd.lets = n) := ⟨_, Lib.hid rfl⟩
        rw [hM1.out] at egv
        rw [hM2.out] at ejv
        rw [hM3.out] at esv
        subst egv ejv esv
        rw [hLD.out]
        have HKD := Lib.hid (Bk.new wD #[.slice go M1 gc, .slice jo M2 jc, .slice so M3 sc, .int .i64 LD] 27)
        have HXD := Lib.hid (bnext HXT.out (bnext hbD (balloc wD (.cells #[.slice go M1 gc, .slice jo M2 jc, .slice so M3 sc, .int .i64 LD] 27))))
        have HOD := Lib.hid (hoD.keep (balloc wD (.cells #[.slice go M1 gc, .slice jo M2 jc, .slice so M3 sc, .int .i64 LD] 27))).has
        have HSD := Lib.hid (sizes (decP_sound hdc).1)
        have HSND := Lib.hid (decP_sound hdc)
        have y0 := HKD.out.cell 0 _ rfl
        have y1 := HKD.out.cell 1 _ rfl
        have y2 := HKD.out.cell 2 _ rfl
        have y3 := HKD.out.cell 3 _ rfl
        clear hbD hoD hdc
        have HPE := pencode_c cd _ _ _ (wD.alloc (.cells #[.slice go M1 gc, .slice jo M2 jc, .slice so M3 sc, .int .i64 LD] 27)) _ HOD.out (wide HSD.out)
        rw [hLD.out] at HPE
        have HPE := Lib.hid HPE
        go_wp2_with fail
        refine HPE.out.mono ?_
        clear HPE
        rintro e wE (⟨hmE, vE, rfl, hoE, hbE⟩ | ⟨hmE, rfl, hbE⟩)
        · skip
          have HXE := Lib.hid (bnext HXD.out hbE)
          have HRE0 := hoE.row.weak (S' := fun _ => True) (fun _ _ _ => trivial)
          rw [HSND.out.2] at HRE0
          have HRE := Lib.hid HRE0
          clear hmE hoE hbE HRE0 y0 y1 y2 y3
          go_wp2_with fail
          refine (bytes_same HRE.out (HR1.out.keep HXE.out)).mono ?_
          rintro e w5 ⟨rfl, rfl⟩
          go_wp2_with (go_at_call 13; refine (lives_c _).mono ?_; rintro e w7 ⟨rfl, hb7⟩; have HX7 := Lib.hid (bnext HXE.out hb7); clear hb7)
          go_ret
          exact ⟨rfl, HX7.out⟩
        · rw [HSND.out.1] at hmE; cases hmE
      · skip
        have HXD := Lib.hid (bnext HXT.out (bnext hbD (balloc wD (.cells #[.slice none 0 0, .slice none 0 0, .slice none 0 0, .int .i64 0] 27))))
        clear hbD hdc
        go_wp2_with (go_at_call 13; refine (lives_c _).mono ?_; rintro e w7 ⟨rfl, hb7⟩; have HX7 := Lib.hid (bnext HXD.out hb7); clear hb7)
        go_ret
        exact ⟨rfl, HX7.out⟩
    · cases hbv
      have HR1 := Lib.hid hr1
      clear hr1
      have i2 : decide ((N : Int) > 1500) = false := by simp; omega
      clear i1
      go_wp2_with fail
      refine (pdecode_c _ l1 wT (HR1.out.keep HXT.out) HL1.out).mono ?_
      rintro e wD ⟨hbD, (⟨cd, gv, jv, sv, hdc, rfl, hoD⟩ | ⟨hdc, rfl⟩)⟩
      · skip
        obtain ⟨go, gc, egv, _⟩ := hoD.funs.val
        obtain ⟨jo, jc, ejv, _⟩ := hoD.ints.val
        obtain ⟨so, sc, esv, _⟩ := hoD.texts.val
        obtain ⟨M1, hM1⟩ : ∃ n, Hid (cd.funs.length = n) := ⟨_, Lib.hid rfl⟩
        obtain ⟨M2, hM2⟩ : ∃ n, Hid (cd.ints.length = n) := ⟨_, Lib.hid rfl⟩
        obtain ⟨M3, hM3⟩ : ∃ n, Hid (cd.texts.length = n) := ⟨_, Lib.hid rfl⟩
        obtain ⟨LD, hLD⟩ : ∃ n, Hid (cd.lets = n) := ⟨_, Lib.hid rfl⟩
        rw [hM1.out] at egv
        rw [hM2.out] at ejv
        rw [hM3.out] at esv
        subst egv ejv esv
        rw [hLD.out]
        have HKD := Lib.hid (Bk.new wD #[.slice go M1 gc, .slice jo M2 jc, .slice so M3 sc, .int .i64 LD] 27)
        have HXD := Lib.hid (bnext HXT.out (bnext hbD (balloc wD (.cells #[.slice go M1 gc, .slice jo M2 jc, .slice so M3 sc, .int .i64 LD] 27))))
        have HOD := Lib.hid (hoD.keep (balloc wD (.cells #[.slice go M1 gc, .slice jo M2 jc, .slice so M3 sc, .int .i64 LD] 27))).has
        have HSD := Lib.hid (sizes (decP_sound hdc).1)
        have HSND := Lib.hid (decP_sound hdc)
        have y0 := HKD.out.cell 0 _ rfl
        have y1 := HKD.out.cell 1 _ rfl
        have y2 := HKD.out.cell 2 _ rfl
        have y3 := HKD.out.cell 3 _ rfl
        clear hbD hoD hdc
        have HPE := pencode_c cd _ _ _ (wD.alloc (.cells #[.slice go M1 gc, .slice jo M2 jc, .slice so M3 sc, .int .i64 LD] 27)) _ HOD.out (wide HSD.out)
        rw [hLD.out] at HPE
        have HPE := Lib.hid HPE
        go_wp2_with fail
        refine HPE.out.mono ?_
        clear HPE
        rintro e wE (⟨hmE, vE, rfl, hoE, hbE⟩ | ⟨hmE, rfl, hbE⟩)
        · skip
          have HXE := Lib.hid (bnext HXD.out hbE)
          have HRE0 := hoE.row.weak (S' := fun _ => True) (fun _ _ _ => trivial)
          rw [HSND.out.2] at HRE0
          have HRE := Lib.hid HRE0
          clear hmE hoE hbE HRE0 y0 y1 y2 y3
          go_wp2_with fail
          refine (bytes_same HRE.out (HR1.out.keep HXE.out)).mono ?_
          rintro e w5 ⟨rfl, rfl⟩
          go_wp2_with (go_at_call 13; refine (lives_c _).mono ?_; rintro e w7 ⟨rfl, hb7⟩; have HX7 := Lib.hid (bnext HXE.out hb7); clear hb7)
          go_ret
          exact ⟨rfl, HX7.out⟩
        · rw [HSND.out.1] at hmE; cases hmE
      · skip
        have HXD := Lib.hid (bnext HXT.out (bnext hbD (balloc wD (.cells #[.slice none 0 0, .slice none 0 0, .slice none 0 0, .int .i64 0] 27))))
        clear hbD hdc
        go_wp2_with (go_at_call 13; refine (lives_c _).mono ?_; rintro e w7 ⟨rfl, hb7⟩; have HX7 := Lib.hid (bnext HXD.out hb7); clear hb7)
        go_ret
        exact ⟨rfl, HX7.out⟩
end Go.Proofs.Ytpommjmlenfknaa.codeRound
