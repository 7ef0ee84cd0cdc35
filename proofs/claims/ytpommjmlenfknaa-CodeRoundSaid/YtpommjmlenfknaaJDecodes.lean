/- CodeDecodes: the walk. -/
import Derived.Test.YtpommjmlenfknaaQO
import Derived.Test.YtpommjmlenfknaaKG
import Derived.BigQuiet
import Derived.Deep.RegionHeld3
namespace Go.Proofs.Ytpommjmlenfknaa.codeDecodes
open Go.RowKit Go.Proofs.Ytpommjmlenfknaa.RG Go.Proofs.Ytpommjmlenfknaa.KA Go.Proofs.Ytpommjmlenfknaa.KB Go.Proofs.Ytpommjmlenfknaa.KC Go.Proofs.Ytpommjmlenfknaa.KG Go.Proofs.Ytpommjmlenfknaa.KH Go.Proofs.Ytpommjmlenfknaa.PE Go.Proofs.Ytpommjmlenfknaa.PL Go.Proofs.Ytpommjmlenfknaa.QC Go.Proofs.Ytpommjmlenfknaa.QD Go.Proofs.Ytpommjmlenfknaa.QF Go.Proofs.Ytpommjmlenfknaa.QL Go.Proofs.Ytpommjmlenfknaa.QO
set_option linter.unusedVariables false
set_option maxRecDepth 100000
set_option maxRecDepth 100000

theorem sizes {c : Cd} (h : mayB c = true) : c.funs.length ≤ 100000 ∧ c.ints.length ≤ 100000 ∧ c.texts.length ≤ 100000 ∧ ∀ f, f ∈ c.funs → f.code.length ≤ 100000 := by
  have F := Go.Proofs.Ytpommjmlenfknaa.KF.may_facts h
  exact ⟨Nat.le_trans F.funs (by decide), Nat.le_trans F.ints (by decide), Nat.le_trans F.texts (by decide), fun f hf => Nat.le_trans (F.efun f hf).2.2.2.1 (by decide)⟩
/-- The first 1500 bytes. -/
theorem first_row {w : World} {b off cap : Nat} {l : By} (h : RowR TB w (fun _ => True) (.slice (some ⟨b, off, none⟩) l.length cap) l) (hl : 1500 < l.length) (hc : l.length ≤ cap) : RowR TB w (fun _ => True) (.slice (some ⟨b, off, none⟩) 1500 cap) (l.take 1500) := by
  have := row_part h 0 1500 cap (by omega) (by omega)
  rw [Nat.add_zero, List.drop_zero] at this
  exact this
set_option maxHeartbeats 16000000 in
theorem walk (w : World) (v : Value) (l : By) (h : RowR TB w (fun _ => True) v l) (hl : l.length ≤ maxLen) :
    Calls Try.prog 3 #[v] w fun e w' => e = .returned (.bool true) ∧ Below w.heap.size w w' := by
  unfold maxLen at hl
  have hcs : (∃ b off cap, v = .slice (some ⟨b, off, none⟩) l.length cap ∧ l.length ≤ cap ∧ 1500 < l.length) ∨ (∃ ao cap, v = .slice ao l.length cap ∧ l.length ≤ 1500) := by
    by_cases hk : 1500 < l.length
    · obtain ⟨b, off, cap, hv, hc, _⟩ := h.open_ (by intro e; rw [e] at hk; simp at hk)
      exact .inl ⟨b, off, cap, hv, hc, hk⟩
    · obtain ⟨ao, cap, hv, hc⟩ := h.val
      exact .inr ⟨ao, cap, hv, by omega⟩
  rcases hcs with ⟨b, off, cap, rfl, hc, hk⟩ | ⟨ao, cap, rfl, hk⟩
  · have HR := Lib.hid (first_row h hk hc)
    obtain ⟨l1, hl1⟩ : ∃ l1, l.take 1500 = l1 := ⟨_, rfl⟩
    have HL : Hid (l1.length ≤ 1000000) := Lib.hid (by rw [← hl1, List.length_take]; omega)
    rw [hl1] at HR
    obtain ⟨N, hN⟩ : ∃ N, Hid (l.length = N) := ⟨_, Lib.hid rfl⟩
    rw [hN.out] at hc hk ⊢
    have i1 : (N : Int) > 1500 := by omega
    have i2 : (1500 : Int) ≤ (cap : Int) := by omega
    clear h hl hl1
    go_enter Try.func3, Try.ntmps3
    go_wp2_with fail
    refine (pdecode_c _ l1 w HR.out HL.out).mono ?_
    rintro e w1 ⟨hb1, (⟨c, fv, iv, tv, hdc, rfl, ho⟩ | ⟨hdc, rfl⟩)⟩
    · skip
      obtain ⟨fo, fc, rfl, _⟩ := ho.funs.val
      obtain ⟨io, ic, rfl, _⟩ := ho.ints.val
      obtain ⟨to_, tc, rfl, _⟩ := ho.texts.val
      have HSZ : Hid (c.funs.length ≤ 100000 ∧ c.ints.length ≤ 100000 ∧ c.texts.length ≤ 100000 ∧ ∀ f, f ∈ c.funs → f.code.length ≤ 100000) := Lib.hid (sizes (decP_sound hdc).1)
      obtain ⟨NF, hNF⟩ : ∃ n, Hid (c.funs.length = n) := ⟨_, Lib.hid rfl⟩
      obtain ⟨NI, hNI⟩ : ∃ n, Hid (c.ints.length = n) := ⟨_, Lib.hid rfl⟩
      obtain ⟨NT, hNT⟩ : ∃ n, Hid (c.texts.length = n) := ⟨_, Lib.hid rfl⟩
      obtain ⟨LT, hLT⟩ : ∃ n, Hid (c.lets = n) := ⟨_, Lib.hid rfl⟩
      rw [hNF.out, hNI.out, hNT.out] at ho ⊢
      rw [hLT.out]
      have HDD : Hid (decD l1 = decP l1) := Lib.hid (dec_same l1)
      have HDC := Lib.hid hdc
      have HX1 := Lib.hid (bnext hb1 (balloc w1 (.cells #[.slice fo NF fc, .slice io NI ic, .slice to_ NT tc, .int .i64 LT] 27)))
      have HK1 := Lib.hid (Bk.new w1 #[.slice fo NF fc, .slice io NI ic, .slice to_ NT tc, .int .i64 LT] 27)
      have HO1 := Lib.hid (ho.keep (balloc w1 (.cells #[.slice fo NF fc, .slice io NI ic, .slice to_ NT tc, .int .i64 LT] 27)))
      clear hb1 hdc ho
      go_wp2_with fail
      refine (ddecode_c _ l1 _ (HR.out.keep HX1.out) HL.out).mono ?_
      rintro e w2 ⟨hb2, (⟨c2, fv2, iv2, tv2, hdc2, rfl, ho2⟩ | ⟨hdc2, rfl⟩)⟩
      · skip
        obtain rfl : c = c2 := by have := HDC.out; rw [HDD.out, this] at hdc2; exact Option.some.inj hdc2
        obtain ⟨fo2, fc2, rfl, _⟩ := ho2.funs.val
        obtain ⟨io2, ic2, rfl, _⟩ := ho2.ints.val
        obtain ⟨to2, tc2, rfl, _⟩ := ho2.texts.val
        rw [hNF.out, hNI.out, hNT.out] at ho2 ⊢
        rw [hLT.out]
        have HK2 := Lib.hid ((HK1.out.keep hb2).alloc (.cells #[.slice fo2 NF fc2, .slice io2 NI ic2, .slice to2 NT tc2, .int .i64 LT] 27))
        have HY2 := Lib.hid (Bk.new w2 #[.slice fo2 NF fc2, .slice io2 NI ic2, .slice to2 NT tc2, .int .i64 LT] 27)
        have HX2 := Lib.hid (bnext HX1.out (bnext hb2 (balloc w2 (.cells #[.slice fo2 NF fc2, .slice io2 NI ic2, .slice to2 NT tc2, .int .i64 LT] 27))))
        have HA := Lib.hid (HO1.out.keep (bnext hb2 (balloc w2 (.cells #[.slice fo2 NF fc2, .slice io2 NI ic2, .slice to2 NT tc2, .int .i64 LT] 27)))).has
        have HB := Lib.hid (ho2.keep (balloc w2 (.cells #[.slice fo2 NF fc2, .slice io2 NI ic2, .slice to2 NT tc2, .int .i64 LT] 27))).has
        have HS0 := same_c c _ _ _ _ _ _ _ _ _ HA.out HB.out HSZ.out
        rw [hLT.out] at HS0
        have HS := Lib.hid HS0
        clear HS0 hb2 hdc2 ho2
        have x0 := HK2.out.cell 0 _ rfl
        have x1 := HK2.out.cell 1 _ rfl
        have x2 := HK2.out.cell 2 _ rfl
        have x3 := HK2.out.cell 3 _ rfl
        have y0 := HY2.out.cell 0 _ rfl
        have y1 := HY2.out.cell 1 _ rfl
        have y2 := HY2.out.cell 2 _ rfl
        have y3 := HY2.out.cell 3 _ rfl
        go_wp2_with fail
        refine HS.out.mono ?_
        rintro e w3 ⟨rfl, hb3⟩
        have HX3 := Lib.hid (bnext HX2.out hb3)
        clear hb3 x0 x1 x2 x3 y0 y1 y2 y3
        go_wp2_with (go_at_call 13; refine (lives_c _).mono ?_; rintro e w4 ⟨rfl, hb4⟩; have HX4 := Lib.hid (bnext HX3.out hb4); clear hb4)
        go_ret
        exact ⟨rfl, HX4.out⟩
      · rw [HDD.out, HDC.out] at hdc2; cases hdc2
    · skip
      have HDD : Hid (decD l1 = decP l1) := Lib.hid (dec_same l1)
      have HDC := Lib.hid hdc
      have HX1 := Lib.hid (bnext hb1 (balloc w1 (.cells #[.slice none 0 0, .slice none 0 0, .slice none 0 0, .int .i64 0] 27)))
      have HK1 := Lib.hid (Bk.new w1 #[.slice none 0 0, .slice none 0 0, .slice none 0 0, .int .i64 0] 27)
      clear hb1 hdc
      go_wp2_with fail
      refine (ddecode_c _ l1 _ (HR.out.keep HX1.out) HL.out).mono ?_
      rintro e w2 ⟨hb2, (⟨c2, fv2, iv2, tv2, hdc2, rfl, ho2⟩ | ⟨hdc2, rfl⟩)⟩
      · rw [HDD.out, HDC.out] at hdc2; cases hdc2
      · skip
        have HK2 := Lib.hid ((HK1.out.keep hb2).alloc (.cells #[.slice none 0 0, .slice none 0 0, .slice none 0 0, .int .i64 0] 27))
        have HY2 := Lib.hid (Bk.new w2 #[.slice none 0 0, .slice none 0 0, .slice none 0 0, .int .i64 0] 27)
        have HX2 := Lib.hid (bnext HX1.out (bnext hb2 (balloc w2 (.cells #[.slice none 0 0, .slice none 0 0, .slice none 0 0, .int .i64 0] 27))))
        have HS0 := same_c ⟨[], [], [], 0⟩ (.slice none 0 0) (.slice none 0 0) (.slice none 0 0) (.slice none 0 0) (.slice none 0 0) (.slice none 0 0) (w2.alloc (.cells #[.slice none 0 0, .slice none 0 0, .slice none 0 0, .int .i64 0] 27)) (fun _ => True) (fun _ => True) ⟨rowR_nil _ _, rowR_nil _ _, rowR_nil _ _⟩ ⟨rowR_nil _ _, rowR_nil _ _, rowR_nil _ _⟩ ⟨by decide, by decide, by decide, fun f hf => by cases hf⟩
        have HS := Lib.hid HS0
        clear HS0 hb2 hdc2
        have x0 := HK2.out.cell 0 _ rfl
        have x1 := HK2.out.cell 1 _ rfl
        have x2 := HK2.out.cell 2 _ rfl
        have x3 := HK2.out.cell 3 _ rfl
        have y0 := HY2.out.cell 0 _ rfl
        have y1 := HY2.out.cell 1 _ rfl
        have y2 := HY2.out.cell 2 _ rfl
        have y3 := HY2.out.cell 3 _ rfl
        go_wp2_with fail
        refine HS.out.mono ?_
        rintro e w3 ⟨rfl, hb3⟩
        have HX3 := Lib.hid (bnext HX2.out hb3)
        clear hb3 x0 x1 x2 x3 y0 y1 y2 y3
        go_wp2_with (go_at_call 13; refine (lives_c _).mono ?_; rintro e w4 ⟨rfl, hb4⟩; have HX4 := Lib.hid (bnext HX3.out hb4); clear hb4)
        go_ret
        exact ⟨rfl, HX4.out⟩
  · have HR := Lib.hid h
    obtain ⟨l1, hl1⟩ : ∃ l1, l = l1 := ⟨_, rfl⟩
    rw [hl1] at HR
    have HL : Hid (l1.length ≤ 1000000) := Lib.hid (by rw [← hl1]; omega)
    obtain ⟨N, hN⟩ : ∃ N, Hid (l.length = N) := ⟨_, Lib.hid rfl⟩
    rw [← hl1, hN.out] at HR
    rw [hN.out] at hk ⊢
    have i1 : ¬ (N : Int) > 1500 := by omega
    rw [hl1] at HR
    clear h hl hl1
    go_enter Try.func3, Try.ntmps3
    go_wp2_with fail
    refine (pdecode_c _ l1 w HR.out HL.out).mono ?_
    rintro e w1 ⟨hb1, (⟨c, fv, iv, tv, hdc, rfl, ho⟩ | ⟨hdc, rfl⟩)⟩
    · skip
      obtain ⟨fo, fc, rfl, _⟩ := ho.funs.val
      obtain ⟨io, ic, rfl, _⟩ := ho.ints.val
      obtain ⟨to_, tc, rfl, _⟩ := ho.texts.val
      have HSZ : Hid (c.funs.length ≤ 100000 ∧ c.ints.length ≤ 100000 ∧ c.texts.length ≤ 100000 ∧ ∀ f, f ∈ c.funs → f.code.length ≤ 100000) := Lib.hid (sizes (decP_sound hdc).1)
      obtain ⟨NF, hNF⟩ : ∃ n, Hid (c.funs.length = n) := ⟨_, Lib.hid rfl⟩
      obtain ⟨NI, hNI⟩ : ∃ n, Hid (c.ints.length = n) := ⟨_, Lib.hid rfl⟩
      obtain ⟨NT, hNT⟩ : ∃ n, Hid (c.texts.length = n) := ⟨_, Lib.hid rfl⟩
      obtain ⟨LT, hLT⟩ : ∃ n, Hid (c.lets = n) := ⟨_, Lib.hid rfl⟩
      rw [hNF.out, hNI.out, hNT.out] at ho ⊢
      rw [hLT.out]
      have HDD : Hid (decD l1 = decP l1) := Lib.hid (dec_same l1)
      have HDC := Lib.hid hdc
      have HX1 := Lib.hid (bnext hb1 (balloc w1 (.cells #[.slice fo NF fc, .slice io NI ic, .slice to_ NT tc, .int .i64 LT] 27)))
      have HK1 := Lib.hid (Bk.new w1 #[.slice fo NF fc, .slice io NI ic, .slice to_ NT tc, .int .i64 LT] 27)
      have HO1 := Lib.hid (ho.keep (balloc w1 (.cells #[.slice fo NF fc, .slice io NI ic, .slice to_ NT tc, .int .i64 LT] 27)))
      clear hb1 hdc ho
      go_wp2_with fail
      refine (ddecode_c _ l1 _ (HR.out.keep HX1.out) HL.out).mono ?_
      rintro e w2 ⟨hb2, (⟨c2, fv2, iv2, tv2, hdc2, rfl, ho2⟩ | ⟨hdc2, rfl⟩)⟩
      · skip
        obtain rfl : c = c2 := by have := HDC.out; rw [HDD.out, this] at hdc2; exact Option.some.inj hdc2
        obtain ⟨fo2, fc2, rfl, _⟩ := ho2.funs.val
        obtain ⟨io2, ic2, rfl, _⟩ := ho2.ints.val
        obtain ⟨to2, tc2, rfl, _⟩ := ho2.texts.val
        rw [hNF.out, hNI.out, hNT.out] at ho2 ⊢
        rw [hLT.out]
        have HK2 := Lib.hid ((HK1.out.keep hb2).alloc (.cells #[.slice fo2 NF fc2, .slice io2 NI ic2, .slice to2 NT tc2, .int .i64 LT] 27))
        have HY2 := Lib.hid (Bk.new w2 #[.slice fo2 NF fc2, .slice io2 NI ic2, .slice to2 NT tc2, .int .i64 LT] 27)
        have HX2 := Lib.hid (bnext HX1.out (bnext hb2 (balloc w2 (.cells #[.slice fo2 NF fc2, .slice io2 NI ic2, .slice to2 NT tc2, .int .i64 LT] 27))))
        have HA := Lib.hid (HO1.out.keep (bnext hb2 (balloc w2 (.cells #[.slice fo2 NF fc2, .slice io2 NI ic2, .slice to2 NT tc2, .int .i64 LT] 27)))).has
        have HB := Lib.hid (ho2.keep (balloc w2 (.cells #[.slice fo2 NF fc2, .slice io2 NI ic2, .slice to2 NT tc2, .int .i64 LT] 27))).has
        have HS0 := same_c c _ _ _ _ _ _ _ _ _ HA.out HB.out HSZ.out
        rw [hLT.out] at HS0
        have HS := Lib.hid HS0
        clear HS0 hb2 hdc2 ho2
        have x0 := HK2.out.cell 0 _ rfl
        have x1 := HK2.out.cell 1 _ rfl
        have x2 := HK2.out.cell 2 _ rfl
        have x3 := HK2.out.cell 3 _ rfl
        have y0 := HY2.out.cell 0 _ rfl
        have y1 := HY2.out.cell 1 _ rfl
        have y2 := HY2.out.cell 2 _ rfl
        have y3 := HY2.out.cell 3 _ rfl
        go_wp2_with fail
        refine HS.out.mono ?_
        rintro e w3 ⟨rfl, hb3⟩
        have HX3 := Lib.hid (bnext HX2.out hb3)
        clear hb3 x0 x1 x2 x3 y0 y1 y2 y3
        go_wp2_with (go_at_call 13; refine (lives_c _).mono ?_; rintro e w4 ⟨rfl, hb4⟩; have HX4 := Lib.hid (bnext HX3.out hb4); clear hb4)
        go_ret
        exact ⟨rfl, HX4.out⟩
      · rw [HDD.out, HDC.out] at hdc2; cases hdc2
    · skip
      have HDD : Hid (decD l1 = decP l1) := Lib.hid (dec_same l1)
      have HDC := Lib.hid hdc
      have HX1 := Lib.hid (bnext hb1 (balloc w1 (.cells #[.slice none 0 0, .slice none 0 0, .slice none 0 0, .int .i64 0] 27)))
      have HK1 := Lib.hid (Bk.new w1 #[.slice none 0 0, .slice none 0 0, .slice none 0 0, .int .i64 0] 27)
      clear hb1 hdc
      go_wp2_with fail
      refine (ddecode_c _ l1 _ (HR.out.keep HX1.out) HL.out).mono ?_
      rintro e w2 ⟨hb2, (⟨c2, fv2, iv2, tv2, hdc2, rfl, ho2⟩ | ⟨hdc2, rfl⟩)⟩
      · rw [HDD.out, HDC.out] at hdc2; cases hdc2
      · skip
        have HK2 := Lib.hid ((HK1.out.keep hb2).alloc (.cells #[.slice none 0 0, .slice none 0 0, .slice none 0 0, .int .i64 0] 27))
        have HY2 := Lib.hid (Bk.new w2 #[.slice none 0 0, .slice none 0 0, .slice none 0 0, .int .i64 0] 27)
        have HX2 := Lib.hid (bnext HX1.out (bnext hb2 (balloc w2 (.cells #[.slice none 0 0, .slice none 0 0, .slice none 0 0, .int .i64 0] 27))))
        have HS0 := same_c ⟨[], [], [], 0⟩ (.slice none 0 0) (.slice none 0 0) (.slice none 0 0) (.slice none 0 0) (.slice none 0 0) (.slice none 0 0) (w2.alloc (.cells #[.slice none 0 0, .slice none 0 0, .slice none 0 0, .int .i64 0] 27)) (fun _ => True) (fun _ => True) ⟨rowR_nil _ _, rowR_nil _ _, rowR_nil _ _⟩ ⟨rowR_nil _ _, rowR_nil _ _, rowR_nil _ _⟩ ⟨by decide, by decide, by decide, fun f hf => by cases hf⟩
        have HS := Lib.hid HS0
        clear HS0 hb2 hdc2
        have x0 := HK2.out.cell 0 _ rfl
        have x1 := HK2.out.cell 1 _ rfl
        have x2 := HK2.out.cell 2 _ rfl
        have x3 := HK2.out.cell 3 _ rfl
        have y0 := HY2.out.cell 0 _ rfl
        have y1 := HY2.out.cell 1 _ rfl
        have y2 := HY2.out.cell 2 _ rfl
        have y3 := HY2.out.cell 3 _ rfl
        go_wp2_with fail
        refine HS.out.mono ?_
        rintro e w3 ⟨rfl, hb3⟩
        have HX3 := Lib.hid (bnext HX2.out hb3)
        clear hb3 x0 x1 x2 x3 y0 y1 y2 y3
        go_wp2_with (go_at_call 13; refine (lives_c _).mono ?_; rintro e w4 ⟨rfl, hb4⟩; have HX4 := Lib.hid (bnext HX3.out hb4); clear hb4)
        go_ret
        exact ⟨rfl, HX4.out⟩
end Go.Proofs.Ytpommjmlenfknaa.codeDecodes
