/- The document's heap: Make of anything; a word's tag and fields. -/
import Derived.Test.YtphebogjmbaboaaDoorHL
import Derived.Deep.RegionHeld3
namespace Go.Proofs.YtphebogjmbaboaaDoor.HM
open Go.RowKit Go.Proofs.YtphebogjmbaboaaDoor.RG Go.Proofs.YtphebogjmbaboaaDoor.RB Go.Proofs.YtphebogjmbaboaaDoor.HA Go.Proofs.YtphebogjmbaboaaDoor.HB Go.Proofs.YtphebogjmbaboaaDoor.HG Go.Proofs.YtphebogjmbaboaaDoor.HH Go.Proofs.YtphebogjmbaboaaDoor.HI Go.Proofs.YtphebogjmbaboaaDoor.HJ Go.Proofs.YtphebogjmbaboaaDoor.HK Go.Proofs.YtphebogjmbaboaaDoor.HL
set_option linter.unusedVariables false
set_option maxRecDepth 100000
set_option maxRecDepth 100000

theorem OnD.refl (r B : Nat) (w : World) : OnD r B w w := ⟨rfl, rfl, rfl, Nat.le_refl _, fun _ _ _ => rfl⟩
theorem rmake_c (w : World) (r B N : Nat) (h : Hp) (H : HDoc w r B N h) (t : Int) (v : Value) (l : List Int) (hv : RowI w v l) (hzb : ∀ z, z ∈ l → z ≤ 9223372036854775807) :
    Calls Tryd.prog 40 #[.pointer (some ⟨r, 0, none⟩), .int .i64 t, v] w fun e w' => e = .returned (.tuple #[.int .i64 (make 2 N h t l).2.1, .int .i64 (make 2 N h t l).2.2]) ∧ HDoc w' r B N (make 2 N h t l).1 ∧ OnD r B w w' := by
  by_cases h6 : l.length ≤ 60
  · rcases (show t < 0 ∨ (0 ≤ t ∧ t ≤ 200) ∨ t = 201 ∨ (0 ≤ t ∧ 201 < t) by omega) with h1 | ⟨h1, h2⟩ | h1 | ⟨h1, h2⟩
    · have hmk : make 2 N h t l = (h, 0, 1) := by unfold make; rw [if_neg (by rintro ⟨h3, _⟩; unfold isTag at h3; simp only [Bool.and_eq_true, decide_eq_true_eq] at h3; omega)]
      rw [hmk]
      obtain ⟨ao, cap, rfl, _⟩ := hv.val
      have HH := Lib.hid H
      clear H hv hmk
      go_enter Tryd.func40, Tryd.ntmps40
      go_wp2_with fail
      go_ret2
      exact ⟨rfl, HH.out, OnD.refl _ _ _⟩
    · exact rmake_words w r B N h H v l hv h6 hzb t h1 h2
    · subst h1
      exact rmake_raw w r B N h H v l hv h6 hzb
    · have hmk : make 2 N h t l = (h, 0, 1) := by unfold make; rw [if_neg (by rintro ⟨h3, _⟩; unfold isTag at h3; simp only [Bool.and_eq_true, decide_eq_true_eq] at h3; omega)]
      rw [hmk]
      obtain ⟨ao, cap, rfl, _⟩ := hv.val
      have HH := Lib.hid H
      have s0 : ¬ t < 0 := by omega
      have s1 : t > 201 := by omega
      clear H hv hmk h1 h2
      go_enter Tryd.func40, Tryd.ntmps40
      go_wp2_with fail
      go_ret2
      exact ⟨rfl, HH.out, OnD.refl _ _ _⟩
  · have hmk : make 2 N h t l = (h, 0, 1) := by unfold make; rw [if_neg (fun h3 => h6 h3.2.1)]
    rw [hmk]
    obtain ⟨ao, cap, rfl, _⟩ := hv.val
    have HH := Lib.hid H
    obtain ⟨n, hn⟩ : ∃ n, Hid (l.length = n) := ⟨_, Lib.hid rfl⟩
    rw [hn.out] at h6 ⊢
    have s2 : (n : Int) > 60 := by omega
    clear H hv hmk h6
    rcases (show t < 0 ∨ (¬ t < 0 ∧ t > 201) ∨ (¬ t < 0 ∧ ¬ t > 201) by omega) with h1 | ⟨h1, h2⟩ | ⟨h1, h2⟩
    all_goals
      go_enter Tryd.func40, Tryd.ntmps40
      go_wp2_with fail
      go_ret2
      exact ⟨rfl, HH.out, OnD.refl _ _ _⟩
/-- A word's tag and fields, by the document. -/
theorem rtag_c (w : World) (r B N : Nat) (h : Hp) (H : HDoc w r B N h) (z : Int) :
    Calls Tryd.prog 46 #[.pointer (some ⟨r, 0, none⟩), .int .i64 z] w fun e w' => ∃ v, e = .returned (.tuple #[.int .i64 (tagOf h z), v]) ∧ RowR TI w' (fun _ => True) v (fieldsOf h z) ∧ Below w.heap.size w w' := by
  have HFI := Lib.hid (rfind_c w r B N h H z)
  cases hb : blk h z with
  | none =>
    have e1 : tagOf h z = -1 := by unfold tagOf; rw [hb]
    have e2 : fieldsOf h z = [] := by unfold fieldsOf; rw [hb]
    rw [e1, e2]
    obtain ⟨⟨⟨fb1, fb2⟩, fb3⟩, hfr⟩ : ∃ x, findR h z = x := ⟨_, rfl⟩
    have hf1 : fb1 = false := by
      unfold findR at hfr
      rw [hb] at hfr
      split at hfr <;> (cases hfr; rfl)
    rw [hfr, hf1] at HFI
    clear hb e1 e2 hfr hf1 H
    go_enter Tryd.func46, Tryd.ntmps46
    go_wp2_with fail
    refine HFI.out.mono ?_
    rintro e w1 ⟨rfl, hb1⟩
    have HB1 := Lib.hid (bnext hb1 (balloc w1 (.cells #[.bool false, .int .i64 fb2] 80)))
    unfold retF
    clear hb1
    cases fb3
    all_goals
      go_wp2_with fail
      go_ret2
      exact ⟨_, rfl, rowR_nil _ _, HB1.out⟩
  | some k =>
    obtain ⟨b, hkb⟩ := getElem?_of_lt (blk_some hb).1
    have e1 : tagOf h z = b.1 := by unfold tagOf; rw [hb]; simp [hkb]
    have e2 : fieldsOf h z = b.2 := by unfold fieldsOf; rw [hb]; simp [hkb]
    have hfr : findR h z = ((true, (k : Int)), true) := by
      unfold findR
      rw [if_neg (by have h2 := (blk_some hb).2; unfold ptr at h2; omega), hb]
    rw [e1, e2]
    rw [hfr] at HFI
    have HFL := Lib.hid (fun w' (hw : Below w.heap.size w w') => rfields_c w' r B N h (H.keep hw) k b hkb)
    obtain ⟨v, hbk, hrow⟩ := H.blk
    have hkl := (List.getElem?_eq_some_iff.1 hkb).1
    have hd : (docs h)[k]? = some (docB h b) := by unfold docs; simp [hkb]
    obtain ⟨fb, off, cp, hve, hfl, a, b', c1, c2, hat⟩ := doc_at hrow hd
    have hnl : (docs h).length = h.length := by unfold docs; simp
    rw [hnl] at hve
    subst hve
    obtain ⟨n, hn⟩ : ∃ n, Hid (h.length = n) := ⟨_, Lib.hid rfl⟩
    rw [hn.out] at hbk hkl
    have htag : (docB h b).tag = b.1 := by unfold docB; split <;> rfl
    have HBK := Lib.hid hbk
    have Y0 := hat.p0
    have Y1 := hat.p1
    have Y2 := hat.p2
    rw [htag] at Y0
    have HY := Lib.hid (And.intro Y0 (And.intro Y1 Y2))
    have HFB := Lib.hid hfl
    have i0 : (0 : Int) ≤ (k : Int) := by omega
    have i1 : (k : Int) < (n : Int) := by omega
    clear hb e1 e2 hfr H hkb hd hat hnl hfl hrow hbk Y0 Y1 Y2
    go_enter Tryd.func46, Tryd.ntmps46
    go_wp2_with fail
    refine HFI.out.mono ?_
    rintro e w1 ⟨rfl, hb1⟩
    unfold retF
    have HB1 := Lib.hid hb1
    obtain ⟨W, hW⟩ : ∃ W, W = w1.alloc (.cells #[.bool true, .int .i64 (k : Int)] 80) := ⟨_, rfl⟩
    have hB2 : Below w.heap.size w W := by rw [hW]; exact bnext hb1 (balloc _ _)
    have HB2 := Lib.hid hB2
    have r1 := (HBK.out.keep hB2).cell 1 _ rfl
    have y0 := (hB2.cell (p := ⟨fb, off + k * 3, none⟩) HFB.out).trans HY.out.1
    have y1 := (hB2.cell (p := ⟨fb, off + k * 3 + 1, none⟩) HFB.out).trans HY.out.2.1
    have y2 := (hB2.cell (p := ⟨fb, off + k * 3 + 2, none⟩) HFB.out).trans HY.out.2.2
    rw [hW] at r1 y0 y1 y2
    have HW := Lib.hid hW
    have HKW := Lib.hid (Bk.new w1 #[.bool true, .int .i64 (k : Int)] 80)
    have HC1 := Lib.hid (show (w1.alloc (.cells #[.bool true, .int .i64 (k : Int)] 80)).drew.cell? ⟨r, 1, none⟩ = some (.slice (some ⟨fb, off, none⟩) n cp) ∧ (w1.alloc (.cells #[.bool true, .int .i64 (k : Int)] 80)).drew.cell? ⟨w1.heap.size, 1, none⟩ = some (.int .i64 (k : Int)) ∧ (w1.alloc (.cells #[.bool true, .int .i64 (k : Int)] 80)).drew.cell? ⟨fb, off + k * 3, none⟩ = some (.int .i64 b.1) from ⟨r1, HKW.out.cell 1 _ rfl, y0⟩)
    have HB3 := Lib.hid (show Below w.heap.size w (w1.alloc (.cells #[.bool true, .int .i64 (k : Int)] 80)).drew from by have := HB2.out; rw [HW.out] at this; exact bnext this (bdr _))
    clear hW hB2 hb1
    go_wp2_with fail
    go_region_held3 (fun w' => w'.cell? ⟨r, 1, none⟩ = some (.slice (some ⟨fb, off, none⟩) n cp) ∧ w'.cell? ⟨w1.heap.size, 1, none⟩ = some (.int .i64 (k : Int)) ∧ w'.cell? ⟨fb, off + k * 3, none⟩ = some (.int .i64 b.1)) (first | with_reducible exact HC1.out | with_reducible exact HC2.out | go_keep)
      (first | (go_at_call 17; (with_reducible refine (HFL.out _ HB3.out).mono ?_); rintro e w3 ⟨v3, rfl, hr3, hb3⟩; have HR3 := Lib.hid hr3; have HX3 := Lib.hid (bnext HB3.out hb3); have HC2 := Lib.hid (show w3.cell? ⟨r, 1, none⟩ = some (.slice (some ⟨fb, off, none⟩) n cp) ∧ w3.cell? ⟨w1.heap.size, 1, none⟩ = some (.int .i64 (k : Int)) ∧ w3.cell? ⟨fb, off + k * 3, none⟩ = some (.int .i64 b.1) from ⟨((HBK.out.keep HB3.out).keep hb3).cell 1 _ rfl, (HKW.out.drew.keep hb3).cell 1 _ rfl, ((bnext HB3.out hb3).cell (p := ⟨fb, off + k * 3, none⟩) HFB.out).trans HY.out.1⟩); clear hr3 hb3))
    go_wp2_with fail
    go_ret2
    exact ⟨_, rfl, HR3.out, HX3.out⟩
end Go.Proofs.YtphebogjmbaboaaDoor.HM
