/- What is told is the document's: the law of any deeds and any word.
-/
import Derived.Test.YtphebogjmbaboaaDoorPD
import Derived.Test.YtphebogjmbaboaaDoorIH
import Derived.Test.YtphebogjmbaboaaDoorHQ
import Derived.Test.YtphebogjmbaboaaDoorHJ
namespace Go.Proofs.YtphebogjmbaboaaDoor.II
open Go.RowKit Go.Proofs.YtphebogjmbaboaaDoor.RG Go.Proofs.YtphebogjmbaboaaDoor.RB Go.Proofs.YtphebogjmbaboaaDoor.HA Go.Proofs.YtphebogjmbaboaaDoor.HB Go.Proofs.YtphebogjmbaboaaDoor.HC Go.Proofs.YtphebogjmbaboaaDoor.HD Go.Proofs.YtphebogjmbaboaaDoor.HE Go.Proofs.YtphebogjmbaboaaDoor.HG Go.Proofs.YtphebogjmbaboaaDoor.HH Go.Proofs.YtphebogjmbaboaaDoor.HJ Go.Proofs.YtphebogjmbaboaaDoor.HN Go.Proofs.YtphebogjmbaboaaDoor.HP Go.Proofs.YtphebogjmbaboaaDoor.HQ Go.Proofs.YtphebogjmbaboaaDoor.HU Go.Proofs.YtphebogjmbaboaaDoor.HW Go.Proofs.YtphebogjmbaboaaDoor.HY Go.Proofs.YtphebogjmbaboaaDoor.IA Go.Proofs.YtphebogjmbaboaaDoor.HS Go.Proofs.YtphebogjmbaboaaDoor.HT Go.Proofs.YtphebogjmbaboaaDoor.HZ Go.Proofs.YtphebogjmbaboaaDoor.IB Go.Proofs.YtphebogjmbaboaaDoor.IF Go.Proofs.YtphebogjmbaboaaDoor.IH Go.Proofs.YtphebogjmbaboaaDoor.PD
set_option linter.unusedVariables false
set_option maxRecDepth 100000
set_option maxRecDepth 100000

theorem word_in {h : Hp} {N : Nat} (hf : used h ≤ N ∧ N ≤ 65536) {z : Int} (h0 : -9223372036854775808 ≤ z) (h1 : z ≤ 9223372036854775807) : -9223372036854775808 ≤ wordR h z ∧ wordR h z ≤ 9223372036854775807 := by
  unfold wordR
  split
  · have := used_le h ((-(z + 1)) % (h.length : Int)).toNat
    unfold ptr place
    omega
  · exact ⟨h0, h1⟩
theorem openL_len : ∀ l : List Int, (openL l).2.1.length ≤ l.length
  | [] => Nat.le_refl _
  | f :: l => by
    by_cases hg : f % 2 = 0 ∨ f < 0 ∨ f / 2 > 2147483647
    · rw [show openL (f :: l) = (0, [], 4) from if_pos hg]; exact Nat.zero_le _
    · rw [show openL (f :: l) = (f / 2, l, 0) from if_neg hg]; exact Nat.le_succ _
theorem open_len {w : World} {p x m o N : Nat} {h : Hp} (H : HP w p x m o N h) (z : Int) : (openR h z).2.1.length ≤ 1000000 := by
  have hf : (fieldsOf h z).length ≤ 60 := by
    unfold fieldsOf
    cases hk : blk h z with
    | none => simp
    | some k =>
      obtain ⟨b, hb⟩ := getElem?_of_lt (blk_some hk).1
      have := (H.good b (List.mem_of_getElem? hb)).2
      simpa [hb] using this
  unfold openR
  split
  · exact Nat.le_trans (openL_len _) (by omega)
  · exact Nat.zero_le _
set_option maxHeartbeats 6400000 in
theorem ltold_c (HL : Lives) (w : World) (v : Value) (L : List Dd) (hd : RowR TDd w (fun _ => True) v L) (hz : ∀ d, d ∈ L → okD d) (z : Int) (hz0 : -9223372036854775808 ≤ z) (hz1 : z ≤ 9223372036854775807) (hsg : Sig w) :
    Calls Tryd.prog 4 #[v, .int .i64 z] w fun e w' => e = .returned (.bool true) ∧ Below w.heap.size w w' := by
  obtain ⟨ao, cap, rfl, hcap⟩ := hd.val
  have HSG := Lib.hid hsg
  have HL := Lib.hid HL
  unfold Lives at HL
  have HD := Lib.hid hd
  have HZ := Lib.hid hz
  have HNW := Lib.hid (new_c 400 w (by decide) (by decide))
  have HRN := Lib.hid (fun w1 => rnew_c 400 w1 (by decide) (by decide))
  obtain ⟨n, hn⟩ : ∃ n, Hid (L.length = n) := ⟨_, Lib.hid rfl⟩
  rw [hn.out]
  obtain ⟨M, hM⟩ : ∃ M, Hid (M = min n 20) := ⟨_, Lib.hid rfl⟩
  have hM1 : M ≤ 20 := by have := hM.out; omega
  have hMn : M ≤ n := by have := hM.out; omega
  clear hd hz hsg hcap
  go_enter Tryd.func4, Tryd.ntmps4
  go_wp2_with fail
  refine HNW.out.mono ?_
  rintro e w1 ⟨p, x, m, o, rfl, hp, hge, hb⟩
  have HP1 := Lib.hid hp
  have HB1 := Lib.hid hb
  have HG1 := Lib.hid hge
  clear hp hge hb
  go_wp2_with fail
  refine (HRN.out _).mono ?_
  rintro e w2 ⟨r, rfl, hr, hdoc, hb⟩
  have HT2 := Lib.hid (show Two w2 w.heap.size p x m o r (r + 1) 400 [] from ⟨HP1.out.keep hb, hdoc, HG1.out.1, HG1.out.2.1, HG1.out.2.2.1, HG1.out.2.2.2, Nat.lt_of_lt_of_le HP1.out.lt.1 hr, Nat.lt_of_lt_of_le HP1.out.lt.2.1 hr, Nat.lt_of_lt_of_le HP1.out.lt.2.2.1 hr, Nat.lt_of_lt_of_le HP1.out.lt.2.2.2 hr⟩)
  have HB2 := Lib.hid (bnext HB1.out hb)
  clear hr hdoc hb
  go_wp2_with fail
  go_loopg [7] M (fun g iv wr => ∃ (i : Nat) (hh : Hp), i + g = M ∧ iv = .int .i64 (i : Int) ∧ Hid (Two wr w.heap.size p x m o r (r + 1) 400 hh) ∧ Hid (Below w.heap.size w wr))
  case atStart => exact ⟨0, [], Nat.zero_add _, rfl, HT2, HB2⟩
  case round =>
    obtain ⟨i, hh, hi, rfl, HT, HX⟩ := hrel
    have HI := Lib.hid hi
    by_cases hlt : i < M
    · obtain ⟨g', rfl⟩ : ∃ g, gk = g + 1 := ⟨gk - 1, by omega⟩
      have q1 : i < L.length := by rw [hn.out]; omega
      obtain ⟨b, off, cap', hve, _, hbl, hcells⟩ := (HD.out.keep HX.out).open_ (by intro e; rw [e] at q1; exact absurd q1 (Nat.not_lt_zero _))
      cases hve
      obtain ⟨⟨k, s, da, db, ws⟩, hdi⟩ := getElem?_of_lt q1
      have hok := HZ.out _ (List.mem_of_getElem? hdi)
      obtain ⟨q, hLI, qv, rfl, hq⟩ := hcells i _ hdi
      obtain ⟨wo, wc, rfl, _⟩ := (rw_row hq).val
      have x0 : wr.cell? ⟨b, off + i * 5, none⟩ = some (.int .i64 k) := hLI 0 _ rfl
      have x1 : wr.cell? ⟨b, off + i * 5 + 1, none⟩ = some (.string s) := hLI 1 _ rfl
      have x2 : wr.cell? ⟨b, off + i * 5 + 2, none⟩ = some (.int .i64 da) := hLI 2 _ rfl
      have x3 : wr.cell? ⟨b, off + i * 5 + 3, none⟩ = some (.int .i64 db) := hLI 3 _ rfl
      have x4 : wr.cell? ⟨b, off + i * 5 + 4, none⟩ = some (.slice wo ws.length wc) := hLI 4 _ rfl
      obtain ⟨S, hS⟩ := cut_is s
      have HDO := Lib.hid (does_c wr w.heap.size p x m o r (r + 1) 400 hh HT.out k s S hS da db hok.1 hok.2.1 (.slice wo ws.length wc) ws (rw_row hq) hok.2.2)
      obtain ⟨h', hh'⟩ : ∃ x, (deedR 400 hh k S da db ws).1 = x := ⟨_, rfl⟩
      rw [hh'] at HDO
      obtain ⟨nw, hnw⟩ : ∃ x, ws.length = x := ⟨_, rfl⟩
      rw [hnw] at x4 HDO
      have i0 : (0 : Int) ≤ (i : Int) := by omega
      have i1 : (i : Int) < (n : Int) := by omega
      have i2 : (i : Int) < 20 := by omega
      clear hcells hdi hok hLI hq q1 hS hh'
      go_wp2_with fail
      refine HDO.out.mono ?_
      rintro e w3 ⟨rfl, ht, hb⟩
      have HT3 := Lib.hid ht
      have HB3 := Lib.hid (HX.out.trans hb)
      clear ht hb x0 x1 x2 x3 x4
      go_wp2_with fail
      go_roundg g'
      case rel => exact ⟨i + 1, h', by have := HI.out; omega, by go_num, HT3, HB3⟩
      case measure => omega
    · have hiM : i = M := by omega
      subst hiM
      have hcase : i = n ∨ (i = 20 ∧ i < n) := by have := hM.out; omega
      clear HI hi hlt hM hM1 hMn HRN HNW HP1 HB1 HG1 HT2 HB2
      have HWD := Lib.hid (word_c wr r (r + 1) 400 hh HT.out.hd z hz0)
      have hyb := word_in HT.out.hp.fit hz0 hz1
      have hln := open_len HT.out.hp (wordR hh z)
      have HPS := Lib.hid (fun w6 (hb : Below wr.heap.size wr w6) => pstr_c w6 p x m o 400 hh (HT.out.keep hb).hp (wordR hh z))
      have HRS := Lib.hid (fun w6 (hb : Below wr.heap.size wr w6) => rstr_c w6 r (r + 1) 400 hh (HT.out.keep hb).hd (wordR hh z))
      have HPO := Lib.hid (fun w6 (hb : Below wr.heap.size wr w6) => popen_c w6 p x m o 400 hh (HT.out.keep hb).hp (wordR hh z))
      have HRO := Lib.hid (fun w6 (hb : Below wr.heap.size wr w6) => ropen_c w6 r (r + 1) 400 hh (HT.out.keep hb).hd (wordR hh z))
      have HPC := Lib.hid (fun w6 (hb : Below wr.heap.size wr w6) => pcase_c w6 p x m o 400 hh (HT.out.keep hb).hp (wordR hh z))
      have HRC := Lib.hid (fun w6 (hb : Below wr.heap.size wr w6) => rcase_c w6 r (r + 1) 400 hh (HT.out.keep hb).hd (wordR hh z) hyb.1 hyb.2)
      obtain ⟨⟨X1, E1⟩, hX1⟩ : ∃ x, strR hh (wordR hh z) = x := ⟨_, rfl⟩
      obtain ⟨⟨X2, F2, E2⟩, hX2⟩ : ∃ x, openR hh (wordR hh z) = x := ⟨_, rfl⟩
      obtain ⟨⟨X3, E3⟩, hX3⟩ : ∃ x, caseR hh (wordR hh z) = x := ⟨_, rfl⟩
      simp only [hX1] at HPS HRS
      simp only [hX2] at HPO HRO hln
      simp only [hX3] at HPC HRC
      have HSM := Lib.hid (fun w6 va vb a b => same_c w6 va vb F2 F2 a b hln)
      rw [decide_eq_true (show F2 = F2 from rfl)] at HSM
      clear hX1 hX2 hX3 hyb
      obtain ⟨Y, hY⟩ : ∃ y, wordR hh z = y := ⟨_, rfl⟩
      rw [hY] at HWD HPS HRS HPO HRO HPC HRC
      clear hY hln hz0 hz1
      rcases hcase with rfl | ⟨rfl, h2⟩
      focus
        have q0 : ¬ (i : Int) < (i : Int) := by omega
        go_wp2_with fail
      rotate_left
      focus
        have q1 : (20 : Int) < (n : Int) := by omega
        go_wp2_with fail
      all_goals
        refine HWD.out.mono ?_
        rintro e w1 ⟨rfl, hb⟩
        have HB1 := Lib.hid hb
        clear hb
        go_wp2_with fail
        refine (HPS.out _ HB1.out).mono ?_
        rintro e w2 ⟨rfl, hb⟩
        have HB2 := Lib.hid (bnext HB1.out hb)
        clear hb
        go_wp2_with fail
        refine (HRS.out _ HB2.out).mono ?_
        rintro e w3 ⟨rfl, hb⟩
        have HB3 := Lib.hid (bnext HB2.out hb)
        clear hb
        go_wp2_with fail
        refine (HPO.out _ HB3.out).mono ?_
        rintro e w4 ⟨fv, rfl, hfv, hb⟩
        have HB4 := Lib.hid (bnext HB3.out hb)
        have HV4 := Lib.hid hfv
        obtain ⟨fa, fc, rfl, _⟩ := hfv.val
        clear hb hfv
        go_wp2_with fail
        refine (HRO.out _ HB4.out).mono ?_
        rintro e w5 ⟨gv, rfl, hgv, hb⟩
        have HB5 := Lib.hid (bnext HB4.out hb)
        have HV5 := Lib.hid (HV4.out.keep hb)
        have HW5 := Lib.hid hgv
        obtain ⟨ga, gc, rfl, _⟩ := hgv.val
        clear hb hgv
        go_wp2_with fail
        refine (HPC.out _ HB5.out).mono ?_
        rintro e w6 ⟨rfl, hb⟩
        have HB6 := Lib.hid (bnext HB5.out hb)
        have HV6 := Lib.hid (HV5.out.keep hb)
        have HW6 := Lib.hid (HW5.out.keep hb)
        clear hb
        go_wp2_with fail
        refine (HRC.out _ HB6.out).mono ?_
        rintro e w7 ⟨rfl, hb⟩
        have HB7 := Lib.hid (bnext HB6.out hb)
        have HV7 := Lib.hid (HV6.out.keep hb)
        have HW7 := Lib.hid (HW6.out.keep hb)
        clear hb
        go_wp2_with fail
        refine (HSM.out _ _ _ HV7.out HW7.out).mono ?_
        rintro e w8 ⟨rfl, hb⟩
        have HX8 := Lib.hid (HX.out.trans ((bnext HB7.out hb).mono HT.out.low))
        clear hb
        go_wp2_with fail
        refine (HL.out _ (HSG.out.below HX8.out)).mono ?_
        rintro e w9 ⟨rfl, hb⟩
        have HX9 := Lib.hid (HX8.out.trans (hb.mono HX8.out.size))
        clear hb
        go_wp2_with fail
        go_ret
        exact ⟨rfl, HX9.out⟩
end Go.Proofs.YtphebogjmbaboaaDoor.II
