/- What is made is the document's: the law of any deeds.
-/
import Derived.Test.YtphebogjmbaboaaDoorPD
import Derived.Test.YtphebogjmbaboaaDoorIE
import Derived.Test.YtphebogjmbaboaaDoorHJ
namespace Go.Proofs.YtphebogjmbaboaaDoor.IH
open Go.RowKit Go.Proofs.YtphebogjmbaboaaDoor.RG Go.Proofs.YtphebogjmbaboaaDoor.RB Go.Proofs.YtphebogjmbaboaaDoor.HA Go.Proofs.YtphebogjmbaboaaDoor.HB Go.Proofs.YtphebogjmbaboaaDoor.HC Go.Proofs.YtphebogjmbaboaaDoor.HD Go.Proofs.YtphebogjmbaboaaDoor.HE Go.Proofs.YtphebogjmbaboaaDoor.HG Go.Proofs.YtphebogjmbaboaaDoor.HH Go.Proofs.YtphebogjmbaboaaDoor.HJ Go.Proofs.YtphebogjmbaboaaDoor.HS Go.Proofs.YtphebogjmbaboaaDoor.HT Go.Proofs.YtphebogjmbaboaaDoor.HZ Go.Proofs.YtphebogjmbaboaaDoor.IB Go.Proofs.YtphebogjmbaboaaDoor.IF Go.Proofs.YtphebogjmbaboaaDoor.PD
set_option linter.unusedVariables false
set_option maxRecDepth 100000
set_option maxRecDepth 100000

/-- What a deed's words are when its text is cut. -/
theorem cut_is (s : ByteArray) : ∃ S : List UInt8, (if s.size > 70 then s.extract 0 70 else s) = ⟨S.toArray⟩ := ⟨(if s.size > 70 then s.extract 0 70 else s).data.toList, by simp⟩
set_option maxHeartbeats 6400000 in
theorem lmake_c (HL : Lives) (w : World) (v : Value) (L : List Dd) (hd : RowR TDd w (fun _ => True) v L) (hz : ∀ d, d ∈ L → okD d) (hsg : Sig w) :
    Calls Tryd.prog 3 #[v] w fun e w' => e = .returned (.bool true) ∧ Below w.heap.size w w' := by
  obtain ⟨ao, cap, rfl, hcap⟩ := hd.val
  have HSG := Lib.hid hsg
  have HL := Lib.hid HL
  unfold Lives at HL
  have HD := Lib.hid hd
  have HZ := Lib.hid hz
  have HNW := Lib.hid (new_c 400 w (by decide) (by decide))
  have HRN := Lib.hid (fun w1 => rnew_c 400 w1 (by decide) (by decide))
  obtain ⟨n, hn⟩ : ∃ n, Hid (L.length = n) := ⟨_, Lib.hid rfl⟩
  rw [hn.out]
  obtain ⟨M, hM⟩ : ∃ M, Hid (M = min n 20) := ⟨_, Lib.hid rfl⟩
  have hM1 : M ≤ 20 := by have := hM.out; omega
  have hMn : M ≤ n := by have := hM.out; omega
  clear hd hz hsg hcap
  go_enter Tryd.func3, Tryd.ntmps3
  go_wp2_with fail
  refine HNW.out.mono ?_
  rintro e w1 ⟨p, x, m, o, rfl, hp, hge, hb⟩
  have HP1 := Lib.hid hp
  have HB1 := Lib.hid hb
  have HG1 := Lib.hid hge
  clear hp hge hb
  go_wp2_with fail
  refine (HRN.out _).mono ?_
  rintro e w2 ⟨r, rfl, hr, hdoc, hb⟩
  have HT2 := Lib.hid (show Two w2 w.heap.size p x m o r (r + 1) 400 [] from ⟨HP1.out.keep hb, hdoc, HG1.out.1, HG1.out.2.1, HG1.out.2.2.1, HG1.out.2.2.2, Nat.lt_of_lt_of_le HP1.out.lt.1 hr, Nat.lt_of_lt_of_le HP1.out.lt.2.1 hr, Nat.lt_of_lt_of_le HP1.out.lt.2.2.1 hr, Nat.lt_of_lt_of_le HP1.out.lt.2.2.2 hr⟩)
  have HB2 := Lib.hid (bnext HB1.out hb)
  clear hr hdoc hb
  go_wp2_with fail
  go_loopg [5] M (fun g iv wr => ∃ (i : Nat) (hh : Hp), i + g = M ∧ iv = .int .i64 (i : Int) ∧ Hid (Two wr w.heap.size p x m o r (r + 1) 400 hh) ∧ Hid (Below w.heap.size w wr))
  case atStart => exact ⟨0, [], Nat.zero_add _, rfl, HT2, HB2⟩
  case round =>
    obtain ⟨i, hh, hi, rfl, HT, HX⟩ := hrel
    have HI := Lib.hid hi
    by_cases hlt : i < M
    · obtain ⟨g', rfl⟩ : ∃ g, gk = g + 1 := ⟨gk - 1, by omega⟩
      have q1 : i < L.length := by rw [hn.out]; omega
      obtain ⟨b, off, cap', hve, _, hbl, hcells⟩ := (HD.out.keep HX.out).open_ (by intro e; rw [e] at q1; exact absurd q1 (Nat.not_lt_zero _))
      cases hve
      obtain ⟨⟨k, s, da, db, ws⟩, hdi⟩ := getElem?_of_lt q1
      have hok := HZ.out _ (List.mem_of_getElem? hdi)
      obtain ⟨q, hLI, qv, rfl, hq⟩ := hcells i _ hdi
      obtain ⟨wo, wc, rfl, _⟩ := (rw_row hq).val
      have x0 : wr.cell? ⟨b, off + i * 5, none⟩ = some (.int .i64 k) := hLI 0 _ rfl
      have x1 : wr.cell? ⟨b, off + i * 5 + 1, none⟩ = some (.string s) := hLI 1 _ rfl
      have x2 : wr.cell? ⟨b, off + i * 5 + 2, none⟩ = some (.int .i64 da) := hLI 2 _ rfl
      have x3 : wr.cell? ⟨b, off + i * 5 + 3, none⟩ = some (.int .i64 db) := hLI 3 _ rfl
      have x4 : wr.cell? ⟨b, off + i * 5 + 4, none⟩ = some (.slice wo ws.length wc) := hLI 4 _ rfl
      obtain ⟨S, hS⟩ := cut_is s
      have HDO := Lib.hid (does_c wr w.heap.size p x m o r (r + 1) 400 hh HT.out k s S hS da db hok.1 hok.2.1 (.slice wo ws.length wc) ws (rw_row hq) hok.2.2)
      obtain ⟨h', hh'⟩ : ∃ x, (deedR 400 hh k S da db ws).1 = x := ⟨_, rfl⟩
      rw [hh'] at HDO
      obtain ⟨nw, hnw⟩ : ∃ x, ws.length = x := ⟨_, rfl⟩
      rw [hnw] at x4 HDO
      have i0 : (0 : Int) ≤ (i : Int) := by omega
      have i1 : (i : Int) < (n : Int) := by omega
      have i2 : (i : Int) < 20 := by omega
      clear hcells hdi hok hLI hq q1 hS hh'
      go_wp2_with fail
      refine HDO.out.mono ?_
      rintro e w3 ⟨rfl, ht, hb⟩
      have HT3 := Lib.hid ht
      have HB3 := Lib.hid (HX.out.trans hb)
      have HU := Lib.hid (used_c w3 p x m o 400 h' HT3.out.hp)
      have HRU := Lib.hid (rused_c w3 r (r + 1) 400 h' HT3.out.hd)
      obtain ⟨U, hU⟩ : ∃ x, used h' = x := ⟨_, rfl⟩
      rw [hU] at HU HRU
      clear ht hb x0 x1 x2 x3 x4 hU
      go_wp2_with fail
      refine HU.out.mono ?_
      rintro e w4 ⟨rfl, rfl⟩
      go_wp2_with fail
      refine HRU.out.mono ?_
      rintro e w5 ⟨rfl, hb⟩
      have HT5 := Lib.hid (HT3.out.keep hb)
      have HB5 := Lib.hid (HB3.out.trans (hb.mono HT3.out.low))
      clear hb
      go_wp2_with fail
      go_roundg g'
      case rel => exact ⟨i + 1, h', by have := HI.out; omega, by go_num, HT5, HB5⟩
      case measure => omega
    · have hiM : i = M := by omega
      subst hiM
      have hcase : i = n ∨ (i = 20 ∧ i < n) := by have := hM.out; omega
      clear HI hi hlt hM hM1 hMn HRN HNW HP1 HB1 HG1 HT2 HB2
      rcases hcase with rfl | ⟨rfl, h2⟩
      focus
        have q0 : ¬ (i : Int) < (i : Int) := by omega
        go_wp2_with fail
      rotate_left
      focus
        have q1 : (20 : Int) < (n : Int) := by omega
        go_wp2_with fail
      all_goals
        obtain ⟨K, hK⟩ : ∃ K, Hid (hh.length = K) := ⟨_, Lib.hid rfl⟩
        have hK4 : K ≤ 65536 := by have h1 := len_used hh; have h2 := HT.out.hp.fit; have h3 := hK.out; omega
        go_loopg [7] K (fun g kv wr => ∃ k : Nat, k + g = K ∧ kv = .int .i64 (k : Int) ∧ Hid (Two wr w.heap.size p x m o r (r + 1) 400 hh) ∧ Hid (Below w.heap.size w wr))
        case atStart => exact ⟨0, Nat.zero_add _, rfl, HT, HX⟩
        case round =>
          clear HT HX
          obtain ⟨k, hk, rfl, HT, HX⟩ := hrel
          have HI := Lib.hid hk
          obtain ⟨dv, hbk, hrow⟩ := HT.out.hd.blk
          obtain ⟨dao, dcap, rfl, _⟩ := hrow.val
          have hnl : (docs hh).length = hh.length := by unfold docs; simp
          rw [hnl, hK.out] at hbk
          have y1 := hbk.cell 1 _ rfl
          clear hbk hrow hnl
          by_cases hlt : k < K
          · obtain ⟨g', rfl⟩ : ∃ g, gk = g + 1 := ⟨gk - 1, by omega⟩
            have q3 : k < hh.length := by rw [hK.out]; exact hlt
            obtain ⟨bb, hbb⟩ := getElem?_of_lt q3
            have hfo : fieldsOf hh (ptr hh k) = bb.2 := by unfold fieldsOf; rw [blk_yes q3]; simp [hbb]
            have hgd := (HT.out.hp.good bb (List.mem_of_getElem? hbb)).2
            have HPT := Lib.hid (rpoint_c wr r (r + 1) 400 hh HT.out.hd k (Nat.le_of_lt q3))
            have HFL := Lib.hid (fun w6 (hb : Below wr.heap.size wr w6) => fields_c w6 p x m o 400 hh (HT.out.keep hb).hp (ptr hh k))
            have HRF := Lib.hid (fun w6 (hb : Below wr.heap.size wr w6) => rfields_c w6 r (r + 1) 400 hh (HT.out.keep hb).hd k bb hbb)
            rw [hfo] at HFL
            obtain ⟨F, hF⟩ : ∃ F, bb.2 = F := ⟨_, rfl⟩
            obtain ⟨pt, hpt⟩ : ∃ z, ptr hh k = z := ⟨_, rfl⟩
            rw [hF] at HFL HRF hgd
            rw [hpt] at HPT HFL
            have hF6 : F.length ≤ 1000000 := by omega
            have HSM := Lib.hid (fun w6 va vb a b => same_c w6 va vb F F a b hF6)
            clear hgd hF6
            rw [decide_eq_true (show F = F from rfl)] at HSM
            have i1 : (k : Int) < (K : Int) := by omega
            clear hbb hfo hF hpt q3
            go_wp2_with fail
            refine HPT.out.mono ?_
            rintro e w6 ⟨rfl, hb⟩
            have HB6 := Lib.hid hb
            clear hb
            go_wp2_with fail
            refine (HFL.out _ HB6.out).mono ?_
            rintro e w7 ⟨fv, rfl, hfv, _, hb⟩
            have HB7 := Lib.hid (bnext HB6.out hb)
            have HV7 := Lib.hid hfv
            obtain ⟨fa, fc, rfl, _⟩ := hfv.val
            clear hb hfv
            go_wp2_with fail
            refine (HRF.out _ HB7.out).mono ?_
            rintro e w8 ⟨gv, rfl, hgv, hb⟩
            have HB8 := Lib.hid (bnext HB7.out hb)
            have HV8 := Lib.hid (HV7.out.keep hb)
            have HW8 := Lib.hid (Go.Proofs.YtphebogjmbaboaaDoor.HN.has_row (Go.Proofs.YtphebogjmbaboaaDoor.HN.row_has hgv))
            obtain ⟨ga, gc, rfl, _⟩ := hgv.val
            clear hb hgv
            go_wp2_with fail
            refine (HSM.out _ _ _ HV8.out HW8.out).mono ?_
            rintro e w9 ⟨rfl, hb⟩
            have HT9 := Lib.hid (HT.out.keep (bnext HB8.out hb))
            have HX9 := Lib.hid (HX.out.trans ((bnext HB8.out hb).mono HT.out.low))
            clear hb y1
            go_wp2_with fail
            go_roundg g'
            case rel => exact ⟨k + 1, by have := HI.out; omega, by go_num, HT9, HX9⟩
            case measure => omega
          · have hkK : k = K := by omega
            subst hkK
            have q4 : ¬ (k : Int) < (k : Int) := by omega
            go_wp2_with fail
            refine (HL.out _ (HSG.out.below HX.out)).mono ?_
            rintro e w9 ⟨rfl, hb⟩
            have HX9 := Lib.hid (HX.out.trans (hb.mono HX.out.size))
            clear hb
            go_wp2_with fail
            go_ret
            exact ⟨rfl, HX9.out⟩
end Go.Proofs.YtphebogjmbaboaaDoor.IH
