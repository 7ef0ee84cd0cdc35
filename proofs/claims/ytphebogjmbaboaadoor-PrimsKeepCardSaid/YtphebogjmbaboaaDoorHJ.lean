/- The document's heap: words as numbers, a block's fields. -/
import Derived.Test.YtphebogjmbaboaaDoorHI
namespace Go.Proofs.YtphebogjmbaboaaDoor.HJ
open Go.RowKit Go.Proofs.YtphebogjmbaboaaDoor.RG Go.Proofs.YtphebogjmbaboaaDoor.RB Go.Proofs.YtphebogjmbaboaaDoor.HA Go.Proofs.YtphebogjmbaboaaDoor.HB Go.Proofs.YtphebogjmbaboaaDoor.HG Go.Proofs.YtphebogjmbaboaaDoor.HH Go.Proofs.YtphebogjmbaboaaDoor.HI
set_option linter.unusedVariables false
set_option maxRecDepth 100000
set_option maxRecDepth 100000

/-- A word of the document's as a number. -/
theorem say_c (w : World) (r B N : Nat) (h : Hp) (H : HDoc w r B N h) (n : Int) (hm : mayW h n = true) : Calls Tryd.prog 43 #[.pointer (some ⟨r, 0, none⟩), .agg #[.bool (wordOf h n).1, .int .i64 (wordOf h n).2]] w fun e w' => e = .returned (.int .i64 n) ∧ Below w.heap.size w w' := by
  cases hb : blk h n with
  | none =>
    have e : wordOf h n = (false, n) := by unfold wordOf; rw [hb]
    rw [e]
    clear H hb e hm
    go_enter Tryd.func43, Tryd.ntmps43
    go_wp2_with fail
    go_ret
    exact ⟨rfl, balloc _ _⟩
  | some k =>
    have e : wordOf h n = (true, (k : Int)) := by unfold wordOf; rw [hb]
    obtain ⟨h1, h2⟩ := blk_some hb
    rw [e]
    have HPT := Lib.hid (fun w' (hw : Below w.heap.size w w') => rpoint_c w' r B N h (H.keep hw) k (Nat.le_of_lt h1))
    have HP := Lib.hid h2
    clear H hb e hm h1 h2
    go_enter Tryd.func43, Tryd.ntmps43
    go_wp2_with fail
    refine (HPT.out _ (balloc _ _)).mono ?_
    rintro e w1 ⟨rfl, hb1⟩
    have HB1 := Lib.hid (bnext (balloc w (.cells #[.bool true, .int .i64 (k : Int)] 80)) hb1)
    clear hb1
    go_wp2_with fail
    go_ret
    exact ⟨ret_int HP.out.symm, HB1.out⟩
theorem rfields_c (w : World) (r B N : Nat) (h : Hp) (H : HDoc w r B N h) (k : Nat) (b : Bl) (hk : h[k]? = some b) : Calls Tryd.prog 17 #[.pointer (some ⟨r, 0, none⟩), .int .i64 k] w fun e w' => ∃ v, e = .returned v ∧ RowR TI w' (fun _ => True) v b.2 ∧ Below w.heap.size w w' := by
  obtain ⟨v, hbk, hrow⟩ := H.blk
  obtain ⟨ao, cap, rfl, _⟩ := hrow.val
  have hkl := (List.getElem?_eq_some_iff.1 hk).1
  have hnl : (docs h).length = h.length := by unfold docs; simp
  have hd : (docs h)[k]? = some (docB h b) := by unfold docs; simp [hk]
  obtain ⟨fb, off, cp, hve, hfl, a, b', c1, c2, hat⟩ := doc_at hrow hd
  rw [hnl] at hve hbk
  cases hve
  obtain ⟨n, hn⟩ : ∃ n, Hid (h.length = n) := ⟨_, Lib.hid rfl⟩
  rw [hn.out] at hbk hkl
  have k1 := hbk.cell 1 _ rfl
  have y0 := hat.p0
  have y1 := hat.p1
  have y2 := hat.p2
  have i0 : (0 : Int) ≤ (k : Int) := by omega
  have i1 : (k : Int) < (n : Int) := by omega
  have htag : (docB h b).tag = b.1 := by unfold docB; split <;> rfl
  rw [htag] at y0
  by_cases h201 : b.1 = 201
  · have hraw : docB h b = ⟨b.1, [], b.2⟩ := by unfold docB; rw [if_pos h201]
    have HRAW := Lib.hid (show RowR TI w (fun _ => True) (.slice b' b.2.length c2) b.2 from by
      have := hat.raw
      rw [hraw] at this
      exact this.weak (fun _ _ _ => trivial))
    rw [hraw] at y2
    have t1 : (b.1 == 201) = true := by rw [beq_iff_eq]; exact h201
    clear h201 hraw htag hat hd hrow H hk hnl y1
    go_enter Tryd.func17, Tryd.ntmps17
    go_wp2_with fail
    go_ret
    exact ⟨_, rfl, HRAW.out, Below.refl _ _⟩
  · have hws : docB h b = ⟨b.1, b.2.map (wordOf h), []⟩ := by unfold docB; rw [if_neg h201]
    have HMAY := Lib.hid (H.wf b (List.mem_of_getElem? hk) h201)
    have t1 : (b.1 == 201) = false := by rw [beq_eq_false_iff_ne]; exact h201
    have HH := Lib.hid H
    have hwr := hat.ws
    rw [hws] at y1 hwr
    have hg6 := (H.good b (List.mem_of_getElem? hk)).2
    obtain ⟨m, hm⟩ : ∃ m, Hid (b.2.length = m) := ⟨_, Lib.hid rfl⟩
    simp only [List.length_map, hm.out] at y1 hwr
    rw [hm.out] at hg6
    have HWR := Lib.hid hwr
    have HBK := Lib.hid hbk
    have Y0 := Lib.hid y0
    have Y1 := Lib.hid y1
    have HFL := Lib.hid hfl
    clear h201 hws htag hat hd hrow H hk hnl y2 hwr
    go_enter Tryd.func17, Tryd.ntmps17
    go_wp2_with fail
    have HO0 := Lib.hid (OwnR.nil (R := TI) w w.heap.size (fun _ => False))
    go_loopg [5, 6] m (fun g ov iv wr => ∃ i : Nat, i + g = m ∧ iv = .int .i64 (i : Int) ∧ Hid (OwnR TI wr w.heap.size (fun _ => False) ov (b.2.take i)) ∧ Hid (Below w.heap.size w wr))
    case atStart => exact ⟨0, Nat.zero_add _, rfl, HO0, Lib.hid (Below.refl _ _)⟩
    case round =>
      clear HO0 k1 y0 y1
      obtain ⟨i, hi, rfl, HO, HX⟩ := hrel
      have k1 := (HBK.out.keep HX.out).cell 1 _ rfl
      have y1 := (HX.out.cell (p := ⟨fb, off + k * 3 + 1, none⟩) HFL.out).trans Y1.out
      by_cases hlt : i < m
      · obtain ⟨g', rfl⟩ : ∃ g, gk = g + 1 := ⟨gk - 1, by omega⟩
        obtain ⟨z, hz⟩ := getElem?_of_lt (l := b.2) (k := i) (by rw [hm.out]; exact hlt)
        obtain ⟨wb, wo, wc, hve, _, hwl, hwc⟩ := HWR.out.open_ (by intro e; have := congrArg List.length e; rw [List.length_map, hm.out] at this; simp at this; omega)
        rw [List.length_map, hm.out] at hve
        cases hve
        obtain ⟨q, hL, _⟩ := hwc i (wordOf h z) (by simp [hz])
        have x0 := (HX.out.cell (p := ⟨wb, wo + i * 2, none⟩) hwl).trans (hL 0 _ rfl)
        have x1 := (HX.out.cell (p := ⟨wb, wo + i * 2 + 1, none⟩) hwl).trans (hL 1 _ rfl)
        have j0 : (0 : Int) ≤ (i : Int) := by omega
        have j1 : (i : Int) < (m : Int) := by omega
        have HSN := Lib.hid (show b.2.take (i + 1) = b.2.take i ++ [z] from by rw [List.take_add_one, hz]; rfl)
        have HSAY := Lib.hid (say_c wr r B N h (HH.out.keep HX.out) z (List.all_eq_true.1 HMAY.out z (List.mem_of_getElem? hz)))
        clear hL hwc hwl hz
        go_wp2_with fail
        refine HSAY.out.mono ?_
        rintro e w2 ⟨rfl, hb2⟩
        have HX2 := Lib.hid (bnext HX.out hb2)
        have HOA := Lib.hid ((HO.out.keep hb2).keep (balloc w2 (.cells #[.int .i64 z] 3)))
        have HRF := Lib.hid (show RowR TI (w2.alloc (.cells #[.int .i64 z] 3)) (fun b => False ∧ u5.ownBlock ≠ some b) (.slice (some ⟨w2.heap.size, 0, none⟩) 1 1) [z] from rowR_new (q := []) #[.int .i64 z] 3 rfl rfl)
        have HLN := Lib.hid (show (b.2.take i).length + [z].length ≤ 100000000000 from by rw [List.length_take]; simp; omega)
        have HBS := Lib.hid (show w.heap.size ≤ (w2.alloc (.cells #[.int .i64 z] 3)).heap.size from by have := HX2.out.size; simp; omega)
        have HOO := Lib.hid (fun b hb => (HO.out.own (b := b) hb).1)
        have HXA := Lib.hid (bnext HX2.out (balloc w2 (.cells #[.int .i64 z] 3)))
        clear hb2 HO
        go_wp2_with (at_builtin; go_loud (refine wpList_row TI (w2.alloc (.cells #[.int .i64 z] 3)) rfl (.tmp 37) (.tmp 51) rfl w.heap.size (fun _ => False) u5 (.slice (some ⟨w2.heap.size, 0, none⟩) 1 1) (b.2.take i) [z] rfl rfl HOA.out HRF.out HLN.out HBS.out ?_); intro ao6 n6 cap6 w6 hO6 hn6 hg6 ha6; have HO6 := Lib.hid hO6; have HX6 := Lib.hid (HXA.out.trans (bgrown hg6 (fun b e => HOO.out b e) HBS.out)); clear hO6 hn6 hg6 ha6)
        go_roundg g'
        case rel => exact ⟨i + 1, by omega, by go_num, Lib.hid (by rw [HSN.out]; exact HO6.out), HX6⟩
        case measure => omega
      · have HT := Lib.hid (show b.2.take i = b.2 from List.take_of_length_le (by rw [hm.out]; omega))
        go_wp2_with fail
        go_ret
        have hr := HO.out.row.weak (S' := fun _ => True) (fun _ _ _ => trivial)
        rw [HT.out] at hr
        exact ⟨_, rfl, hr, HX.out⟩
end Go.Proofs.YtphebogjmbaboaaDoor.HJ
