/- The document's heap: what a word is; a block's fields. (Written by tools/mkhi.py.) -/
import Derived.Test.YtphebogjmbaboaaDoorHH
namespace Go.Proofs.YtphebogjmbaboaaDoor.HI
open Go.RowKit Go.Proofs.YtphebogjmbaboaaDoor.RG Go.Proofs.YtphebogjmbaboaaDoor.RB Go.Proofs.YtphebogjmbaboaaDoor.HA Go.Proofs.YtphebogjmbaboaaDoor.HB Go.Proofs.YtphebogjmbaboaaDoor.HG Go.Proofs.YtphebogjmbaboaaDoor.HH Go.Proofs.YtphebogjmbaboaaDoor.M
set_option linter.unusedVariables false
set_option maxRecDepth 100000
set_option maxRecDepth 100000

/-- What Find answers. -/
def findR (h : Hp) (w : Int) : Wd × Bool := if w % 2 ≠ 0 then ((false, w), true) else match blk h w with
  | some k => ((true, (k : Int)), true)
  | none => ((false, 0), false)
theorem findR_may (h : Hp) (w : Int) : (findR h w).2 = mayW h w ∧ (mayW h w = true → (findR h w).1 = wordOf h w) := by
  unfold findR mayW wordOf
  by_cases hp : w % 2 ≠ 0
  · rw [if_pos hp]
    have hb : blk h w = none := Go.Proofs.YtphebogjmbaboaaDoor.HC.blk_bad (.inr (by omega))
    rw [hb]
    simp [hp]
  · rw [if_neg hp]
    cases hb : blk h w with
    | none => simp [hp]
    | some k => simp [hp]
def retF (x : Wd × Bool) : Ending := .returned (.tuple #[.agg #[.bool x.1.1, .int .i64 x.1.2], .bool x.2])
theorem rfind_c (w : World) (r B N : Nat) (h : Hp) (H : HDoc w r B N h) (z : Int) : Calls Tryd.prog 65 #[.pointer (some ⟨r, 0, none⟩), .int .i64 z] w fun e w' => e = retF (findR h z) ∧ Below w.heap.size w w' := by
  rcases (show z % 2 ≠ 0 ∨ z % 2 = 0 by omega) with hz | hz
  · have hz2 : (z.tmod 2 != 0) = true := by rw [bne_iff_ne]; intro e; have := (tmod2 z).1 e; omega
    have e : findR h z = ((false, z), true) := by unfold findR; rw [if_pos hz]
    rw [e]
    clear H hz e
    go_enter Tryd.func65, Tryd.ntmps65
    go_wp2_with fail
    have k0 := Bk.new w #[.bool false, .int .i64 z] 80
    have z0 := k0.cell 0 _ rfl
    have z1 := k0.cell 1 _ rfl
    exact bodyPost_ret (v := .tuple #[.agg #[.bool false, .int .i64 z], .bool true]) (by simp [results, Tryd.results65, go_sem, z0, z1]) rfl ⟨rfl, balloc _ _⟩
  · have hz2 : (z.tmod 2 != 0) = false := by rw [bne_eq_false_iff_eq]; exact (tmod2 z).2 hz
    obtain ⟨v, hk, hrow⟩ := H.blk
    obtain ⟨ao, cap, rfl, _⟩ := hrow.val
    have hnl : (docs h).length = h.length := by unfold docs; simp
    obtain ⟨n, hn⟩ : ∃ n, Hid (h.length = n) := ⟨_, Lib.hid rfl⟩
    rw [hnl, hn.out] at hrow hk
    have HNL := Lib.hid (hnl.trans hn.out)
    have HK := Lib.hid hk
    have HROW := Lib.hid hrow
    have HFIT := Lib.hid H.fit
    have HGOOD := Lib.hid H.good
    have hsz : n ≤ 65536 := by
      have h1 := H.fit
      have h2 := len_used h
      rw [hn.out] at h2
      omega
    have k1 := hk.cell 1 _ rfl
    clear H hk hrow hnl
    have HZ := Lib.hid hz
    clear k1 hz
    go_enter Tryd.func65, Tryd.ntmps65
    have HKW := Lib.hid (Bk.new w #[.bool false, .int .i64 0] 80)
    have HXW := Lib.hid (balloc w (.cells #[.bool false, .int .i64 0] 80))
    go_wp2_with fail
    obtain ⟨q, hq⟩ : ∃ q, Hid (w.heap.size = q) := ⟨_, Lib.hid rfl⟩
    rw [hq.out] at HKW ⊢
    go_loopg [6, 7] n (fun g nv iv wr => ∃ i : Nat, i + g = n ∧ iv = .int .i64 (i : Int) ∧ nv = .int .i64 ((1 + used (h.take i) : Nat) : Int) ∧ Hid (∀ j, j < i → z ≠ ptr h j) ∧ Hid (Below w.heap.size w wr) ∧ Hid (Bk wr q #[.bool false, .int .i64 0] 80))
    case atStart => exact ⟨0, Nat.zero_add _, rfl, rfl, Lib.hid (fun j hj => absurd hj (Nat.not_lt_zero _)), HXW, HKW⟩
    case round =>
      clear HKW HXW
      obtain ⟨i, hi, rfl, rfl, HNO, HX, HKR⟩ := hrel
      have k1 := (HK.out.keep HX.out).cell 1 _ rfl
      by_cases hlt : i < n
      · obtain ⟨g', rfl⟩ : ∃ g, gk = g + 1 := ⟨gk - 1, by omega⟩
        obtain ⟨b, hb⟩ := getElem?_of_lt (l := h) (k := i) (by rw [hn.out]; omega)
        have hd : (docs h)[i]? = some (docB h b) := by unfold docs; simp [hb]
        obtain ⟨fb, off, cp, hve, hfl, a, b', c1, c2, hat⟩ := doc_at HROW.out hd
        rw [HNL.out] at hve
        cases hve
        have y0 := (HX.out.cell (p := ⟨fb, off + i * 3, none⟩) hfl).trans hat.p0
        have y1 := (HX.out.cell (p := ⟨fb, off + i * 3 + 1, none⟩) hfl).trans hat.p1
        have y2 := (HX.out.cell (p := ⟨fb, off + i * 3 + 2, none⟩) hfl).trans hat.p2
        have hs := docB_size h b
        have hut := used_take hb
        have hul := used_le h (i + 1)
        have hgd := HGOOD.out b (List.mem_of_getElem? hb)
        have hfi := HFIT.out
        obtain ⟨l1, hl1⟩ : ∃ x, (docB h b).ws.length = x := ⟨_, rfl⟩
        obtain ⟨l2, hl2⟩ : ∃ x, (docB h b).raw.length = x := ⟨_, rfl⟩
        rw [hl1] at y1 hs
        rw [hl2] at y2 hs
        have HU := Lib.hid (show used (h.take (i + 1)) = used (h.take i) + (1 + l1 + l2) from by rw [hut, hs])
        have hub : used (h.take i) + (1 + l1 + l2) ≤ 65536 := by rw [← HU.out]; omega
        obtain ⟨U, hU⟩ : ∃ U, used (h.take i) = U := ⟨_, rfl⟩
        rw [hU] at hub HU ⊢
        have HUU := Lib.hid hU
        have i0 : (0 : Int) ≤ (i : Int) := by omega
        have i1 : (i : Int) < (n : Int) := by omega
        have HSZ := Lib.hid (fun w' => size_c (docB h b).tag a b' l1 l2 c1 c2 w' (by omega) (by omega))
        have HBI := Lib.hid hb
        clear hd hat hs hut hul hgd hfi hl1 hl2 hb hfl hU
        have hup : U ≤ 65536 := by omega
        by_cases heq : z = 2 * ((1 + U : Nat) : Int)
        · have hf : findR h z = ((true, (i : Int)), true) := by
            have hp : z = ptr h i := by rw [heq]; unfold ptr place; rw [HUU.out]
            unfold findR
            rw [if_neg (by have := HZ.out; omega), hp, blk_yes (by rw [hn.out]; exact hlt)]
          have t1 : (z == 2 * ((1 + U : Nat) : Int)) = true := by rw [beq_iff_eq]; exact heq
          have HFR := Lib.hid hf
          have w0 := HKR.out.cell 0 _ rfl
          have w1 := HKR.out.cell 1 _ rfl
          have e0 := HKR.out.free 0
          have e1 := HKR.out.free 1
          have lq := HKR.out.lt
          clear hf heq
          go_wp2_with fail
          have hst := (HKR.out.set 0 (.bool true)).set 1 (.int .i64 (i : Int))
          have z0 := hst.cell 0 _ rfl
          have z1 := hst.cell 1 _ rfl
          rw [show findR h z = ((true, (i : Int)), true) from HFR.out]
          exact bodyPost_ret (v := .tuple #[.agg #[.bool true, .int .i64 (i : Int)], .bool true]) (by simp [results, Tryd.results65, go_sem, z0, z1]) rfl ⟨rfl, (HX.out.setCell (p := ⟨q, 0, none⟩) (by rw [← hq.out]; exact Nat.le_refl _) _).setCell (p := ⟨q, 1, none⟩) (by rw [← hq.out]; exact Nat.le_refl _) _⟩
        · have t1 : (z == 2 * ((1 + U : Nat) : Int)) = false := by rw [beq_eq_false_iff_ne]; exact heq
          have HNE := Lib.hid (show ∀ j, j < i + 1 → z ≠ ptr h j from fun j hj => by
            rcases Nat.lt_or_ge j i with hj2 | hj2
            · exact HNO.out j hj2
            · obtain rfl : j = i := by omega
              intro e
              exact heq (by rw [e]; unfold ptr place; rw [HUU.out]))
          clear heq
          go_wp2_with fail
          refine (HSZ.out _).mono ?_
          rintro e w2 ⟨rfl, hb2⟩
          have HX2 := Lib.hid (bnext HX.out hb2)
          go_wp2_with fail
          go_roundg g'
          case rel => exact ⟨i + 1, by omega, by go_num, by rw [HU.out]; go_num, HNE, HX2, Lib.hid (HKR.out.keep (by first | exact hb2 | exact Below.trans (bdr _) hb2))⟩
          case measure => omega
      · have hf : findR h z = ((false, 0), false) := by
          unfold findR
          rw [if_neg (by have := HZ.out; omega)]
          cases hb : blk h z with
          | none => rfl
          | some k =>
            obtain ⟨h1, h2⟩ := blk_some hb
            exact absurd h2 (HNO.out k (by rw [hn.out] at h1; omega))
        have HFR := Lib.hid hf
        have w0 := HKR.out.cell 0 _ rfl
        have w1 := HKR.out.cell 1 _ rfl
        have e0 := HKR.out.free 0
        have e1 := HKR.out.free 1
        have lq := HKR.out.lt
        clear hf
        go_wp2_with fail
        have hst := (HKR.out.set 0 (.bool false)).set 1 (.int .i64 0)
        have z0 := hst.cell 0 _ rfl
        have z1 := hst.cell 1 _ rfl
        rw [show findR h z = ((false, 0), false) from HFR.out]
        exact bodyPost_ret (v := .tuple #[.agg #[.bool false, .int .i64 0], .bool false]) (by simp [results, Tryd.results65, go_sem, z0, z1]) rfl ⟨rfl, (HX.out.setCell (p := ⟨q, 0, none⟩) (by rw [← hq.out]; exact Nat.le_refl _) _).setCell (p := ⟨q, 1, none⟩) (by rw [← hq.out]; exact Nat.le_refl _) _⟩
end Go.Proofs.YtphebogjmbaboaaDoor.HI
