/- The document's heap: how many words are in use, pointers, what a word is. -/
import Derived.Test.YtphebogjmbaboaaDoorHG
namespace Go.Proofs.YtphebogjmbaboaaDoor.HH
open Go.RowKit Go.Proofs.YtphebogjmbaboaaDoor.RG Go.Proofs.YtphebogjmbaboaaDoor.RB Go.Proofs.YtphebogjmbaboaaDoor.HA Go.Proofs.YtphebogjmbaboaaDoor.HB Go.Proofs.YtphebogjmbaboaaDoor.HG
set_option linter.unusedVariables false
set_option maxRecDepth 100000
set_option maxRecDepth 100000

theorem ret_int {a b : Int} (h : a = b) : Ending.returned (.int .i64 a) = .returned (.int .i64 b) := by rw [h]
theorem size_c (t : Int) (a b : Option Addr) (n m c d : Nat) (w : World) (hn : n ≤ 100000) (hm : m ≤ 100000) : Calls Tryd.prog 41 #[.agg #[.int .i64 t, .slice a n c, .slice b m d]] w fun e w' => e = .returned (.int .i64 ((1 + n + m : Nat) : Int)) ∧ Below w.heap.size w w' := by
  go_enter Tryd.func41, Tryd.ntmps41
  go_wp2_with fail
  go_ret
  exact ⟨ret_int (by omega), balloc _ _⟩
/-- A block of the document's in memory. -/
structure DocAt (w : World) (S : Nat → Prop) (fb o : Nat) (d : Db) (a b : Option Addr) (c1 c2 : Nat) : Prop where
  p0 : w.cell? ⟨fb, o, none⟩ = some (.int .i64 d.tag)
  p1 : w.cell? ⟨fb, o + 1, none⟩ = some (.slice a d.ws.length c1)
  p2 : w.cell? ⟨fb, o + 2, none⟩ = some (.slice b d.raw.length c2)
  ws : RowR TW w S (.slice a d.ws.length c1) d.ws
  raw : RowR TI w S (.slice b d.raw.length c2) d.raw
theorem doc_at {w : World} {B : Nat} {T : Nat → Prop} {v : Value} {l : List Db} (h : OwnR TD w B T v l) {i : Nat} {d : Db} (hd : l[i]? = some d) : ∃ fb off cap, v = .slice (some ⟨fb, off, none⟩) l.length cap ∧ fb < w.heap.size ∧ ∃ a b c1 c2, DocAt w T fb (off + i * 3) d a b c1 c2 := by
  obtain ⟨fb, off, cap, hv, _, hlt, hc⟩ := h.row.open_ (by intro e; rw [e] at hd; simp at hd)
  obtain ⟨q, hL, x, y, qa, qb, rfl, ⟨h1, h2⟩, ⟨h3, h4⟩⟩ := hc i d hd
  obtain ⟨a, c1, rfl, k1⟩ := h1
  obtain ⟨b, c2, rfl, k2⟩ := h3
  exact ⟨fb, off, cap, hv, hlt, a, b, c1, c2, hL 0 _ rfl, hL 1 _ rfl, hL 2 _ rfl, ⟨qa, ⟨a, c1, rfl, k1.1, k1.2.imp (fun h => h) (fun ⟨b, o, e1, e2, e3⟩ => ⟨b, o, e1, ⟨trivial, e2.2⟩, e3⟩)⟩, h2⟩, ⟨qb, ⟨b, c2, rfl, k2.1, k2.2.imp (fun h => h) (fun ⟨b, o, e1, e2, e3⟩ => ⟨b, o, e1, ⟨trivial, e2.2⟩, e3⟩)⟩, h4⟩⟩
theorem len_used : ∀ h : Hp, h.length ≤ used h
  | [] => Nat.le_refl _
  | b :: h => by
    have ih := len_used h
    have : used (b :: h) = size b + used h := by simp [used]
    rw [this, List.length_cons]
    unfold size
    omega
theorem rused_c (w : World) (r B N : Nat) (h : Hp) (H : HDoc w r B N h) : Calls Tryd.prog 13 #[.pointer (some ⟨r, 0, none⟩)] w fun e w' => e = .returned (.int .i64 (used h)) ∧ Below w.heap.size w w' := by
  obtain ⟨v, hk, hrow⟩ := H.blk
  obtain ⟨ao, cap, rfl, _⟩ := hrow.val
  have hnl : (docs h).length = h.length := by unfold docs; simp
  obtain ⟨n, hn⟩ : ∃ n, Hid (h.length = n) := ⟨_, Lib.hid rfl⟩
  rw [hnl, hn.out] at hrow hk
  have HNL := Lib.hid (hnl.trans hn.out)
  have HK := Lib.hid hk
  have HROW := Lib.hid hrow
  have HFIT := Lib.hid H.fit
  have HGOOD := Lib.hid H.good
  have hsz : n ≤ 65536 := by
    have h1 := H.fit
    have h2 := len_used h
    rw [hn.out] at h2
    omega
  have k1 := hk.cell 1 _ rfl
  clear H hk hrow hnl
  go_enter Tryd.func13, Tryd.ntmps13
  go_wp2_with fail
  go_loopg [3, 4] n (fun g nv iv wr => ∃ i : Nat, i + g = n ∧ iv = .int .i64 (i : Int) ∧ nv = .int .i64 (used (h.take i)) ∧ Hid (Below w.heap.size w wr))
  case atStart => exact ⟨0, Nat.zero_add _, rfl, rfl, Lib.hid (Below.refl _ _)⟩
  case round =>
    clear k1
    obtain ⟨i, hi, rfl, rfl, HX⟩ := hrel
    have k1 := (HK.out.keep HX.out).cell 1 _ rfl
    by_cases hlt : i < n
    · obtain ⟨g', rfl⟩ : ∃ g, gk = g + 1 := ⟨gk - 1, by omega⟩
      obtain ⟨b, hb⟩ := getElem?_of_lt (l := h) (k := i) (by rw [hn.out]; omega)
      have hd : (docs h)[i]? = some (docB h b) := by unfold docs; simp [hb]
      obtain ⟨fb, off, cp, hve, hfl, a, b', c1, c2, hat⟩ := doc_at HROW.out hd
      rw [HNL.out] at hve
      cases hve
      have y0 := (HX.out.cell (p := ⟨fb, off + i * 3, none⟩) hfl).trans hat.p0
      have y1 := (HX.out.cell (p := ⟨fb, off + i * 3 + 1, none⟩) hfl).trans hat.p1
      have y2 := (HX.out.cell (p := ⟨fb, off + i * 3 + 2, none⟩) hfl).trans hat.p2
      have hs := docB_size h b
      have hut := used_take hb
      have hul := used_le h (i + 1)
      have hgd := HGOOD.out b (List.mem_of_getElem? hb)
      have hfi := HFIT.out
      obtain ⟨l1, hl1⟩ : ∃ x, (docB h b).ws.length = x := ⟨_, rfl⟩
      obtain ⟨l2, hl2⟩ : ∃ x, (docB h b).raw.length = x := ⟨_, rfl⟩
      rw [hl1] at y1 hs
      rw [hl2] at y2 hs
      have HU := Lib.hid (show used (h.take (i + 1)) = used (h.take i) + (1 + l1 + l2) from by rw [hut, hs])
      have hub : used (h.take i) + (1 + l1 + l2) ≤ 65536 := by rw [← HU.out]; omega
      obtain ⟨U, hU⟩ : ∃ U, used (h.take i) = U := ⟨_, rfl⟩
      rw [hU] at hub HU ⊢
      have HUU := Lib.hid hU
      have i0 : (0 : Int) ≤ (i : Int) := by omega
      have i1 : (i : Int) < (n : Int) := by omega
      have HSZ := Lib.hid (fun w' => size_c (docB h b).tag a b' l1 l2 c1 c2 w' (by omega) (by omega))
      have HBI := Lib.hid hb
      clear hd hat hs hut hul hgd hfi hl1 hl2 hb hfl hU
      go_wp2_with fail
      refine (HSZ.out _).mono ?_
      rintro e w2 ⟨rfl, hb2⟩
      have HX2 := Lib.hid (bnext HX.out hb2)
      clear hb2
      go_wp2_with fail
      go_roundg g'
      case rel => exact ⟨i + 1, by omega, by go_num, by rw [HU.out]; go_num, HX2⟩
      case measure => omega
    · have HT := Lib.hid (show used (h.take i) = used h from by rw [List.take_of_length_le (by rw [hn.out]; omega)])
      go_wp2_with fail
      go_ret
      exact ⟨ret_int (by rw [HT.out]), HX.out⟩
theorem rpoint_c (w : World) (r B N : Nat) (h : Hp) (H : HDoc w r B N h) (k : Nat) (hkl : k ≤ h.length) : Calls Tryd.prog 16 #[.pointer (some ⟨r, 0, none⟩), .int .i64 k] w fun e w' => e = .returned (.int .i64 (ptr h k)) ∧ Below w.heap.size w w' := by
  obtain ⟨v, hk, hrow⟩ := H.blk
  obtain ⟨ao, cap, rfl, _⟩ := hrow.val
  have hnl : (docs h).length = h.length := by unfold docs; simp
  obtain ⟨n, hn⟩ : ∃ n, Hid (h.length = n) := ⟨_, Lib.hid rfl⟩
  rw [hnl, hn.out] at hrow hk
  have HNL := Lib.hid (hnl.trans hn.out)
  have HK := Lib.hid hk
  have HROW := Lib.hid hrow
  have HFIT := Lib.hid H.fit
  have HGOOD := Lib.hid H.good
  have hsz : n ≤ 65536 := by
    have h1 := H.fit
    have h2 := len_used h
    rw [hn.out] at h2
    omega
  have k1 := hk.cell 1 _ rfl
  clear H hk hrow hnl
  have HUB := Lib.hid (show used (h.take k) ≤ 65536 from by have := used_le h k; have := HFIT.out; omega)
  rw [hn.out] at hkl
  clear k1
  go_enter Tryd.func16, Tryd.ntmps16
  go_wp2_with fail
  go_loopg [5, 6] k (fun g nv iv wr => ∃ i : Nat, i + g = k ∧ iv = .int .i64 (i : Int) ∧ nv = .int .i64 ((1 + used (h.take i) : Nat) : Int) ∧ Hid (Below w.heap.size w wr))
  case atStart => exact ⟨0, Nat.zero_add _, rfl, rfl, Lib.hid (Below.refl _ _)⟩
  case round =>
    obtain ⟨i, hi, rfl, rfl, HX⟩ := hrel
    have k1 := (HK.out.keep HX.out).cell 1 _ rfl
    by_cases hlt : i < k
    · obtain ⟨g', rfl⟩ : ∃ g, gk = g + 1 := ⟨gk - 1, by omega⟩
      obtain ⟨b, hb⟩ := getElem?_of_lt (l := h) (k := i) (by rw [hn.out]; omega)
      have hd : (docs h)[i]? = some (docB h b) := by unfold docs; simp [hb]
      obtain ⟨fb, off, cp, hve, hfl, a, b', c1, c2, hat⟩ := doc_at HROW.out hd
      rw [HNL.out] at hve
      cases hve
      have y0 := (HX.out.cell (p := ⟨fb, off + i * 3, none⟩) hfl).trans hat.p0
      have y1 := (HX.out.cell (p := ⟨fb, off + i * 3 + 1, none⟩) hfl).trans hat.p1
      have y2 := (HX.out.cell (p := ⟨fb, off + i * 3 + 2, none⟩) hfl).trans hat.p2
      have hs := docB_size h b
      have hut := used_take hb
      have hul := used_le h (i + 1)
      have hgd := HGOOD.out b (List.mem_of_getElem? hb)
      have hfi := HFIT.out
      obtain ⟨l1, hl1⟩ : ∃ x, (docB h b).ws.length = x := ⟨_, rfl⟩
      obtain ⟨l2, hl2⟩ : ∃ x, (docB h b).raw.length = x := ⟨_, rfl⟩
      rw [hl1] at y1 hs
      rw [hl2] at y2 hs
      have HU := Lib.hid (show used (h.take (i + 1)) = used (h.take i) + (1 + l1 + l2) from by rw [hut, hs])
      have hub : used (h.take i) + (1 + l1 + l2) ≤ 65536 := by rw [← HU.out]; omega
      obtain ⟨U, hU⟩ : ∃ U, used (h.take i) = U := ⟨_, rfl⟩
      rw [hU] at hub HU ⊢
      have HUU := Lib.hid hU
      have i0 : (0 : Int) ≤ (i : Int) := by omega
      have i1 : (i : Int) < (n : Int) := by omega
      have HSZ := Lib.hid (fun w' => size_c (docB h b).tag a b' l1 l2 c1 c2 w' (by omega) (by omega))
      have HBI := Lib.hid hb
      clear hd hat hs hut hul hgd hfi hl1 hl2 hb hfl hU
      go_wp2_with fail
      refine (HSZ.out _).mono ?_
      rintro e w2 ⟨rfl, hb2⟩
      have HX2 := Lib.hid (bnext HX.out hb2)
      clear hb2
      go_wp2_with fail
      go_roundg g'
      case rel => exact ⟨i + 1, by omega, by go_num, by rw [HU.out]; go_num, HX2⟩
      case measure => omega
    · obtain rfl : i = k := by omega
      have hub := HUB.out
      have HT := Lib.hid (show 2 * ((1 + used (h.take i) : Nat) : Int) = ptr h i from rfl)
      obtain ⟨U, hU⟩ : ∃ U, used (h.take i) = U := ⟨_, rfl⟩
      rw [hU] at hub HT ⊢
      clear hU k1
      go_wp2_with fail
      go_ret
      exact ⟨ret_int (by rw [← HT.out]; first | rfl | (push_cast; rfl) | (unfold wrap64; omega) | omega), HX.out⟩
end Go.Proofs.YtphebogjmbaboaaDoor.HH
