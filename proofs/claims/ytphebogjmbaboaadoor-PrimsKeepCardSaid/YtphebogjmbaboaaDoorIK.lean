/- One half of the memory in a block of its own: what adds a block to it, what tells one. -/
import Derived.Test.YtphebogjmbaboaaDoorHE
namespace Go.Proofs.YtphebogjmbaboaaDoor.IK
open Go.RowKit Go.Proofs.YtphebogjmbaboaaDoor.RG Go.Proofs.YtphebogjmbaboaaDoor.RB Go.Proofs.YtphebogjmbaboaaDoor.RM Go.Proofs.YtphebogjmbaboaaDoor.HA Go.Proofs.YtphebogjmbaboaaDoor.HB Go.Proofs.YtphebogjmbaboaaDoor.HC Go.Proofs.YtphebogjmbaboaaDoor.HD Go.Proofs.YtphebogjmbaboaaDoor.HE Go.Proofs.YtphebogjmbaboaaDoor.K1
set_option linter.unusedVariables false
set_option maxRecDepth 100000
set_option maxRecDepth 100000

/-- One half of the memory, in a block of its own: the block p of the half, x of its words, m of the set of places; N words; the blocks h. -/
structure HF (w : World) (p x m N : Nat) (h : Hp) : Prop where
  blk : Bk w p #[.slice (some ⟨x, 0, none⟩) N N, .int .i64 (used h), .map (some m)] 65
  ws : ∃ L, RowN w x L ∧ L.length = N ∧ L.take (used h) = lay h
  set : SetB w m ((List.range h.length).map fun k => (place h k : Int))
  ne : p ≠ x ∧ p ≠ m ∧ x ≠ m
  fit : used h ≤ N ∧ N ≤ 65536
  good : ∀ b, b ∈ h → (0 ≤ b.1 ∧ b.1 ≤ 201) ∧ b.2.length ≤ 60
theorem HF.keep {w w' : World} {p x m N : Nat} {h : Hp} (H : HF w p x m N h) (hb : Below w.heap.size w w') : HF w' p x m N h := by
  obtain ⟨L, h1, h2⟩ := H.ws
  exact ⟨H.blk.keep hb, ⟨L, h1.keep hb, h2⟩, H.set.keep hb, H.ne, H.fit, H.good⟩
theorem HF.lt {w : World} {p x m N : Nat} {h : Hp} (H : HF w p x m N h) : p < w.heap.size ∧ x < w.heap.size ∧ m < w.heap.size := by
  obtain ⟨L, h1, h2⟩ := H.ws
  exact ⟨H.blk.lt, h1.lt, H.set.lt⟩
/-- A block's words in memory. -/
theorem HF.word {w : World} {p x m N k : Nat} {h : Hp} {b : Bl} (H : HF w p x m N h) (hk : h[k]? = some b) (j : Nat) (hj : j < size b) (z : Int) (hz : (words b)[j]? = some z) : w.cell? ⟨x, used (h.take k) + j, none⟩ = some (.int .i64 z) := by
  obtain ⟨L, hL, _, ht⟩ := H.ws
  refine hL.cell _ _ (xints_at ?_)
  have h1 := lay_at hk j hj
  have h2 := used_take hk
  have h3 := used_le h (k + 1)
  rw [← ht, List.getElem?_take, if_pos (by omega), hz] at h1
  exact h1
theorem HF.room {w : World} {p x m N k : Nat} {h : Hp} {b : Bl} (H : HF w p x m N h) (hk : h[k]? = some b) : used (h.take k) + size b ≤ N := by
  have h2 := used_take hk
  have h3 := used_le h (k + 1)
  have := H.fit.1
  omega
theorem block_t (w : World) (p x m N : Nat) (h : Hp) (H : HF w p x m N h) (k : Nat) (b : Bl) (hk : h[k]? = some b) :
    Calls Tryd.prog 68 #[.pointer (some ⟨p, 0, none⟩), .int .i64 (place h k)] w fun e w' => e = .returned (.slice (some ⟨x, used (h.take k), none⟩) (size b) (N - used (h.take k))) ∧ w = w' := by
  have k0 := H.blk.cell 0 _ rfl
  have x0 := H.word hk 0 (by unfold size; omega) _ rfl
  rw [Nat.add_zero] at x0
  have hr := H.room hk
  have hg := H.good b (List.mem_of_getElem? hk)
  have hN := H.fit.2
  have hU : (place h k : Int) = (used (h.take k) : Int) + 1 := by unfold place; omega
  rw [hU]
  obtain ⟨U, hU2⟩ : ∃ U, Hid (used (h.take k) = U) := ⟨_, Lib.hid rfl⟩
  rw [hU2.out] at x0 hr ⊢
  obtain ⟨t, f⟩ := b
  obtain ⟨n, hn⟩ : ∃ n, Hid (f.length = n) := ⟨_, Lib.hid rfl⟩
  simp only at hg
  have hsz : size (t, f) = 1 + n := by unfold size; simp [hn.out]
  rw [hsz] at hr ⊢
  rw [hn.out] at hg
  simp only [hn.out] at x0
  have hmod : (t * 61 + (n : Int)).tmod 61 = (n : Int) := by
    rw [Int.tmod_eq_emod_of_nonneg (by omega)]
    omega
  have i1 : (0 : Int) ≤ (U : Int) + 1 - 1 := by omega
  clear hU hsz H hk
  go_enter Tryd.func68, Tryd.ntmps68
  go_wp2_with fail
  go_ret
  exact ⟨rfl, rfl⟩
theorem add_tend {w W1 w2 W3 : World} {p x m N U n : Nat} {h : Hp} {t : Int} {l L : List Int} {cur cs : List Value} (H : HF w p x m N h) (hU : used h = U) (hn : l.length = n) (hr : U + 1 + n ≤ N) (h0 : 0 ≤ t) (h1 : t ≤ 201) (hl : n ≤ 60)
    (hLN : L.length = N) (hLt : L.take (used h) = lay h) (hon : On3 p x m w W1) (hot : ∀ k, k ≠ x → W1.heap[k]? = w.heap[k]?) (hg2 : w2.heap[x]? = some (.cells (splice cur (U + 1) cs).toArray 3 (0, 0)))
    (hcur : (L.set U (t * 61 + (n : Int))).map (Value.int .i64) = cur) (hcs : l.map (Value.int .i64) = cs) (ho2 : On1 x W1.drew w2) (hke : (place h h.length : Int) = (U : Int) + 1)
    (hW3 : setMap w2 m (.map (entsK 0 (keys h ++ [(U : Int) + 1])).toArray (keys h ++ [(U : Int) + 1]).length) = W3) (hst : SetB w2 m (keys h))
    (hbp : Bk W3 p #[.slice (some ⟨x, 0, none⟩) N N, .int .i64 U, .map (some m)] 65) :
    HF (W3.setCell ⟨p, 1, none⟩ (.int .i64 ((U : Int) + (1 + (n : Int))))) p x m N (h ++ [(t, l)]) ∧ On3 p x m w (W3.setCell ⟨p, 1, none⟩ (.int .i64 ((U : Int) + (1 + (n : Int))))) := by
  subst hn
  obtain ⟨n1, n2, n4⟩ := H.ne
  have hus : used (h ++ [(t, l)]) = U + (1 + l.length) := by rw [used_snoc, hU]; rfl
  have hw2 : ∀ k, k ≠ m → W3.heap[k]? = w2.heap[k]? := fun k hk => by rw [← hW3]; exact setMap_other m _ hk
  obtain ⟨e1, e2⟩ := laid (hd := t * 61 + (l.length : Int)) (l := l) hLN (show U + 1 + l.length ≤ N by omega)
  refine ⟨⟨?_, ⟨splice (L.set U (t * 61 + (l.length : Int))) (U + 1) l, ?_, e2, ?_⟩, ?_, H.ne, ⟨by omega, H.fit.2⟩, ?_⟩, ?_⟩
  · rw [hus]
    exact hbp.set 1 _
  · refine Bk.other ?_ (Ne.symm n1) 1 _
    show W3.heap[x]? = _
    rw [hw2 x n4, hg2, ← hcur, ← hcs, splice_map]
    rfl
  · rw [hus, e1, lay_snoc]
    congr 1
    rw [← hLt, hU]
  · have hk := keys_snoc h (t, l)
    unfold keys at hk
    rw [hk]
    unfold SetB
    rw [Below.heap_setCell _ _ _ _ (Ne.symm n2), ← hW3, hke]
    exact setMap_at hst
  · intro b hb
    rcases List.mem_append.1 hb with hb | hb
    · exact H.good b hb
    · rw [List.mem_singleton.1 hb]
      exact ⟨⟨h0, h1⟩, hl⟩
  · have a1 : On3 p x m W1 w2 := ⟨ho2.os, ho2.tape, ho2.output, by rw [ho2.size]; exact Nat.le_refl _, fun k _ _ h2 _ => ho2.block k h2⟩
    have a2 : On3 p x m w2 W3 := ⟨by rw [← hW3]; rfl, by rw [← hW3]; rfl, by rw [← hW3]; rfl, by rw [← hW3, setMap_size]; exact Nat.le_refl _, fun k _ _ _ h3 => hw2 k h3⟩
    exact ((hon.trans a1).trans a2).trans (On3.cell W3 (.inl rfl) 1 _)
theorem add_t (w : World) (p x m N : Nat) (h : Hp) (H : HF w p x m N h) (t : Int) (v : Value) (l : List Int) (hv : RowI w v l) (hx : ∀ b, v.ownBlock = some b → b ≠ x) (h0 : 0 ≤ t) (h1 : t ≤ 201) (hl : l.length ≤ 60) (hr : used h + 1 + l.length ≤ N) :
    Calls Tryd.prog 64 #[.pointer (some ⟨p, 0, none⟩), .int .i64 t, v] w fun e w' => e = .returned (.int .i64 (place h h.length)) ∧ HF w' p x m N (h ++ [(t, l)]) ∧ On3 p x m w w' := by
  obtain ⟨ao, cap, rfl, _⟩ := hv.val
  obtain ⟨n, hn⟩ : ∃ n, Hid (l.length = n) := ⟨_, Lib.hid rfl⟩
  obtain ⟨U, hU⟩ : ∃ U, Hid (used h = U) := ⟨_, Lib.hid rfl⟩
  have HH := Lib.hid H
  have hblk := H.blk
  rw [hU.out] at hblk hr
  rw [hn.out] at hv hl hr hx ⊢
  have hN := H.fit.2
  obtain ⟨L, hL, hLN, hLt⟩ := H.ws
  have HL := Lib.hid hL
  have HLN := Lib.hid hLN
  have HLT := Lib.hid hLt
  have k0 := hblk.cell 0 _ rfl
  have k1 := hblk.cell 1 _ rfl
  have k2 := hblk.cell 2 _ rfl
  have f1 := hblk.free 1
  have lp := hblk.lt
  obtain ⟨u, hu⟩ := getElem?_of_lt (l := L) (k := U) (by omega)
  have c0 := hL.cell U _ (xints_at hu)
  have cf := hL.free U
  have lx := hL.lt
  have i1 : (U : Int) < (N : Int) := by omega
  have i2 : (0 : Int) ≤ (U : Int) := by omega
  clear hL hu H hLt
  go_enter Tryd.func64, Tryd.ntmps64
  go_wp2_with fail
  have HPX := Lib.hid (show p ≠ x from HH.out.ne.1)
  have HC1 := Lib.hid (show w.drew.cell? ⟨p, 0, none⟩ = some (.slice (some ⟨x, 0, none⟩) N N) ∧ w.drew.cell? ⟨p, 1, none⟩ = some (.int .i64 U) from ⟨k0, k1⟩)
  have HBP := Lib.hid (hblk.other HPX.out U (.int .i64 (IntKind.i64.wrap (IntKind.i64.wrap (t * 61) + (n : Int)))))
  have HC2 := Lib.hid (show (w.setCell ⟨x, U, none⟩ (.int .i64 (IntKind.i64.wrap (IntKind.i64.wrap (t * 61) + (n : Int))))).drew.cell? ⟨p, 0, none⟩ = some (.slice (some ⟨x, 0, none⟩) N N) ∧ (w.setCell ⟨x, U, none⟩ (.int .i64 (IntKind.i64.wrap (IntKind.i64.wrap (t * 61) + (n : Int))))).drew.cell? ⟨p, 1, none⟩ = some (.int .i64 U) from ⟨HBP.out.cell 0 _ rfl, HBP.out.cell 1 _ rfl⟩)
  go_region_held3 (fun w' => w'.cell? ⟨p, 0, none⟩ = some (.slice (some ⟨x, 0, none⟩) N N) ∧ w'.cell? ⟨p, 1, none⟩ = some (.int .i64 U)) (first | with_reducible exact HC1.out | with_reducible exact HC2.out | go_keep) (fail)
  have HHD := Lib.hid (show IntKind.i64.wrap (IntKind.i64.wrap (t * 61) + (n : Int)) = t * 61 + (n : Int) from by
    rw [IntKind.wrap_i64, IntKind.wrap_i64]
    omega)
  rw [HHD.out] at HBP ⊢
  obtain ⟨W1, hW1⟩ : ∃ W, W = (w.setCell ⟨x, U, none⟩ (.int .i64 (t * 61 + (n : Int)))).drew := ⟨_, rfl⟩
  have hbp : Bk W1 p #[.slice (some ⟨x, 0, none⟩) N N, .int .i64 U, .map (some m)] 65 := by rw [hW1]; exact HBP.out
  have hxl : RowN W1 x (L.set U (t * 61 + (n : Int))) := by
    have := HL.out.set U (.int .i64 (t * 61 + (n : Int)))
    rw [xints_set] at this
    rw [hW1]
    exact this
  have hsz1 : W1.heap.size = w.heap.size := by rw [hW1]; show (w.setCell _ _).heap.size = _; simp
  have hot1 : ∀ k, k ≠ x → W1.heap[k]? = w.heap[k]? := fun k hk => by rw [hW1]; exact Below.heap_setCell _ _ _ _ hk
  have hrow1 : ∀ (j : Nat) z, l[j]? = some z → ∃ ad, ao = some ad ∧ W1.cell? (ad.add j) = some (.int .i64 z) := by
    intro j z hz
    obtain ⟨b, off, cp, hve, _, hblt, hcells⟩ := hv.open_ (by intro e; rw [e] at hz; simp at hz)
    rw [hn.out] at hve
    cases hve
    obtain ⟨q, hLI, _⟩ := hcells j z hz
    have := hLI 0 _ rfl
    refine ⟨_, rfl, ?_⟩
    rw [add_plain, World.cell?_of_block (hot1 b (hx b rfl))]
    simpa [TI, Ty.flat] using this
  rw [← hW1]
  have HBP1 := Lib.hid hbp
  have HXL := Lib.hid hxl
  have HSZ1 := Lib.hid hsz1
  have HOT1 := Lib.hid hot1
  have HON1 := Lib.hid (show On3 p x m w W1 from ⟨by rw [hW1]; rfl, by rw [hW1]; rfl, by rw [hW1]; rfl, by rw [hsz1]; exact Nat.le_refl _, fun k _ _ h2 _ => hot1 k h2⟩)
  have HRW := Lib.hid hrow1
  clear hW1 hbp hxl hsz1 hot1 hrow1 HBP HC1 HC2 k0 k1 k2 f1 lp c0 cf lx hblk hv
  obtain ⟨cur, hcur⟩ : ∃ cur, Hid ((L.set U (t * 61 + (n : Int))).map (Value.int .i64) = cur) := ⟨_, Lib.hid rfl⟩
  obtain ⟨cs, hcs⟩ : ∃ cs, Hid (l.map (Value.int .i64) = cs) := ⟨_, Lib.hid rfl⟩
  have HCUR := Lib.hid (show W1.heap[x]? = some (.cells cur.toArray 3 (0, 0)) from by rw [← hcur.out]; exact HXL.out)
  have HCL := Lib.hid (show cs.length = n from by rw [← hcs.out, List.length_map, hn.out])
  have HUL := Lib.hid (show cur.length = N from by rw [← hcur.out, List.length_map, List.length_set, HLN.out])
  have HFIT := Lib.hid (show U + 1 + cs.length ≤ cur.length from by rw [HCL.out, HUL.out]; omega)
  have HONE := Lib.hid (show ∀ v ∈ cs, v.oneCell' = true from fun v hv => by
    rw [← hcs.out] at hv
    obtain ⟨z, _, rfl⟩ := List.mem_map.1 hv
    rfl)
  have k0 := HBP1.out.cell 0 _ rfl
  have k1 := HBP1.out.cell 1 _ rfl
  have k2 := HBP1.out.cell 2 _ rfl
  have hwU : IntKind.i64.wrap ((U : Int) + 1) = ((U + 1 : Nat) : Int) := by rw [IntKind.wrap_i64]; omega
  by_cases hcap : U + 1 = N
  · have hn0 : n = 0 := by omega
    have i3 : ((U + 1 : Nat) : Int) ≤ (N : Int) := by omega
    have i6 : (U : Int) + 1 ≤ (N : Int) := by omega
    have i7 : (0 : Int) ≤ (U : Int) + 1 := by omega
    have i5 : N = U + 1 := hcap.symm
    have HNN := Lib.hid (show cs.length = Nat.min n 0 from by rw [HCL.out, hn0]; rfl)
    have HC0 := Lib.hid (show cs.length = 0 from by rw [HCL.out, hn0])
    clear hn0 hcap
    go_wp2_with fail
    go_region_law (refine step_copy_x rfl (.tmp 31) (.tmp 32) 28 28 rfl 3 Tryd.underlying28 (by kernel_rfl) (some ⟨x, 0, none⟩) ao 0 0 n cap rfl rfl x (U + 1) cur 3 HCUR.out cs HNN.out (fun h0 => absurd h0 (by rw [HC0.out]; exact Nat.lt_irrefl 0)) HFIT.out HONE.out ?_; intro w2 hg2 ho2)
    all_goals
      have HG2 := hg2
      have HO2 := ho2
      have HBP2 := Lib.hid (show Bk w2 p _ _ from (HO2.out.block p HPX.out).trans HBP1.out)
      have HST2 := Lib.hid (show SetB w2 m (keys h) from (HO2.out.block m (Ne.symm HH.out.ne.2.2)).trans ((HOT1.out m (Ne.symm HH.out.ne.2.2)).trans HH.out.set))
      have hke : (place h h.length : Int) = (U : Int) + 1 := by rw [place_end, hU.out]; omega
      have hnew := keys_new h
      rw [hke] at hnew
      have hput := run_putK (P := Tryd.prog) (MT := 63) (KT := 3) (ET := 105) Tryd.underlying63 Tryd.underlying3 w2 m (keys h) ((U : Int) + 1) hnew HST2.out
      obtain ⟨W3, hW3⟩ : ∃ W, setMap w2 m (.map (entsK 0 (keys h ++ [(U : Int) + 1])).toArray (keys h ++ [(U : Int) + 1]).length) = W := ⟨_, rfl⟩
      rw [hW3] at hput
      have hpm : p ≠ m := HH.out.ne.2.1
      have hbp3 : Bk W3 p #[.slice (some ⟨x, 0, none⟩) N N, .int .i64 U, .map (some m)] 65 := by rw [← hW3]; exact (setMap_other m _ hpm).trans HBP2.out
      have b0 : w2.cell? ⟨p, 0, none⟩ = some (.slice (some ⟨x, 0, none⟩) N N) := HBP2.out.cell 0 _ rfl
      have b1 : w2.cell? ⟨p, 1, none⟩ = some (.int .i64 (U : Int)) := HBP2.out.cell 1 _ rfl
      have b2 : w2.cell? ⟨p, 2, none⟩ = some (.map (some m)) := HBP2.out.cell 2 _ rfl
      have d1 : W3.cell? ⟨p, 1, none⟩ = some (.int .i64 (U : Int)) := hbp3.cell 1 _ rfl
      have e1 := hbp3.free 1
      have lp3 := hbp3.lt
      have HBP3 := Lib.hid hbp3
      have HW3 := Lib.hid hW3
      have HKE := Lib.hid hke
      clear hke hnew hW3 hbp3 hpm k0 k1 k2 hg2 ho2 i1 i2
      go_wp2_with fail
      go_ret
      have hfin := add_tend HH.out hU.out hn.out (by omega) h0 h1 hl HLN.out HLT.out HON1.out HOT1.out HG2.out hcur.out hcs.out HO2.out HKE.out HW3.out HST2.out HBP3.out
      exact ⟨ret_int HKE.out.symm, hfin.1, hfin.2⟩
  · have i3 : ((U + 1 : Nat) : Int) ≤ (N : Int) := by omega
    have i4 : (0 : Int) ≤ ((U + 1 : Nat) : Int) := by omega
    have i5 : ¬ N = U + 1 := by omega
    have i6 : (U : Int) + 1 ≤ (N : Int) := by omega
    have i7 : (0 : Int) ≤ (U : Int) + 1 := by omega
    have HNN := Lib.hid (show cs.length = Nat.min n (N - (U + 1)) from by rw [HCL.out]; exact (Nat.min_eq_left (by omega)).symm)
    have HSRC := Lib.hid (show 0 < cs.length → ∃ ad, ao = some ad ∧ ∀ j v, cs[j]? = some v → W1.cell? (ad.add j) = some v from fun h0 => by
      obtain ⟨z0, hz0⟩ := getElem?_of_lt (l := l) (k := 0) (by rw [hn.out, ← HCL.out]; exact h0)
      obtain ⟨ad, had, _⟩ := HRW.out 0 z0 hz0
      refine ⟨ad, had, fun j v hv => ?_⟩
      rw [← hcs.out, List.getElem?_map, Option.map_eq_some_iff] at hv
      obtain ⟨z, hz, rfl⟩ := hv
      obtain ⟨ad2, had2, hc2⟩ := HRW.out j z hz
      rw [had] at had2
      cases had2
      exact hc2)
    go_wp2_with fail
    go_region_law (refine step_copy_x rfl (.tmp 31) (.tmp 32) 28 28 rfl 3 Tryd.underlying28 (by kernel_rfl) (some ⟨x, U + 1, none⟩) ao (N - (U + 1)) (N - (U + 1)) n cap rfl rfl x (U + 1) cur 3 HCUR.out cs HNN.out (fun h0 => ⟨rfl, HSRC.out h0⟩) HFIT.out HONE.out ?_; intro w2 hg2 ho2)
    all_goals
      have HG2 := hg2
      have HO2 := ho2
      have HBP2 := Lib.hid (show Bk w2 p _ _ from (HO2.out.block p HPX.out).trans HBP1.out)
      have HST2 := Lib.hid (show SetB w2 m (keys h) from (HO2.out.block m (Ne.symm HH.out.ne.2.2)).trans ((HOT1.out m (Ne.symm HH.out.ne.2.2)).trans HH.out.set))
      have hke : (place h h.length : Int) = (U : Int) + 1 := by rw [place_end, hU.out]; omega
      have hnew := keys_new h
      rw [hke] at hnew
      have hput := run_putK (P := Tryd.prog) (MT := 63) (KT := 3) (ET := 105) Tryd.underlying63 Tryd.underlying3 w2 m (keys h) ((U : Int) + 1) hnew HST2.out
      obtain ⟨W3, hW3⟩ : ∃ W, setMap w2 m (.map (entsK 0 (keys h ++ [(U : Int) + 1])).toArray (keys h ++ [(U : Int) + 1]).length) = W := ⟨_, rfl⟩
      rw [hW3] at hput
      have hpm : p ≠ m := HH.out.ne.2.1
      have hbp3 : Bk W3 p #[.slice (some ⟨x, 0, none⟩) N N, .int .i64 U, .map (some m)] 65 := by rw [← hW3]; exact (setMap_other m _ hpm).trans HBP2.out
      have b0 : w2.cell? ⟨p, 0, none⟩ = some (.slice (some ⟨x, 0, none⟩) N N) := HBP2.out.cell 0 _ rfl
      have b1 : w2.cell? ⟨p, 1, none⟩ = some (.int .i64 (U : Int)) := HBP2.out.cell 1 _ rfl
      have b2 : w2.cell? ⟨p, 2, none⟩ = some (.map (some m)) := HBP2.out.cell 2 _ rfl
      have d1 : W3.cell? ⟨p, 1, none⟩ = some (.int .i64 (U : Int)) := hbp3.cell 1 _ rfl
      have e1 := hbp3.free 1
      have lp3 := hbp3.lt
      have HBP3 := Lib.hid hbp3
      have HW3 := Lib.hid hW3
      have HKE := Lib.hid hke
      clear hke hnew hW3 hbp3 hpm k0 k1 k2 hg2 ho2 i1 i2
      go_wp2_with fail
      go_ret
      have hfin := add_tend HH.out hU.out hn.out (by omega) h0 h1 hl HLN.out HLT.out HON1.out HOT1.out HG2.out hcur.out hcs.out HO2.out HKE.out HW3.out HST2.out HBP3.out
      exact ⟨ret_int HKE.out.symm, hfin.1, hfin.2⟩
end Go.Proofs.YtphebogjmbaboaaDoor.IK
