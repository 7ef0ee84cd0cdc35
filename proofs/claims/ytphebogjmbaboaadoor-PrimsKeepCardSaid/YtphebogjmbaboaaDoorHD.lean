/- The program's heap: a block's head and fields. -/
import Derived.Test.YtphebogjmbaboaaDoorHC
import Derived.Laws.CopyOwn
import Derived.Laws.Cover3
namespace Go.Proofs.YtphebogjmbaboaaDoor.HD
open Go.RowKit Go.Proofs.YtphebogjmbaboaaDoor.RG Go.Proofs.YtphebogjmbaboaaDoor.RB Go.Proofs.YtphebogjmbaboaaDoor.RM Go.Proofs.YtphebogjmbaboaaDoor.HA Go.Proofs.YtphebogjmbaboaaDoor.HB Go.Proofs.YtphebogjmbaboaaDoor.HC Go.Proofs.YtphebogjmbaboaaDoor.K1
set_option linter.unusedVariables false
set_option maxRecDepth 100000
set_option maxRecDepth 100000

/-- A block's words in memory. -/
theorem _root_.Go.Proofs.YtphebogjmbaboaaDoor.HB.HP.word {w : World} {p x m o N k : Nat} {h : Hp} {b : Bl} (H : HP w p x m o N h) (hk : h[k]? = some b) (j : Nat) (hj : j < size b) (z : Int) (hz : (words b)[j]? = some z) : w.cell? ⟨x, used (h.take k) + j, none⟩ = some (.int .i64 z) := by
  obtain ⟨L, hL, _, ht⟩ := H.ws
  refine hL.cell _ _ (xints_at ?_)
  have h1 := lay_at hk j hj
  have h2 := used_take hk
  have h3 := used_le h (k + 1)
  rw [← ht, List.getElem?_take, if_pos (by omega), hz] at h1
  exact h1
theorem _root_.Go.Proofs.YtphebogjmbaboaaDoor.HB.HP.room {w : World} {p x m o N k : Nat} {h : Hp} {b : Bl} (H : HP w p x m o N h) (hk : h[k]? = some b) : used (h.take k) + size b ≤ N := by
  have h2 := used_take hk
  have h3 := used_le h (k + 1)
  have := H.fit.1
  omega
theorem hblock_c (w : World) (p x m o N : Nat) (h : Hp) (H : HP w p x m o N h) (k : Nat) (b : Bl) (hk : h[k]? = some b) :
    Calls Tryd.prog 68 #[.pointer (some ⟨p, 0, none⟩), .int .i64 (place h k)] w fun e w' => e = .returned (.slice (some ⟨x, used (h.take k), none⟩) (size b) (N - used (h.take k))) ∧ w = w' := by
  have k0 := H.blk.cell 0 _ rfl
  have x0 := H.word hk 0 (by unfold size; omega) _ rfl
  rw [Nat.add_zero] at x0
  have hr := H.room hk
  have hg := H.good b (List.mem_of_getElem? hk)
  have hN := H.fit.2
  have hU : (place h k : Int) = (used (h.take k) : Int) + 1 := by unfold place; omega
  rw [hU]
  obtain ⟨U, hU2⟩ : ∃ U, Hid (used (h.take k) = U) := ⟨_, Lib.hid rfl⟩
  rw [hU2.out] at x0 hr ⊢
  obtain ⟨t, f⟩ := b
  obtain ⟨n, hn⟩ : ∃ n, Hid (f.length = n) := ⟨_, Lib.hid rfl⟩
  simp only at hg
  have hsz : size (t, f) = 1 + n := by unfold size; simp [hn.out]
  rw [hsz] at hr ⊢
  rw [hn.out] at hg
  simp only [hn.out] at x0
  have hmod : (t * 61 + (n : Int)).tmod 61 = (n : Int) := by
    rw [Int.tmod_eq_emod_of_nonneg (by omega)]
    omega
  have i1 : (0 : Int) ≤ (U : Int) + 1 - 1 := by omega
  clear hU hsz H hk
  go_enter Tryd.func68, Tryd.ntmps68
  go_wp2_with fail
  go_ret
  exact ⟨rfl, rfl⟩
theorem tagof_c (w : World) (a : Addr) (n cap : Nat) (t : Int) (l : Nat) (ht : 0 ≤ t) (hl : l ≤ 60) (hn : 0 < n) (hc : w.cell? ⟨a.block, a.off, none⟩ = some (.int .i64 (t * 61 + (l : Int)))) (hs : a.spot = none) (h2 : t ≤ 201) :
    Calls Tryd.prog 69 #[.slice (some a) n cap] w fun e w' => e = .returned (.int .i64 t) ∧ w = w' := by
  obtain ⟨b, off, s⟩ := a
  simp only at hs hc
  subst hs
  have hdiv : (t * 61 + (l : Int)).tdiv 61 = t := by
    rw [Int.tdiv_eq_ediv_of_nonneg (by omega)]
    omega
  have i0 : (0 : Int) < (n : Int) := by omega
  go_enter Tryd.func69, Tryd.ntmps69
  go_wp2_with fail
  go_ret
  exact ⟨rfl, rfl⟩
theorem add_plain (b o j : Nat) : (⟨b, o, none⟩ : Addr).add j = ⟨b, o + j, none⟩ := by
  unfold Addr.add
  split <;> simp_all
theorem eq_nil (a : Option Addr) (n c : Nat) (w : World) : (binOp .eql 28 (.slice a n c) (.slice none 0 0)).run Tryd.prog w = .ok (.bool a.isNone) w := by
  have := run_equal_slice_nil (P := Tryd.prog) (w := w) 28 3 a n c Tryd.underlying28
  simp [binOp, this, Result.andThen]
/-- A word's block; none, where it is no pointer. -/
theorem block_yes (w : World) (p x m o N : Nat) (h : Hp) (H : HP w p x m o N h) (n : Int) (k : Nat) (b : Bl) (hn : blk h n = some k) (hk : h[k]? = some b) :
    Calls Tryd.prog 42 #[.pointer (some ⟨p, 0, none⟩), .int .i64 n] w fun e w' => e = .returned (.slice (some ⟨x, used (h.take k), none⟩) (size b) (N - used (h.take k))) ∧ Below w.heap.size w w' := by
  have HI := is_c w p x m o N h H n
  rw [hn] at HI
  have HIS := Lib.hid HI
  obtain ⟨hkl, hp⟩ := blk_some hn
  unfold ptr at hp
  have hpos := place_pos h k
  have HAT := Lib.hid (fun w' => at_yes n w' (by omega) (by omega))
  have hdv : n / 2 = (place h k : Int) := by omega
  rw [hdv] at HAT
  have HBL := Lib.hid (fun w' (hb : Below w.heap.size w w') => hblock_c w' p x m o N h (H.keep hb) k b hk)
  clear HI H hn hk hkl hp hdv hpos
  go_enter Tryd.func42, Tryd.ntmps42
  go_wp2_with fail
  refine HIS.out.mono ?_
  rintro e w1 ⟨rfl, hb1⟩
  have HB1 := Lib.hid hb1
  clear hb1
  go_wp2_with fail
  refine (HAT.out w1).mono ?_
  rintro e w2 ⟨rfl, rfl⟩
  go_wp2_with fail
  refine (HBL.out w1 HB1.out).mono ?_
  rintro e w2 ⟨rfl, rfl⟩
  go_wp2_with fail
  go_ret
  exact ⟨rfl, HB1.out⟩
theorem block_no (w : World) (p x m o N : Nat) (h : Hp) (H : HP w p x m o N h) (n : Int) (hn : blk h n = none) :
    Calls Tryd.prog 42 #[.pointer (some ⟨p, 0, none⟩), .int .i64 n] w fun e w' => e = .returned (.slice none 0 0) ∧ Below w.heap.size w w' := by
  have HI := is_c w p x m o N h H n
  rw [hn] at HI
  have HIS := Lib.hid HI
  clear HI H hn
  go_enter Tryd.func42, Tryd.ntmps42
  go_wp2_with fail
  refine HIS.out.mono ?_
  rintro e w1 ⟨rfl, hb1⟩
  have HB1 := Lib.hid hb1
  clear hb1
  go_wp2_with fail
  go_ret
  exact ⟨rfl, HB1.out⟩
theorem tag_c (w : World) (p x m o N : Nat) (h : Hp) (H : HP w p x m o N h) (n : Int) :
    Calls Tryd.prog 44 #[.pointer (some ⟨p, 0, none⟩), .int .i64 n] w fun e w' => e = .returned (.int .i64 (tagOf h n)) ∧ Below w.heap.size w w' := by
  cases hn : blk h n with
  | none =>
    have e : tagOf h n = -1 := by unfold tagOf; rw [hn]
    rw [e]
    have HBK := Lib.hid (block_no w p x m o N h H n hn)
    clear H hn e
    go_enter Tryd.func44, Tryd.ntmps44
    go_wp2_with fail
    refine HBK.out.mono ?_
    rintro e w1 ⟨rfl, hb1⟩
    have HB1 := Lib.hid hb1
    have hnil := fun (a : Option Addr) (n c : Nat) => eq_nil a n c w1
    clear hb1
    go_wp2_with fail
    go_ret
    exact ⟨rfl, HB1.out⟩
  | some k =>
    obtain ⟨b, hb⟩ := getElem?_of_lt (blk_some hn).1
    have e : tagOf h n = b.1 := by unfold tagOf; rw [hn]; simp [hb]
    rw [e]
    have HBK := Lib.hid (block_yes w p x m o N h H n k b hn hb)
    have hg := H.good b (List.mem_of_getElem? hb)
    have HT := Lib.hid (fun w' (hw : Below w.heap.size w w') => tagof_c w' ⟨x, used (h.take k), none⟩ (size b) (N - used (h.take k)) b.1 b.2.length hg.1.1 hg.2 (by unfold size; omega) (by
      have := (H.keep hw).word hb 0 (by unfold size; omega) _ rfl
      rw [Nat.add_zero] at this
      exact this) rfl hg.1.2)
    clear H hn e hb hg
    go_enter Tryd.func44, Tryd.ntmps44
    go_wp2_with fail
    refine HBK.out.mono ?_
    rintro e w1 ⟨rfl, hb1⟩
    have HB1 := Lib.hid hb1
    have hnil := fun (a : Option Addr) (n c : Nat) => eq_nil a n c w1
    clear hb1
    go_wp2_with fail
    refine (HT.out w1 HB1.out).mono ?_
    rintro e w2 ⟨rfl, rfl⟩
    go_wp2_with fail
    go_ret
    exact ⟨rfl, HB1.out⟩
/-- A word's fields, in a row of the call's own. -/
theorem fields_c (w : World) (p x m o N : Nat) (h : Hp) (H : HP w p x m o N h) (n : Int) :
    Calls Tryd.prog 15 #[.pointer (some ⟨p, 0, none⟩), .int .i64 n] w fun e w' => ∃ v, e = .returned v ∧ RowI w' v (fieldsOf h n) ∧ (∀ b, v.ownBlock = some b → w.heap.size ≤ b) ∧ Below w.heap.size w w' := by
  cases hn : blk h n with
  | none =>
    have e : fieldsOf h n = [] := by unfold fieldsOf; rw [hn]
    rw [e]
    have HBK := Lib.hid (block_no w p x m o N h H n hn)
    clear H hn e
    go_enter Tryd.func15, Tryd.ntmps15
    go_wp2_with fail
    refine HBK.out.mono ?_
    rintro e w1 ⟨rfl, hb1⟩
    have HB1 := Lib.hid hb1
    have hnil := fun (a : Option Addr) (n c : Nat) => eq_nil a n c w1
    clear hb1
    go_wp2_with fail
    go_ret
    exact ⟨_, rfl, rowR_nil _ _, (fun b e => by cases e), HB1.out⟩
  | some k =>
    obtain ⟨b, hb⟩ := getElem?_of_lt (blk_some hn).1
    have e : fieldsOf h n = b.2 := by unfold fieldsOf; rw [hn]; simp [hb]
    rw [e]
    have HBK := Lib.hid (block_yes w p x m o N h H n k b hn hb)
    have hg := H.good b (List.mem_of_getElem? hb)
    have hrm := H.room hb
    have HW := Lib.hid (fun w' (hw : Below w.heap.size w w') (j : Nat) (z : Int) (hz : b.2[j]? = some z) => (H.keep hw).word hb (j + 1) (by unfold size; have := (List.getElem?_eq_some_iff.1 hz).1; omega) z hz)
    obtain ⟨U, hU⟩ : ∃ U, Hid (used (h.take k) = U) := ⟨_, Lib.hid rfl⟩
    obtain ⟨l, hl⟩ : ∃ l, Hid (b.2.length = l) := ⟨_, Lib.hid rfl⟩
    have hsz : size b = 1 + l := by unfold size; rw [hl.out]
    rw [hU.out, hsz] at HBK hrm
    rw [hU.out] at HW
    have hlb : l ≤ 60 := by rw [← hl.out]; exact hg.2
    have hmk := run_mk l (by omega)
    obtain ⟨MC, hMC⟩ : ∃ x, Hid (madeCells #[.int .i64 0] (l * 1) = x) := ⟨_, Lib.hid rfl⟩
    rw [hMC.out] at hmk
    have hmk2 : ∀ w : World, (Instr.makeSlice 28 (.int .i64 (1 + (l : Int) - 1)) (.int .i64 (1 + (l : Int) - 1))).run Tryd.prog w = .ok (.slice (some ⟨w.heap.size, 0, none⟩) l l) (w.alloc (.cells MC 3)) := by
      rw [show 1 + (l : Int) - 1 = (l : Int) by omega]; exact hmk
    clear H hn e hb hg hsz
    go_enter Tryd.func15, Tryd.ntmps15
    go_wp2_with fail
    refine HBK.out.mono ?_
    rintro e w1 ⟨rfl, hb1⟩
    have HB1 := Lib.hid hb1
    have hnil := fun (a : Option Addr) (n c : Nat) => eq_nil a n c w1
    clear hb1
    obtain ⟨cur, hcur⟩ : ∃ cur, Hid ((List.replicate l (0 : Int)).map (Value.int .i64) = cur) := ⟨_, Lib.hid rfl⟩
    obtain ⟨cs, hcs⟩ : ∃ cs, Hid (b.2.map (Value.int .i64) = cs) := ⟨_, Lib.hid rfl⟩
    have HCUR := Lib.hid (show (w1.alloc (.cells MC 3)).heap[w1.heap.size]? = some (.cells cur.toArray 3 (0, 0)) from by
      rw [← hMC.out, ← hcur.out]
      exact mk_row w1 l)
    have HCL := Lib.hid (show cs.length = l from by rw [← hcs.out, List.length_map, hl.out])
    have HUL := Lib.hid (show cur.length = l from by rw [← hcur.out]; simp)
    have HN := Lib.hid (show cs.length = Nat.min l l from by rw [HCL.out]; simp)
    have HFIT := Lib.hid (show 0 + cs.length ≤ cur.length from by rw [HCL.out, HUL.out]; omega)
    have HONE := Lib.hid (show ∀ v ∈ cs, v.oneCell' = true from fun v hv => by
      rw [← hcs.out] at hv
      obtain ⟨z, _, rfl⟩ := List.mem_map.1 hv
      rfl)
    have HBA := Lib.hid (balloc w1 (.cells MC 3))
    by_cases hcap : N - U = 1
    · have hl0 : l = 0 := by omega
      subst hl0
      have hmk0 : ∀ w : World, (Instr.makeSlice 28 (.int .i64 0) (.int .i64 0)).run Tryd.prog w = .ok (.slice (some ⟨w.heap.size, 0, none⟩) 0 0) (w.alloc (.cells MC 3)) := hmk
      clear hmk hmk2
      go_wp2_with (refine wpList_copy_splice rfl (.tmp 16) (.tmp 18) 28 28 rfl 3 Tryd.underlying28 (by kernel_rfl) _ _ 0 0 0 0 rfl rfl w1.heap.size 0 cur 3 HCUR.out cs HN.out (fun h => absurd h (by rw [HCL.out]; omega)) HFIT.out HONE.out w1.heap.size w1 HBA.out (Nat.le_refl _) ?_; intro w2 hg2 hb2; have HB2 := Lib.hid hb2; clear hb2)
      go_ret
      have hsp : splice cur 0 cs = b.2.map (Value.int .i64) := by
        unfold splice
        rw [List.take_zero, List.nil_append, List.drop_of_length_le (by rw [HCL.out, HUL.out]; omega), List.append_nil, hcs.out]
      have hr : RowN w2 w1.heap.size b.2 := by
        have := hg2.out
        rw [hsp] at this
        exact this
      refine ⟨_, rfl, ?_, (fun b e => by cases e; exact HB1.out.size), HB1.out.trans (HB2.out.mono HB1.out.size)⟩
      have := rown_row hr 0 0 0 (by rw [hl.out]; omega) (Nat.le_refl _)
      rw [List.drop_zero, List.take_of_length_le (by rw [hl.out]; omega)] at this
      exact this
    · skip
      have HSRC := Lib.hid (show ∀ (j : Nat) v, cs[j]? = some v → (w1.alloc (.cells MC 3)).cell? ((⟨x, U + 1, none⟩ : Addr).add j) = some v from fun j v hv => by
        rw [← hcs.out, List.getElem?_map, Option.map_eq_some_iff] at hv
        obtain ⟨z, hz, rfl⟩ := hv
        have := HW.out (w1.alloc (.cells MC 3)) (bnext HB1.out (balloc _ _)) j z hz
        rw [show U + (j + 1) = U + 1 + j by omega] at this
        rw [add_plain]
        exact this)
      go_wp2_with (refine wpList_copy_splice rfl (.tmp 16) (.tmp 18) 28 28 rfl 3 Tryd.underlying28 (by kernel_rfl) _ _ l l l (N - U - 1) rfl rfl w1.heap.size 0 cur 3 HCUR.out cs HN.out (fun _ => ⟨rfl, _, rfl, HSRC.out⟩) HFIT.out HONE.out w1.heap.size w1 HBA.out (Nat.le_refl _) ?_; intro w2 hg2 hb2; have HB2 := Lib.hid hb2; clear hb2)
      go_ret
      have hsp : splice cur 0 cs = b.2.map (Value.int .i64) := by
        unfold splice
        rw [List.take_zero, List.nil_append, List.drop_of_length_le (by rw [HCL.out, HUL.out]; omega), List.append_nil, hcs.out]
      have hr : RowN w2 w1.heap.size b.2 := by
        have := hg2.out
        rw [hsp] at this
        exact this
      refine ⟨_, rfl, ?_, (fun b e => by cases e; exact HB1.out.size), HB1.out.trans (HB2.out.mono HB1.out.size)⟩
      have := rown_row hr 0 l l (by rw [hl.out]; omega) (Nat.le_refl _)
      rw [List.drop_zero, List.take_of_length_le (by rw [hl.out]; omega)] at this
      exact this
end Go.Proofs.YtphebogjmbaboaaDoor.HD
