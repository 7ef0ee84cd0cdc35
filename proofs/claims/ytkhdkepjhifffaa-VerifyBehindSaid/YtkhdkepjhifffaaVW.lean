/- Whether two lists of numbers are the same, over rows; the document's examples: the walk. -/
import Derived.Test.YtkhdkepjhifffaaVU
import Derived.StillTailTactics
import Derived.Deep.RegionHeld3
import Derived.BigRegion
import Derived.Lib.Hide
namespace Go.Proofs.Ytkhdkepjhifffaa.VW
open Go.RowKit Go.Proofs.Ytkhdkepjhifffaa.RG Go.Proofs.Ytkhdkepjhifffaa.KA Go.Proofs.Ytkhdkepjhifffaa.KB Go.Proofs.Ytkhdkepjhifffaa.KC Go.Proofs.Ytkhdkepjhifffaa.VA Go.Proofs.Ytkhdkepjhifffaa.VO Go.Proofs.Ytkhdkepjhifffaa.VP Go.Proofs.Ytkhdkepjhifffaa.VU
set_option linter.unusedVariables false
set_option maxRecDepth 100000
set_option maxRecDepth 100000

theorem ret_bool {a b : Bool} (h : a = b) : Ending.returned (.bool a) = .returned (.bool b) := by rw [h]

theorem same_differ (a1 a2 : Option Addr) (n1 n2 c1 c2 : Nat) (w : World) (h : n1 ≠ n2) :
    Calls Try.prog 22 #[.slice a1 n1 c1, .slice a2 n2 c2] w fun e w' => e = .returned (.bool false) ∧ w = w' := by
  have t : ((n1 : Int) != (n2 : Int)) = true := by rw [bne_iff_ne]; omega
  go_enter Try.func22, Try.ntmps22
  go_wp2
  go_ret
  exact ⟨rfl, rfl⟩

theorem same_none (a1 a2 : Option Addr) (c1 c2 : Nat) (w : World) :
    Calls Try.prog 22 #[.slice a1 0 c1, .slice a2 0 c2] w fun e w' => e = .returned (.bool true) ∧ w = w' := by
  go_enter Try.func22, Try.ntmps22
  go_wp2
  refine wp_loop_rounds 1 ?_
  rw [rounds_succ]
  go_wp2
  go_ret
  exact ⟨rfl, rfl⟩

theorem same_some (b1 o1 c1 b2 o2 c2 : Nat) (zs1 zs2 : List Int) (w : World) (hl : zs2.length = zs1.length) (hn : zs1.length ≤ 1000) (hb1 : b1 < w.heap.size) (hb2 : b2 < w.heap.size)
    (h1 : ∀ j (h : j < zs1.length), w.cell? ⟨b1, o1 + j, none⟩ = some (.int .i64 zs1[j])) (h2 : ∀ j (h : j < zs2.length), w.cell? ⟨b2, o2 + j, none⟩ = some (.int .i64 zs2[j])) :
    Calls Try.prog 22 #[.slice (some ⟨b1, o1, none⟩) zs1.length c1, .slice (some ⟨b2, o2, none⟩) zs1.length c2] w fun e w' => e = .returned (.bool (decide (zs1 = zs2))) ∧ Below w.heap.size w w' := by
  obtain ⟨n, hN⟩ : ∃ n, zs1.length = n := ⟨_, rfl⟩
  have HL : Hid (zs1.length = n ∧ zs2.length = n) := ⟨hN, hl.trans hN⟩
  rw [hN] at hn ⊢
  obtain ⟨R, HR⟩ : ∃ R, Hid (R = decide (zs1 = zs2)) := ⟨_, rfl⟩
  rw [← HR.out]
  clear hl hN
  go_enter Try.func22, Try.ntmps22
  go_wp2
  go_loopw [5] (fun i wr => ∃ k : Nat, k ≤ n ∧ i = .int .i64 (k : Int) ∧ zs1.take k = zs2.take k ∧ Below w.heap.size w wr) (fun i _ => n - (intOf i).toNat)
  case atStart => exact ⟨0, Nat.zero_le _, rfl, rfl, Below.refl _ _⟩
  case round =>
    obtain ⟨k, hk, rfl, ht, hnx⟩ := hrel
    have HT := Lib.hid ht
    clear ht
    by_cases hlt : k < n
    · obtain ⟨x, hx⟩ : ∃ x, Hid (zs1[k]? = some x) := ⟨zs1[k]'(by rw [HL.out.1]; exact hlt), List.getElem?_eq_getElem (by rw [HL.out.1]; exact hlt)⟩
      obtain ⟨y, hy⟩ : ∃ y, Hid (zs2[k]? = some y) := ⟨zs2[k]'(by rw [HL.out.2]; exact hlt), List.getElem?_eq_getElem (by rw [HL.out.2]; exact hlt)⟩
      have d1 : wr.cell? ⟨b1, o1 + k, none⟩ = some (.int .i64 x) := by
        have k1 : k < zs1.length := by rw [HL.out.1]; exact hlt
        have e : zs1[k] = x := Option.some.inj ((List.getElem?_eq_getElem k1).symm.trans hx.out)
        rw [← e]; exact (hnx.cell (by exact hb1)).trans (h1 k k1)
      have d2 : wr.cell? ⟨b2, o2 + k, none⟩ = some (.int .i64 y) := by
        have k2 : k < zs2.length := by rw [HL.out.2]; exact hlt
        have e : zs2[k] = y := Option.some.inj ((List.getElem?_eq_getElem k2).symm.trans hy.out)
        rw [← e]; exact (hnx.cell (by exact hb2)).trans (h2 k k2)
      by_cases he : x = y
      · have te : (x != y) = false := by rw [he]; simp
        have HN : Hid (zs1.take (k + 1) = zs2.take (k + 1)) := by
          show zs1.take (k + 1) = zs2.take (k + 1)
          rw [List.take_add_one, List.take_add_one, HT.out, hx.out, hy.out, he]
        have HE := Lib.hid he
        clear he
        go_wp2
        go_region
        all_goals go_wp2
        all_goals go_roundw
        all_goals first
          | exact ⟨k + 1, by omega, by go_num, HN.out, hnx.drew⟩
          | (simp [intOf]; omega)
      · have te : (x != y) = true := by rw [bne_iff_ne]; exact he
        have HF : Hid (R = false) := by
          rw [HR.out]
          show decide (zs1 = zs2) = false
          rw [decide_eq_false_iff_not]
          intro e
          subst e
          exact he (Option.some.inj (hx.out.symm.trans hy.out))
        clear he
        go_wp2
        go_region
        all_goals go_wp2
        all_goals go_ret
        all_goals exact ⟨ret_bool HF.out.symm, hnx.drew⟩
    · have HF : Hid (R = true) := by
        rw [HR.out]
        show decide (zs1 = zs2) = true
        rw [decide_eq_true_iff]
        have := HT.out
        obtain ⟨l1, l2⟩ := HL.out
        rw [List.take_of_length_le (by omega), List.take_of_length_le (by omega)] at this
        exact this
      go_wp2
      go_ret
      exact ⟨ret_bool HF.out.symm, hnx⟩

/-- A row's cells. -/
theorem ints_at {w : World} {S : Nat → Prop} {v : Value} {l : List Int} (h : RowR TI w S v l) (h0 : l ≠ []) : ∃ b off cap, v = .slice (some ⟨b, off, none⟩) l.length cap ∧ b < w.heap.size ∧ ∀ j (h : j < l.length), w.cell? ⟨b, off + j, none⟩ = some (.int .i64 l[j]) := by
  obtain ⟨b, off, cap, hv, _, hb, hc⟩ := h.open_ h0
  refine ⟨b, off, cap, hv, hb, fun j hj => ?_⟩
  obtain ⟨q, hL, _⟩ := hc j l[j] (List.getElem?_eq_getElem hj)
  have := hL 0 _ rfl
  simpa [TI, Ty.flat] using this
theorem same_any (v1 v2 : Value) (l1 l2 : List Int) (w : World) (S S2 : Nat → Prop) (h1 : RowR TI w S v1 l1) (h2 : RowR TI w S2 v2 l2) (hn : l1.length ≤ 1000) :
    Calls Try.prog 22 #[v1, v2] w fun e w' => e = .returned (.bool (decide (l1 = l2))) ∧ Below w.heap.size w w' := by
  by_cases hl : l1.length = l2.length
  · by_cases h0 : l1 = []
    · subst h0
      obtain rfl : l2 = [] := List.eq_nil_of_length_eq_zero hl.symm
      obtain ⟨a1, c1, rfl, _⟩ := h1.val
      obtain ⟨a2, c2, rfl, _⟩ := h2.val
      refine (same_none a1 a2 c1 c2 w).mono ?_
      rintro e w' ⟨he, rfl⟩
      exact ⟨he, Below.refl _ _⟩
    · have h00 : l2 ≠ [] := by intro e; rw [e] at hl; exact h0 (List.eq_nil_of_length_eq_zero hl)
      obtain ⟨b1, o1, c1, rfl, hb1, hc1⟩ := ints_at h1 h0
      obtain ⟨b2, o2, c2, rfl, hb2, hc2⟩ := ints_at h2 h00
      have := same_some b1 o1 c1 b2 o2 c2 l1 l2 w hl.symm hn hb1 hb2 hc1 hc2
      rw [← hl]
      exact this
  · obtain ⟨a1, c1, rfl, _⟩ := h1.val
    obtain ⟨a2, c2, rfl, _⟩ := h2.val
    refine (same_differ a1 a2 l1.length l2.length c1 c2 w hl).mono ?_
    rintro e w' ⟨he, rfl⟩
    rw [decide_eq_false (fun e => hl (by rw [e]))]
    exact ⟨he, Below.refl _ _⟩
theorem few_one {l : List In} (h : l.length ≤ 100) : (oneCd l).funs.length ≤ 100000000000 ∧ (oneCd l).ints.length ≤ 100000000000 ∧ (oneCd l).texts.length ≤ 100000000000 ∧ ∀ f, f ∈ (oneCd l).funs → f.code.length ≤ 100000000000 :=
  ⟨by unfold oneCd; simp, by unfold oneCd; simp, by unfold oneCd; simp, fun f hf => by
    rw [List.mem_singleton.1 hf]; exact Nat.le_trans h (by decide)⟩
theorem pdep_x (l : List In) (L : List Int) (hD : DepOf (oneCd l) 0 L) (hl : l.length ≤ 100) (fv iv tv : Value) (w : World) (h : HasC w (fun _ => True) (oneCd l) fv iv tv) :
    Calls Try.prog 20 #[.agg #[fv, iv, tv, .int .i64 0], .int .i64 0] w fun e w' => ∃ v, e = .returned v ∧ RowR TI w' (fun _ => False) v L ∧ Below w.heap.size w w' := by
  refine (depths_c (oneCd l) fv iv tv 0 w _ h (few_one hl)).mono ?_
  rintro e w' ⟨hb, v, L', rfl, hr, _, hD'⟩
  obtain rfl := hD.one hD'
  exact ⟨v, rfl, hr, hb⟩
theorem pcod_yes (l : List In) (hm : mayB (oneCd l) = true) (ha : AllOk (oneCd l)) (hl : l.length ≤ 100) (fv iv tv : Value) (w : World) (h : HasC w (fun _ => True) (oneCd l) fv iv tv) :
    Calls Try.prog 17 #[.agg #[fv, iv, tv, .int .i64 0]] w fun e w' => e = .returned (.int .i64 0) ∧ Below w.heap.size w w' := by
  refine (code_c (oneCd l) fv iv tv w _ h (few_one hl)).mono ?_
  rintro e w' ⟨hb, ⟨h1, rfl⟩ | ⟨h1, h2, rfl⟩ | ⟨h1, h2, rfl⟩⟩
  · rw [hm] at h1; cases h1
  · exact ⟨rfl, hb⟩
  · exact absurd ha h2
theorem pcod_no (l : List In) (hm : mayB (oneCd l) = true) (ha : ¬ AllOk (oneCd l)) (hl : l.length ≤ 100) (fv iv tv : Value) (w : World) (h : HasC w (fun _ => True) (oneCd l) fv iv tv) :
    Calls Try.prog 17 #[.agg #[fv, iv, tv, .int .i64 0]] w fun e w' => e = .returned (.int .i64 30) ∧ Below w.heap.size w w' := by
  refine (code_c (oneCd l) fv iv tv w _ h (few_one hl)).mono ?_
  rintro e w' ⟨hb, ⟨h1, rfl⟩ | ⟨h1, h2, rfl⟩ | ⟨h1, h2, rfl⟩⟩
  · rw [hm] at h1; cases h1
  · exact absurd h2 ha
  · exact ⟨rfl, hb⟩
theorem new_at (w : World) (c : Array Value) (t : TypeId) {b : Nat} (h : w.heap.size = b) : Bk (w.alloc (.cells c t)) b c t := by subst h; exact Bk.new w c t
theorem one_c (l : List In) (v : Value) (w : World) (h : RowR TN w (fun _ => True) v l) :
    Calls Try.prog 35 #[v] w fun e w' => ∃ fo io, e = .returned (.agg #[.slice (some fo) 1 1, .slice (some io) 1 1, .slice none 0 0, .int .i64 0]) ∧ HasC w' (fun _ => True) (oneCd l) (.slice (some fo) 1 1) (.slice (some io) 1 1) (.slice none 0 0) ∧ Below w.heap.size w w' := by
  obtain ⟨ao, cap, rfl, _⟩ := h.val
  have HR := Lib.hid h
  obtain ⟨n, hn⟩ : ∃ n, Hid (l.length = n) := ⟨_, Lib.hid rfl⟩
  rw [hn.out] at HR ⊢
  go_enter Try.func35, Try.ntmps35
  go_wp2_with fail
  obtain ⟨W1, hW1⟩ : ∃ W1, W1 = w.alloc (.cells #[.slice (some ⟨w.heap.size + 1 + 1, 0, none⟩) 1 1, .slice (some ⟨w.heap.size + 1, 0, none⟩) 1 1, .slice none 0 0, .int .i64 0] 27) := ⟨_, rfl⟩
  rw [← hW1]
  have s1 : W1.heap.size = w.heap.size + 1 := by rw [hW1]; simp
  obtain ⟨W2, hW2⟩ : ∃ W2, W2 = W1.alloc (.cells #[.int .i64 1] 3) := ⟨_, rfl⟩
  rw [← hW2]
  have s2 : W2.heap.size = w.heap.size + 1 + 1 := by rw [hW2]; simp [s1]
  have HX1 : Below w.heap.size w W1 := by rw [hW1]; exact balloc _ _
  have HX2 : Below w.heap.size w W2 := by rw [hW2]; exact bnext HX1 (balloc _ _)
  have k0 : Bk W1 w.heap.size #[.slice (some ⟨w.heap.size + 1 + 1, 0, none⟩) 1 1, .slice (some ⟨w.heap.size + 1, 0, none⟩) 1 1, .slice none 0 0, .int .i64 0] 27 := by rw [hW1]; exact Bk.new w _ _
  have k1 : Bk W2 (w.heap.size + 1) #[.int .i64 1] 3 := by rw [hW2]; exact new_at W1 _ _ s1
  have k2 : Bk (W2.alloc (.cells #[.int .i64 0, .int .i64 1, .int .i64 3, .slice ao n cap] 49)) (w.heap.size + 1 + 1) #[.int .i64 0, .int .i64 1, .int .i64 3, .slice ao n cap] 49 := new_at W2 _ _ s2
  have k3 : Bk (W2.alloc (.cells #[.int .i64 0, .int .i64 1, .int .i64 3, .slice ao n cap] 49)) w.heap.size #[.slice (some ⟨w.heap.size + 1 + 1, 0, none⟩) 1 1, .slice (some ⟨w.heap.size + 1, 0, none⟩) 1 1, .slice none 0 0, .int .i64 0] 27 := by rw [hW2]; exact (k0.alloc _).alloc _
  have z0 := k3.cell 0 _ rfl
  have z1 := k3.cell 1 _ rfl
  have z2 := k3.cell 2 _ rfl
  have z3 := k3.cell 3 _ rfl
  obtain rfl : l.length = n := hn.out
  obtain ⟨qs, hr1, hr2⟩ := HR.out.keep (bnext HX2 (balloc W2 (.cells #[.int .i64 0, .int .i64 1, .int .i64 3, .slice ao l.length cap] 49)))
  exact bodyPost_ret (v := .agg #[_, _, _, .int .i64 0]) (by simp [results, Try.results35, go_sem, z0, z1, z2, z3]) rfl ⟨_, _, rfl, ⟨rowR_block (q := [.slice ao l.length cap]) k2 rfl ⟨_, qs, rfl, hr1.mv (Mv.weak _ fun _ _ _ => trivial), hr2⟩, rowR_block (q := []) (k1.alloc _) rfl rfl, rowR_nil _ _⟩, bnext HX2 (balloc _ _)⟩
/-- Instructions in a block. -/
theorem row_ins {w : World} {b : Nat} {c : Array Value} {t : TypeId} {l : List In} {n : Nat} (hk : Bk w b c t) (hn : l.length = n) (hc : c.toList = rowOf TN l (l.map fun _ => [])) : RowR TN w (fun _ => True) (.slice (some ⟨b, 0, none⟩) n n) l := by
  subst hn
  refine ⟨l.map fun _ => [], ⟨_, _, rfl, Nat.le_refl _, .inr ⟨_, 0, rfl, ⟨trivial, hk.lt⟩, fun j u hj => ?_⟩⟩, ?_⟩
  · rw [Nat.zero_add, cell_of_row _ _ _ _ _ (0, 0) hk, ← Array.getElem?_toList, hc]
    exact hj
  · clear hk hc
    induction l with
    | nil => trivial
    | cons x l ih => exact ⟨rfl, ih⟩
theorem same_yes (v1 v2 : Value) (l : List Int) (w : World) (S S2 : Nat → Prop) (h1 : RowR TI w S v1 l) (h2 : RowR TI w S2 v2 l) (hn : l.length ≤ 1000) :
    Calls Try.prog 22 #[v1, v2] w fun e w' => e = .returned (.bool true) ∧ Below w.heap.size w w' :=
  (same_any v1 v2 l l w S S2 h1 h2 hn).mono fun e w' h => by
    rw [decide_eq_true rfl] at h
    exact h
/-- Numbers in a block. -/
theorem row_ints {w : World} {b : Nat} {c : Array Value} {t : TypeId} {l : List Int} {n : Nat} (hk : Bk w b c t) (hn : l.length = n) (hc : c.toList = rowOf TI l (l.map fun _ => [])) : RowR TI w (fun _ => False) (.slice (some ⟨b, 0, none⟩) n n) l := by
  subst hn
  refine ⟨l.map fun _ => [], ⟨_, _, rfl, Nat.le_refl _, .inr ⟨_, 0, rfl, ⟨trivial, hk.lt⟩, fun j u hj => ?_⟩⟩, ?_⟩
  · rw [Nat.zero_add, cell_of_row _ _ _ _ _ (0, 0) hk, ← Array.getElem?_toList, hc]
    exact hj
  · clear hk hc
    induction l with
    | nil => trivial
    | cons x l ih => exact ⟨rfl, ih⟩
set_option maxHeartbeats 8000000 in
theorem lives_c (w : World) : Calls Try.prog 19 #[] w fun e w' => e = .returned (.bool true) ∧ Below w.heap.size w w' := by
  have HX0 := Lib.hid (balloc w (.cells #[.int .i64 1, .int .i64 0, .int .i64 0, .int .i64 15, .int .i64 0, .int .i64 0] 45))
  have HR0 := Lib.hid (row_ins (l := lA) (Bk.new w #[.int .i64 1, .int .i64 0, .int .i64 0, .int .i64 15, .int .i64 0, .int .i64 0] 45) rfl rfl)
  go_enter Try.func19, Try.ntmps19
  go_wp2_with fail
  refine (one_c lA _ _ HR0.out).mono ?_
  rintro e w1 ⟨fo1, io1, rfl, hc1, hb1⟩
  have HX1 := Lib.hid (bnext HX0.out hb1)
  have HC1 := Lib.hid hc1
  clear hc1 hb1 HX0 HR0
  obtain ⟨W2, hW2⟩ : ∃ W, W = w1.alloc (.cells #[.slice (some fo1) 1 1, .slice (some io1) 1 1, .slice none 0 0, .int .i64 0] 27) := ⟨_, rfl⟩
  have HS2 := Lib.hid (show W2.heap.size = w1.heap.size + 1 from by rw [hW2]; simp)
  have HXA := Lib.hid (show Below w.heap.size w W2 from by rw [hW2]; exact bnext HX1.out (balloc _ _))
  have HKA := Lib.hid (show Bk W2 w1.heap.size #[.slice (some fo1) 1 1, .slice (some io1) 1 1, .slice none 0 0, .int .i64 0] 27 from by rw [hW2]; exact Bk.new w1 _ _)
  have HCA := Lib.hid (show HasC W2 (fun _ => True) (oneCd lA) (.slice (some fo1) 1 1) (.slice (some io1) 1 1) (.slice none 0 0) from by rw [hW2]; exact HC1.out.keep (balloc _ _))
  have hR2 := row_ins (l := lB) (new_at W2 #[.int .i64 9, .int .i64 0, .int .i64 0] 45 HS2.out) rfl rfl
  have hX2 := balloc W2 (.cells #[.int .i64 9, .int .i64 0, .int .i64 0] 45)
  rw [hW2] at hR2
  have HR2 := Lib.hid hR2
  have HB2 := Lib.hid hX2
  have HW2 := Lib.hid hW2
  clear HC1 HX1 hR2 hX2 hW2
  go_wp2_with fail
  refine (one_c lB _ _ HR2.out).mono ?_
  rintro e w3 ⟨fo2, io2, rfl, hc3, hb3⟩
  rw [← HW2.out] at hb3
  replace hb3 := bnext HB2.out hb3
  have HXA3 := Lib.hid (bnext HXA.out hb3)
  have HKA3 := Lib.hid (HKA.out.keep hb3)
  have HCA3 := Lib.hid (HCA.out.keep hb3)
  have HC3 := Lib.hid hc3
  clear hc3 hb3 HXA HKA HCA HR2 HB2 HW2 HS2 W2
  obtain ⟨W4, hW4⟩ : ∃ W, W = w3.alloc (.cells #[.slice (some fo2) 1 1, .slice (some io2) 1 1, .slice none 0 0, .int .i64 0] 27) := ⟨_, rfl⟩
  have HS4 := Lib.hid (show W4.heap.size = w3.heap.size + 1 from by rw [hW4]; simp)
  have HXA := Lib.hid (show Below w.heap.size w W4 from by rw [hW4]; exact bnext HXA3.out (balloc _ _))
  have HKA := Lib.hid (show Bk W4 w1.heap.size #[.slice (some fo1) 1 1, .slice (some io1) 1 1, .slice none 0 0, .int .i64 0] 27 from by rw [hW4]; exact HKA3.out.alloc _)
  have HCA := Lib.hid (show HasC W4 (fun _ => True) (oneCd lA) (.slice (some fo1) 1 1) (.slice (some io1) 1 1) (.slice none 0 0) from by rw [hW4]; exact HCA3.out.keep (balloc _ _))
  have HKB := Lib.hid (show Bk W4 w3.heap.size #[.slice (some fo2) 1 1, .slice (some io2) 1 1, .slice none 0 0, .int .i64 0] 27 from by rw [hW4]; exact Bk.new w3 _ _)
  have HCB := Lib.hid (show HasC W4 (fun _ => True) (oneCd lB) (.slice (some fo2) 1 1) (.slice (some io2) 1 1) (.slice none 0 0) from by rw [hW4]; exact HC3.out.keep (balloc _ _))
  have hR4 := row_ins (l := lC) (new_at W4 #[.int .i64 21, .int .i64 2, .int .i64 0, .int .i64 16, .int .i64 1, .int .i64 0, .int .i64 15, .int .i64 0, .int .i64 0] 45 HS4.out) rfl rfl
  have hX4 := balloc W4 (.cells #[.int .i64 21, .int .i64 2, .int .i64 0, .int .i64 16, .int .i64 1, .int .i64 0, .int .i64 15, .int .i64 0, .int .i64 0] 45)
  rw [hW4] at hR4
  have HR4 := Lib.hid hR4
  have HB4 := Lib.hid hX4
  have HW4 := Lib.hid hW4
  clear HC3 HXA3 HKA3 HCA3 hR4 hX4 hW4
  go_wp2_with fail
  refine (one_c lC _ _ HR4.out).mono ?_
  rintro e w5 ⟨fo3, io3, rfl, hc5, hb5⟩
  rw [← HW4.out] at hb5
  replace hb5 := bnext HB4.out hb5
  have HXA5 := Lib.hid (bnext HXA.out hb5)
  have HKA5 := Lib.hid (HKA.out.keep hb5)
  have HCA5 := Lib.hid (HCA.out.keep hb5)
  have HKB5 := Lib.hid (HKB.out.keep hb5)
  have HCB5 := Lib.hid (HCB.out.keep hb5)
  have HC5 := Lib.hid hc5
  clear hc5 hb5 HXA HKA HCA HKB HCB HR4 HB4 HW4 HS4 W4
  obtain ⟨W6, hW6⟩ : ∃ W, W = w5.alloc (.cells #[.slice (some fo3) 1 1, .slice (some io3) 1 1, .slice none 0 0, .int .i64 0] 27) := ⟨_, rfl⟩
  have HXA := Lib.hid (show Below w.heap.size w W6 from by rw [hW6]; exact bnext HXA5.out (balloc _ _))
  have HKA := Lib.hid (show Bk W6 w1.heap.size #[.slice (some fo1) 1 1, .slice (some io1) 1 1, .slice none 0 0, .int .i64 0] 27 from by rw [hW6]; exact HKA5.out.alloc _)
  have HCA := Lib.hid (show HasC W6 (fun _ => True) (oneCd lA) (.slice (some fo1) 1 1) (.slice (some io1) 1 1) (.slice none 0 0) from by rw [hW6]; exact HCA5.out.keep (balloc _ _))
  have HKB := Lib.hid (show Bk W6 w3.heap.size #[.slice (some fo2) 1 1, .slice (some io2) 1 1, .slice none 0 0, .int .i64 0] 27 from by rw [hW6]; exact HKB5.out.alloc _)
  have HCB := Lib.hid (show HasC W6 (fun _ => True) (oneCd lB) (.slice (some fo2) 1 1) (.slice (some io2) 1 1) (.slice none 0 0) from by rw [hW6]; exact HCB5.out.keep (balloc _ _))
  have HKC := Lib.hid (show Bk W6 w5.heap.size #[.slice (some fo3) 1 1, .slice (some io3) 1 1, .slice none 0 0, .int .i64 0] 27 from by rw [hW6]; exact Bk.new w5 _ _)
  have HCC := Lib.hid (show HasC W6 (fun _ => True) (oneCd lC) (.slice (some fo3) 1 1) (.slice (some io3) 1 1) (.slice none 0 0) from by rw [hW6]; exact HC5.out.keep (balloc _ _))
  clear HXA5 HKA5 HCA5 HKB5 HCB5 HC5
  obtain ⟨pa, hpa⟩ : ∃ x, w1.heap.size = x := ⟨_, rfl⟩
  obtain ⟨pb, hpb⟩ : ∃ x, w3.heap.size = x := ⟨_, rfl⟩
  obtain ⟨pc, hpc⟩ : ∃ x, Hid (w5.heap.size = x) := ⟨_, Lib.hid rfl⟩
  rw [hpa] at HKA
  rw [hpb] at HKB
  rw [hpc.out] at HKC
  rw [hpa]
  have HW6 := Lib.hid hW6
  have a0 := HKA.out.cell 0 _ rfl
  have a1 := HKA.out.cell 1 _ rfl
  have a2 := HKA.out.cell 2 _ rfl
  have a3 := HKA.out.cell 3 _ rfl
  rw [hW6] at a0 a1 a2 a3
  clear hW6
  go_wp2_with fail
  rw [← HW6.out]
  refine (pdep_x lA [0, 1] depA (by decide) _ _ _ W6 HCA.out).mono ?_
  rintro e w7 ⟨v7, rfl, hr7, hb7⟩
  have HX7 := Lib.hid (bnext HXA.out hb7)
  have HR7 := Lib.hid hr7
  have HB7 := Lib.hid hb7
  have HA7 := Lib.hid (HKA.out.keep hb7)
  have HC7 := Lib.hid (HKC.out.keep hb7)
  have HCC7 := Lib.hid (HCC.out.keep hb7)
  clear hr7 hb7 a0 a1 a2 a3
  have HR8 := Lib.hid (row_ints (l := [0, 1]) (n := 2) (Bk.new w7 #[.int .i64 0, .int .i64 1] 3) rfl rfl)
  go_wp2_with fail
  refine (same_yes _ _ [0, 1] _ _ _ (HR7.out.keep (balloc w7 _)) HR8.out (by decide)).mono ?_
  rintro e w8 ⟨rfl, hb8⟩
  have HBB := Lib.hid (bnext HB7.out (bnext (balloc w7 _) hb8))
  have HX8 := Lib.hid (bnext HXA.out HBB.out)
  have HKA8 := Lib.hid (HKA.out.keep HBB.out)
  have HCA8 := Lib.hid (HCA.out.keep HBB.out)
  have HKB8 := Lib.hid (HKB.out.keep HBB.out)
  have HCB8 := Lib.hid (HCB.out.keep HBB.out)
  have HKC8 := Lib.hid (HKC.out.keep HBB.out)
  have HCC8 := Lib.hid (HCC.out.keep HBB.out)
  clear hb8 HBB HR7 HR8 HA7 HC7 HCC7 HB7 HX7 HXA HKA HCA HKB HCB HKC HCC HW6
  rw [hpc.out]
  have a0 := HKC8.out.cell 0 _ rfl
  have a1 := HKC8.out.cell 1 _ rfl
  have a2 := HKC8.out.cell 2 _ rfl
  have a3 := HKC8.out.cell 3 _ rfl
  go_wp2_with fail
  refine (pdep_x lC [0, 0, 1] depC (by decide) _ _ _ w8 HCC8.out).mono ?_
  rintro e w9 ⟨v9, rfl, hr9, hb9⟩
  have HR9 := Lib.hid hr9
  have HB9 := Lib.hid hb9
  clear hr9 hb9 a0 a1 a2 a3
  have HR10 := Lib.hid (row_ints (l := [0, 0, 1]) (n := 3) (Bk.new w9 #[.int .i64 0, .int .i64 0, .int .i64 1] 3) rfl rfl)
  go_wp2_with fail
  refine (same_yes _ _ [0, 0, 1] _ _ _ (HR9.out.keep (balloc w9 _)) HR10.out (by decide)).mono ?_
  rintro e wA ⟨rfl, hbA⟩
  have HBB := Lib.hid (bnext HB9.out (bnext (balloc w9 _) hbA))
  have HXA := Lib.hid (bnext HX8.out HBB.out)
  have HKA := Lib.hid (HKA8.out.keep HBB.out)
  have HCA := Lib.hid (HCA8.out.keep HBB.out)
  have HKB := Lib.hid (HKB8.out.keep HBB.out)
  have HCB := Lib.hid (HCB8.out.keep HBB.out)
  have HKC := Lib.hid (HKC8.out.keep HBB.out)
  have HCC := Lib.hid (HCC8.out.keep HBB.out)
  clear hbA HBB HR9 HR10 HB9 HX8 HKA8 HCA8 HKB8 HCB8 HKC8 HCC8
  have a0 := HKA.out.cell 0 _ rfl
  have a1 := HKA.out.cell 1 _ rfl
  have a2 := HKA.out.cell 2 _ rfl
  have a3 := HKA.out.cell 3 _ rfl
  go_wp2_with fail
  refine (pcod_yes lA mayA okA (by decide) _ _ _ wA HCA.out).mono ?_
  rintro e wB ⟨rfl, hbB⟩
  have HBB := Lib.hid hbB
  have HXB := Lib.hid (bnext HXA.out HBB.out)
  have HKBB := Lib.hid (HKB.out.keep HBB.out)
  have HCBB := Lib.hid (HCB.out.keep HBB.out)
  have HKCB := Lib.hid (HKC.out.keep HBB.out)
  have HCCB := Lib.hid (HCC.out.keep HBB.out)
  clear hbB HBB HXA HKA HCA HKB HCB HKC HCC a0 a1 a2 a3
  have b0 := HKBB.out.cell 0 _ rfl
  have b1 := HKBB.out.cell 1 _ rfl
  have b2 := HKBB.out.cell 2 _ rfl
  have b3 := HKBB.out.cell 3 _ rfl
  go_wp2_with fail
  refine (pcod_no lB mayB_ okB (by decide) _ _ _ wB HCBB.out).mono ?_
  rintro e wC ⟨rfl, hbC⟩
  have HBB := Lib.hid hbC
  have HXC := Lib.hid (bnext HXB.out HBB.out)
  have HKB := Lib.hid (HKBB.out.keep HBB.out)
  have HCB := Lib.hid (HCBB.out.keep HBB.out)
  have HKC := Lib.hid (HKCB.out.keep HBB.out)
  have HCC := Lib.hid (HCCB.out.keep HBB.out)
  clear hbC HBB HXB HKBB HCBB HKCB HCCB b0 b1 b2 b3
  have c0 := HKC.out.cell 0 _ rfl
  have c1 := HKC.out.cell 1 _ rfl
  have c2 := HKC.out.cell 2 _ rfl
  have c3 := HKC.out.cell 3 _ rfl
  go_wp2_with fail
  refine (pcod_yes lC mayC okC (by decide) _ _ _ wC HCC.out).mono ?_
  rintro e wD ⟨rfl, hbD⟩
  have HBB := Lib.hid hbD
  have HXD := Lib.hid (bnext HXC.out HBB.out)
  have HKBD := Lib.hid (HKB.out.keep HBB.out)
  have HCBD := Lib.hid (HCB.out.keep HBB.out)
  clear hbD HBB HXC HKB HCB HKC HCC c0 c1 c2 c3
  have b0 := HKBD.out.cell 0 _ rfl
  have b1 := HKBD.out.cell 1 _ rfl
  have b2 := HKBD.out.cell 2 _ rfl
  have b3 := HKBD.out.cell 3 _ rfl
  go_wp2_with fail
  refine (pdep_x lB [] depB (by decide) _ _ _ wD HCBD.out).mono ?_
  rintro e wE ⟨vE, rfl, hrE, hbE⟩
  have HXE := Lib.hid (bnext HXD.out hbE)
  obtain ⟨aE, cE, rfl, _⟩ := hrE.val
  clear hrE hbE b0 b1 b2 b3
  go_wp2_with fail
  go_ret
  exact ⟨rfl, HXE.out⟩
end Go.Proofs.Ytkhdkepjhifffaa.VW
