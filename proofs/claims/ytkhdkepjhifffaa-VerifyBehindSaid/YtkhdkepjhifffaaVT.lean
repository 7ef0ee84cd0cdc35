/- The document's Depths. -/
import Derived.Test.YtkhdkepjhifffaaVS
namespace Go.Proofs.Ytkhdkepjhifffaa.VT
open Go.RowKit Go.Proofs.Ytkhdkepjhifffaa.RG Go.Proofs.Ytkhdkepjhifffaa.RB Go.Proofs.Ytkhdkepjhifffaa.KA Go.Proofs.Ytkhdkepjhifffaa.KB Go.Proofs.Ytkhdkepjhifffaa.KC Go.Proofs.Ytkhdkepjhifffaa.KH Go.Proofs.Ytkhdkepjhifffaa.VA Go.Proofs.Ytkhdkepjhifffaa.VB Go.Proofs.Ytkhdkepjhifffaa.VE Go.Proofs.Ytkhdkepjhifffaa.VF Go.Proofs.Ytkhdkepjhifffaa.VH Go.Proofs.Ytkhdkepjhifffaa.VM Go.Proofs.Ytkhdkepjhifffaa.VN Go.Proofs.Ytkhdkepjhifffaa.VO Go.Proofs.Ytkhdkepjhifffaa.VP Go.Proofs.Ytkhdkepjhifffaa.VR Go.Proofs.Ytkhdkepjhifffaa.VS
set_option linter.unusedVariables false
set_option maxRecDepth 100000
set_option maxRecDepth 100000

set_option maxHeartbeats 16000000 in
theorem ddepths_c (c : Cd) (fv iv tv : Value) (fz : Int) (w : World) (S : Nat → Prop) (h : HasC w S c fv iv tv) (hl : c.funs.length ≤ 100000 ∧ c.ints.length ≤ 100000 ∧ c.texts.length ≤ 100000 ∧ ∀ f, f ∈ c.funs → f.code.length ≤ 100000) :
    Calls Try.prog 21 #[.agg #[fv, iv, tv, .int .i64 c.lets], .int .i64 fz] w (DepthsRes c fz w) := by
  obtain ⟨fo, fc, rfl, _⟩ := h.funs.val
  obtain ⟨io, ic, rfl, _⟩ := h.ints.val
  obtain ⟨to_, tc, rfl, _⟩ := h.texts.val
  have HC := Lib.hid h
  have HMAY := Lib.hid (fun w' (hb : Below w.heap.size w w') => may_c c _ _ _ w' S (h.keep hb) hl)
  obtain ⟨NF, hNF⟩ : ∃ x, Hid (c.funs.length = x) := ⟨_, Lib.hid rfl⟩
  obtain ⟨NI, hNI⟩ : ∃ x, Hid (c.ints.length = x) := ⟨_, Lib.hid rfl⟩
  obtain ⟨NT, hNT⟩ : ∃ x, Hid (c.texts.length = x) := ⟨_, Lib.hid rfl⟩
  obtain ⟨LT, hLT⟩ : ∃ x, Hid (c.lets = x) := ⟨_, Lib.hid rfl⟩
  obtain ⟨MB, hMB⟩ : ∃ x, Hid (mayB c = x) := ⟨_, Lib.hid rfl⟩
  have HW : Hid (∀ (n : Nat) (f : Bd) (w' : World), Below w.heap.size w w' → mayB c = true → c.funs[n]? = some f → Calls Try.prog 34 #[.agg #[.slice fo NF fc, .slice io NI ic, .slice to_ NT tc, .int .i64 LT], .int .i64 (n : Int)] w' (WalkRes c n f w')) := Lib.hid fun n f w' hb hm hf => by
    have F := fok_of hm hf
    have := walk_c c _ _ _ n f w' S (h.keep hb) hf ⟨hl.1, hl.2.1, hl.2.2.1⟩ F hl.1
    rw [hNF.out, hNI.out, hNT.out, hLT.out] at this
    exact this
  rw [hNF.out, hNI.out, hNT.out, hLT.out] at HMAY ⊢
  rw [hMB.out] at HMAY
  have HNIL := Lib.hid (fun w' hb hn => @depths_nil c fz w w' hb hn)
  have HX := Lib.hid (balloc w (.cells #[.slice fo NF fc, .slice io NI ic, .slice to_ NT tc, .int .i64 LT] 27))
  have HK := Lib.hid (Bk.new w #[.slice fo NF fc, .slice io NI ic, .slice to_ NT tc, .int .i64 LT] 27)
  have c0 := HK.out.cell 0 (.slice fo NF fc) rfl
  have c1 := HK.out.cell 1 (.slice io NI ic) rfl
  have c2 := HK.out.cell 2 (.slice to_ NT tc) rfl
  have c3 := HK.out.cell 3 (.int .i64 LT) rfl
  clear h hl
  go_enter Try.func21, Try.ntmps21
  go_wp2_with fail
  refine (HMAY.out _ HX.out).mono ?_
  rintro e w1 ⟨rfl, hb1⟩
  have HX1 := Lib.hid (bnext HX.out hb1)
  have HK1 := Lib.hid (HK.out.keep hb1)
  clear hb1 c0 c1 c2 c3
  cases MB
  · have HR := Lib.hid (HNIL.out _ HX1.out (.inl hMB.out))
    go_wp2_with fail
    go_ret
    exact HR.out
  have k0 := HK1.out.cell 0 (.slice fo NF fc) rfl
  by_cases hz : fz < 0
  · have HR := Lib.hid (HNIL.out _ HX1.out (.inr (.inl hz)))
    go_wp2_with fail
    go_ret
    exact HR.out
  obtain ⟨n, rfl⟩ := Int.eq_ofNat_of_zero_le (show 0 ≤ fz by omega)
  by_cases hn : NF ≤ n
  · have HR := Lib.hid (HNIL.out _ HX1.out (.inr (.inr (by rw [hNF.out]; omega))))
    have i1 : (n : Int) ≥ (NF : Int) := by omega
    go_wp2_with fail
    go_ret
    exact HR.out
  have i1 : ¬ (n : Int) ≥ (NF : Int) := by omega
  have k1 := HK1.out.cell 1 (.slice io NI ic) rfl
  have k2 := HK1.out.cell 2 (.slice to_ NT tc) rfl
  have k3 := HK1.out.cell 3 (.int .i64 LT) rfl
  obtain ⟨f, hf⟩ := getElem?_of_lt (l := c.funs) (k := n) (by rw [hNF.out]; omega)
  have HF := Lib.hid hf
  clear hf
  go_wp2_with fail
  refine (HW.out n f w1 HX1.out hMB.out HF.out).mono ?_
  rintro e w4 ⟨hb, (⟨A, b, hans, rfl, hrow, hBb⟩ | ⟨hans, rfl⟩)⟩
  rotate_left
  · have HR : Hid (DepthsRes c (n : Int) w (.returned (.slice none 0 0)) w4) := Lib.hid ⟨bnext HX1.out hb, _, [], rfl, rowR_nil _ _, (fun b h => by cases h), .inr ⟨n, f, rfl, hMB.out, HF.out, .inr ⟨hans, rfl⟩⟩⟩
    clear hans hb k0 k1 k2 k3
    go_wp2_with fail
    go_ret
    exact HR.out
  obtain ⟨N, hN⟩ : ∃ x, Hid (f.code.length = x) := ⟨_, Lib.hid rfl⟩
  have HN4 : Hid (N ≤ 400) := Lib.hid (by rw [← hN.out]; exact (fok_of hMB.out HF.out).n1)
  have HANS := Lib.hid hans
  have HX4 := Lib.hid (bnext HX1.out hb)
  have HROW := Lib.hid (hrow.mv (Mv.weak w4 (S' := fun x => x < w4.heap.size) fun x _ h => h) rfl)
  have HLB := Lib.hid (And.intro (Nat.le_trans HX1.out.size hBb) hrow.lt)
  have HAL : Hid (A.length = N) := Lib.hid (by
    cases hans with
    | yes h _ _ => rw [h]; exact hN.out)
  rw [hN.out]
  obtain ⟨Q, hQ⟩ : ∃ x, Hid (w4.heap.size = x) := ⟨_, Lib.hid rfl⟩
  rw [hQ.out] at HROW HLB
  have HO0 := Lib.hid (OwnR.nil (R := TI) w4 Q (fun _ => False))
  have HQ4 : Hid (Below Q w4 w4) := Lib.hid (Below.refl _ _)
  clear hans hb hrow hBb k0 k1 k2 k3
  go_wp2_with fail
  go_loopg [8, 9] N (fun g vv iv wr => ∃ i : Nat, i + g = N ∧ iv = .int .i64 (i : Int) ∧ Hid (OwnF TI wr Q vv ((A.map depO).take i)) ∧ Hid (Below Q w4 wr) ∧ Hid (RowB TZ wr (fun x => x < Q) b (A.map rawD)))
  case atStart => exact ⟨0, Nat.zero_add _, rfl, HO0, HQ4, HROW⟩
  case round =>
    clear HO0 HQ4 HROW
    obtain ⟨i, hin, rfl, HO, HB, HROW⟩ := hrel
    by_cases hlt : i < N
    · obtain ⟨g, rfl⟩ : ∃ g, gk = g + 1 := ⟨gk - 1, by omega⟩
      obtain ⟨o, ho⟩ := getElem?_of_lt (l := A) (k := i) (by rw [HAL.out]; exact hlt)
      obtain ⟨q3, hL3, _⟩ := HROW.out.at (at_map rawD ho)
      have x0 := hL3 0 _ rfl
      have x1 := hL3 1 _ rfl
      have e0 : i * TZ.size + 0 = i * 3 := rfl
      have e1 : i * TZ.size + 1 = i * 3 + 1 := rfl
      rw [e0] at x0
      rw [e1] at x1
      have i4 : (0 : Int) ≤ (i : Int) := by omega
      have i5 : (i : Int) < (N : Int) := by omega
      have HOA := Lib.hid ho
      clear hL3 ho
      rcases o with _ | s
      · replace x0 : wr.cell? ⟨b, i * 3, none⟩ = some (.bool false) := x0
        have HOW0 := Lib.hid (fun x hx => HO.out.own (b := x) hx)
        have HO1 := Lib.hid (HO.out.keep (balloc wr (.cells #[.int .i64 (-1)] 3)))
        have HR1 := Lib.hid (show RowR TI (wr.alloc (.cells #[.int .i64 (-1)] 3)) (fun x => False ∧ u8.ownBlock ≠ some x) (.slice (some ⟨wr.heap.size, 0, none⟩) 1 1) [(-1)] from rowR_new (q := []) #[.int .i64 (-1)] 3 rfl rfl)
        have HLN := Lib.hid (show ((A.map depO).take i).length + [(-1)].length ≤ 100000000000 by have := HAL.out; have := HN4.out; simp; omega)
        have HQR : Hid (Q ≤ wr.heap.size) := Lib.hid (by have := HB.out.size; have := hQ.out; omega)
        have HBS := Lib.hid (show Q ≤ (wr.alloc (.cells #[.int .i64 (-1)] 3)).heap.size by have := HQR.out; simp; omega)
        have HBA := Lib.hid (HB.out.trans ((balloc wr (.cells #[.int .i64 (-1)] 3)).mono HQR.out))
        have HSN : Hid ((A.map depO).take i ++ [(-1)] = (A.map depO).take (i + 1)) := Lib.hid (take_snoc (by simp [HOA.out]; rfl)).symm
        go_wp2_with (at_builtin; go_loud (refine wpList_row TI (wr.alloc (.cells #[.int .i64 (-1)] 3)) rfl (.tmp 52) (.tmp 53) rfl Q (fun _ => False) u8 (.slice (some ⟨wr.heap.size, 0, none⟩) 1 1) ((A.map depO).take i) [(-1)] rfl rfl HO1.out HR1.out HLN.out HBS.out ?_); intro ao6 n6 cap6 w6 hO6 hn6 hg6 ha6; clear hn6; have HO6 := Lib.hid hO6; have HB6 := Lib.hid (HBA.out.trans (bgrown hg6 (fun x hx => (HOW0.out x hx).1) HBS.out)); have HBR := Lib.hid (((balloc wr (.cells #[.int .i64 (-1)] 3)).mono HQR.out).trans (bgrown hg6 (fun x hx => (HOW0.out x hx).1) HBS.out)); clear hO6 hg6 ha6)
        have HRW6 := Lib.hid (HROW.out.mv (w' := w6) (S' := fun x => x < Q) ⟨HBR.out.size, fun x hx _ => ⟨hx, HBR.out.block x hx⟩⟩ (HBR.out.block b HLB.out.2))
        go_roundg g
        case rel => exact ⟨i + 1, by omega, by have := HN4.out; congr 1; unfold wrap64; omega, Lib.hid (by rw [← HSN.out]; exact HO6.out), HB6, HRW6⟩
        case measure => omega
      · replace x0 : wr.cell? ⟨b, i * 3, none⟩ = some (.bool true) := x0
        replace x1 : wr.cell? ⟨b, i * 3 + 1, none⟩ = some (.int .i64 s.dep) := x1
        obtain ⟨DP, hDP⟩ : ∃ x, Hid (s.dep = x) := ⟨_, Lib.hid rfl⟩
        rw [hDP.out] at x1
        have HOW0 := Lib.hid (fun x hx => HO.out.own (b := x) hx)
        have HO1 := Lib.hid (HO.out.keep (balloc wr (.cells #[.int .i64 DP] 3)))
        have HR1 := Lib.hid (show RowR TI (wr.alloc (.cells #[.int .i64 DP] 3)) (fun x => False ∧ u8.ownBlock ≠ some x) (.slice (some ⟨wr.heap.size, 0, none⟩) 1 1) [DP] from rowR_new (q := []) #[.int .i64 DP] 3 rfl rfl)
        have HLN := Lib.hid (show ((A.map depO).take i).length + [DP].length ≤ 100000000000 by have := HAL.out; have := HN4.out; simp; omega)
        have HQR : Hid (Q ≤ wr.heap.size) := Lib.hid (by have := HB.out.size; have := hQ.out; omega)
        have HBS := Lib.hid (show Q ≤ (wr.alloc (.cells #[.int .i64 DP] 3)).heap.size by have := HQR.out; simp; omega)
        have HBA := Lib.hid (HB.out.trans ((balloc wr (.cells #[.int .i64 DP] 3)).mono HQR.out))
        have HSN : Hid ((A.map depO).take i ++ [DP] = (A.map depO).take (i + 1)) := Lib.hid (take_snoc (by simp [HOA.out]; exact hDP.out)).symm
        go_wp2_with (at_builtin; go_loud (refine wpList_row TI (wr.alloc (.cells #[.int .i64 DP] 3)) rfl (.tmp 44) (.tmp 50) rfl Q (fun _ => False) u8 (.slice (some ⟨wr.heap.size, 0, none⟩) 1 1) ((A.map depO).take i) [DP] rfl rfl HO1.out HR1.out HLN.out HBS.out ?_); intro ao6 n6 cap6 w6 hO6 hn6 hg6 ha6; clear hn6; have HO6 := Lib.hid hO6; have HB6 := Lib.hid (HBA.out.trans (bgrown hg6 (fun x hx => (HOW0.out x hx).1) HBS.out)); have HBR := Lib.hid (((balloc wr (.cells #[.int .i64 DP] 3)).mono HQR.out).trans (bgrown hg6 (fun x hx => (HOW0.out x hx).1) HBS.out)); clear hO6 hg6 ha6)
        have HRW6 := Lib.hid (HROW.out.mv (w' := w6) (S' := fun x => x < Q) ⟨HBR.out.size, fun x hx _ => ⟨hx, HBR.out.block x hx⟩⟩ (HBR.out.block b HLB.out.2))
        go_roundg g
        case rel => exact ⟨i + 1, by omega, by have := HN4.out; congr 1; unfold wrap64; omega, Lib.hid (by rw [← HSN.out]; exact HO6.out), HB6, HRW6⟩
        case measure => omega
    · have hiN : i = N := by omega
      have hO := HO.out
      rw [hiN, List.take_of_length_le (by simp [HAL.out])] at hO
      have HR : Hid (DepthsRes c (n : Int) w (.returned u8) wr) := Lib.hid ⟨HX4.out.trans (HB.out.mono (by have := HX4.out.size; have := hQ.out; omega)), _, _, rfl, hO.row, (fun b h => by have := (hO.own h).1; have := HX4.out.size; have := hQ.out; omega), .inr ⟨n, f, rfl, hMB.out, HF.out, .inl ⟨A, HANS.out, rfl⟩⟩⟩
      have i5 : ¬ (i : Int) < (N : Int) := by omega
      go_wp2_with fail
      go_ret
      exact HR.out
end Go.Proofs.Ytkhdkepjhifffaa.VT
