/- A code with few of all, by the document: the walk. -/
import Derived.Test.YtkhdkepjhifffaaKH
import Derived.StillTailTactics
import Derived.BigRegion
import Derived.Deep.CutBlock
import Derived.Deep.DeepCutAuto
namespace Go.Proofs.Ytkhdkepjhifffaa.KI
open Go.RowKit Go.Proofs.Ytkhdkepjhifffaa.RG Go.Proofs.Ytkhdkepjhifffaa.KA Go.Proofs.Ytkhdkepjhifffaa.KB Go.Proofs.Ytkhdkepjhifffaa.KH
set_option linter.unusedVariables false
set_option maxRecDepth 100000
set_option maxRecDepth 100000

def cutBd (f : Bd) : Bd := ⟨f.kept, f.locals, f.stack, f.code.take 60⟩
def cutCd (c : Cd) : Cd := ⟨(c.funs.take 6).map cutBd, c.ints.take 6, (c.texts.take 6).map (List.take 70), c.lets⟩
theorem ext70 (s : By) : (ByteArray.mk s.toArray).extract 0 70 = ⟨(s.take 70).toArray⟩ := by
  apply ByteArray.ext
  simp
def CutRes (c : Cd) (w : World) (e : Ending) (w' : World) : Prop :=
  ∃ fv iv tv, e = .returned (.agg #[fv, iv, tv, .int .i64 c.lets]) ∧ HasO w' w.heap.size (cutCd c) fv iv tv ∧ Below w.heap.size w w'
set_option maxHeartbeats 16000000 in
theorem cut_c (c : Cd) (fv iv tv : Value) (w : World) (S : Nat → Prop) (h : HasC w S c fv iv tv) (hl : c.funs.length ≤ maxLen ∧ c.ints.length ≤ maxLen ∧ c.texts.length ≤ maxLen ∧ ∀ f, f ∈ c.funs → f.code.length ≤ maxLen) :
    Calls Try.prog 14 #[.agg #[fv, iv, tv, .int .i64 c.lets]] w (CutRes c w) := by
  obtain ⟨fo, fc, rfl, hfc⟩ := h.funs.val
  obtain ⟨io, ic, rfl, hic⟩ := h.ints.val
  obtain ⟨to_, tc, rfl, htc⟩ := h.texts.val
  have HH := Lib.hid h
  have HLC := Lib.hid hl.2.2.2
  obtain ⟨NF, hNF⟩ : ∃ x, Hid (c.funs.length = x) := ⟨_, Lib.hid rfl⟩
  obtain ⟨NI, hNI⟩ : ∃ x, Hid (c.ints.length = x) := ⟨_, Lib.hid rfl⟩
  obtain ⟨NT, hNT⟩ : ∃ x, Hid (c.texts.length = x) := ⟨_, Lib.hid rfl⟩
  obtain ⟨LT, hLT⟩ : ∃ x, Hid (c.lets = x) := ⟨_, Lib.hid rfl⟩
  unfold maxLen at hl
  have hl1 := hl.1
  have hl2 := hl.2.1
  have hl3 := hl.2.2.1
  rw [hNF.out] at hfc hl1 HH ⊢
  rw [hNI.out] at hic hl2 HH ⊢
  rw [hNT.out] at htc hl3 HH ⊢
  unfold CutRes
  rw [hLT.out]
  obtain ⟨B0, hB0⟩ : ∃ B, Hid (w.heap.size = B) := ⟨_, Lib.hid rfl⟩
  clear h hl
  go_enter Try.func14, Try.ntmps14
  go_upto_block 0 with fail
  have HXW := Lib.hid (bnext (bnext (balloc w (.cells #[.slice fo NF fc, .slice io NI ic, .slice to_ NT tc, .int .i64 LT] 27)) (balloc _ (.cells #[.slice none 0 0, .slice none 0 0, .slice none 0 0, .int .i64 0] 27))) (balloc _ (.cells #[.slice none 0 0, .slice none 0 0, .slice none 0 0, .int .i64 LT] 27)))
  have HK0 := Lib.hid (((Bk.new w #[.slice fo NF fc, .slice io NI ic, .slice to_ NT tc, .int .i64 LT] 27).alloc (.cells #[.slice none 0 0, .slice none 0 0, .slice none 0 0, .int .i64 0] 27)).alloc (.cells #[.slice none 0 0, .slice none 0 0, .slice none 0 0, .int .i64 LT] 27))
  have HKR := Lib.hid ((Bk.new (w.alloc (.cells #[.slice fo NF fc, .slice io NI ic, .slice to_ NT tc, .int .i64 LT] 27)) #[.slice none 0 0, .slice none 0 0, .slice none 0 0, .int .i64 0] 27).alloc (.cells #[.slice none 0 0, .slice none 0 0, .slice none 0 0, .int .i64 LT] 27))
  have HKX := Lib.hid (Bk.new ((w.alloc (.cells #[.slice fo NF fc, .slice io NI ic, .slice to_ NT tc, .int .i64 LT] 27)).alloc (.cells #[.slice none 0 0, .slice none 0 0, .slice none 0 0, .int .i64 0] 27)) #[.slice none 0 0, .slice none 0 0, .slice none 0 0, .int .i64 LT] 27)
  have hsz : (((w.alloc (.cells #[.slice fo NF fc, .slice io NI ic, .slice to_ NT tc, .int .i64 LT] 27)).alloc (.cells #[.slice none 0 0, .slice none 0 0, .slice none 0 0, .int .i64 0] 27)).alloc (.cells #[.slice none 0 0, .slice none 0 0, .slice none 0 0, .int .i64 LT] 27)).heap.size = B0 + 1 + 1 + 1 := by simp [hB0.out]
  simp only [World.size_alloc] at HKR HKX
  rw [hB0.out] at HK0 HKR HKX ⊢
  have HSZ := Lib.hid hsz
  clear hsz
  generalize World.alloc (World.alloc (World.alloc w _) _) _ = W at HXW HK0 HKR HKX HSZ ⊢
  obtain ⟨X, hX⟩ : ∃ X, Hid (B0 + 1 + 1 = X) := ⟨_, Lib.hid rfl⟩
  rw [hX.out] at HKX HSZ ⊢
  have hX0 : B0 + 1 < X := by have := hX.out; omega
  have HW := Lib.hid (show w.heap.size ≤ B0 from by rw [hB0.out]; exact Nat.le_refl _)
  have HO0 := Lib.hid (OwnR.nil (R := TI) W (X + 1) (fun _ => False))
  have HBO := Lib.hid (Bo.refl (X + 1) X W)
  go_cut [4] from 13 to 33 (fun s4 wc => ∃ vv, Hid (OwnF TI wc (X + 1) vv (c.ints.take 6)) ∧ Hid (Bk wc X #[.slice none 0 0, vv, .slice none 0 0, .int .i64 LT] 27) ∧ Hid (Bo (X + 1) X W wc))
  case first =>
    go_wp2_with fail
    go_loopg [4] 6 (fun g iv wr => ∃ (i : Nat) (vv : Value), i + g = 6 ∧ i ≤ NI ∧ iv = .int .i64 (i : Int) ∧ Hid (OwnF TI wr (X + 1) vv (c.ints.take i)) ∧ Hid (Bk wr X #[.slice none 0 0, vv, .slice none 0 0, .int .i64 LT] 27) ∧ Hid (Bo (X + 1) X W wr))
    case atStart => exact ⟨0, _, Nat.zero_add _, Nat.zero_le _, rfl, HO0, HKX, HBO⟩
    case round =>
      clear HO0 HBO HKX
      obtain ⟨i, vv, hi, hiN, rfl, HO, HKX, HBO⟩ := hrel
      have HK := Lib.hid (show Bk wr B0 _ _ from (HBO.out.block B0 (by omega) (by omega)).trans HK0.out)
      have HXR := Lib.hid (show Below w.heap.size w wr from HXW.out.trans ((HBO.out.mono (show w.heap.size ≤ X + 1 by have := HW.out; omega)).below (by have := HW.out; omega)))
      have k1 := HK.out.cell 1 _ rfl
      have k2 := HK.out.cell 2 _ rfl
      have o1 := HKX.out.cell 1 _ rfl
      have lX := HKX.out.lt
      have lB := HK.out.lt
      by_cases hlt : i < NI ∧ i < 6
      · obtain ⟨hlt1, hlt2⟩ := hlt
        obtain ⟨g, rfl⟩ : ∃ g, gk = g + 1 := ⟨gk - 1, by omega⟩
        have hne : c.ints ≠ [] := by intro e; have := hNI.out; rw [e] at this; simp at this; omega
        obtain ⟨b, off, cap, hve, _, hblt, hcells⟩ := HH.out.ints.open_ hne
        rw [hNI.out] at hve
        cases hve
        obtain ⟨n, hn⟩ := getElem?_of_lt (l := c.ints) (k := i) (by rw [hNI.out]; exact hlt1)
        obtain ⟨q, hL, _⟩ := hcells i n hn
        have x0 : wr.cell? ⟨b, off + i, none⟩ = some (.int .i64 n) := (HXR.out.cell (p := ⟨b, off + i, none⟩) hblt).trans (by have := hL 0 _ rfl; simpa [TI, Ty.flat] using this)
        have lb : b < wr.heap.size := Nat.lt_of_lt_of_le hblt HXR.out.size
        have HSN := Lib.hid (take_snoc hn)
        have i0 : (0 : Int) ≤ (i : Int) := by omega
        have i1 : (i : Int) < (NI : Int) := by omega
        have i2 : (i : Int) < 6 := by omega
        have HOA := Lib.hid ((HO.out.keep (bdr wr)).keep (balloc wr.drew (.cells #[.int .i64 n] 3)))
        have HR := Lib.hid (show RowR TI (wr.drew.alloc (.cells #[.int .i64 n] 3)) (fun b => False ∧ vv.ownBlock ≠ some b) (.slice (some ⟨wr.drew.heap.size, 0, none⟩) 1 1) [n] from rowR_new (q := []) #[.int .i64 n] 3 rfl rfl)
        have HLN := Lib.hid (show (c.ints.take i).length + [n].length ≤ 100000000000 by rw [List.length_take]; simp; omega)
        have HBS := Lib.hid (show X + 1 ≤ (wr.drew.alloc (.cells #[.int .i64 n] 3)).heap.size by simp; omega)
        have HOW := Lib.hid (fun b hb => HO.out.own (b := b) hb)
        have HKA := Lib.hid (HKX.out.drew.alloc (.cells #[.int .i64 n] 3))
        have HBA := Lib.hid (HBO.out.trans (Bo.of (B := X + 1) (x := X) (((bdr wr).trans (balloc wr.drew (.cells #[.int .i64 n] 3))).mono lX)))
        clear hcells hL hn hne
        go_wp2_with fail
        go_region_law (first | (refine step_row TI (wr.drew.alloc (.cells #[.int .i64 n] 3)) rfl (.tmp 25) (.tmp 31) rfl (X + 1) (fun _ => False) vv (.slice (some ⟨wr.drew.heap.size, 0, none⟩) 1 1) (c.ints.take i) [n] (by rfl) (by rfl) HOA.out HR.out HLN.out HBS.out ?_; intro ao6 n6 cap6 w6 hO6 hn6 hg6 ha6; clear hn6; have HO6 := Lib.hid hO6; have HK6 := Lib.hid (HKA.out.grown hg6 (fun e => by have := (HOW.out X e).1; omega)); have HB6 := Lib.hid (HBA.out.trans (Bo.of (x := X) (bgrown hg6 (fun b hb => (HOW.out b hb).1) HBS.out))); have f6 := HK6.out.free 1; have r6 := HK6.out.cell 1 _ rfl; have l6 := HK6.out.lt; clear hO6 hg6 ha6))
        all_goals
          go_wp2_with fail
          go_roundg g
          case rel => exact ⟨i + 1, _, by omega, by omega, by go_num, Lib.hid (by rw [HSN.out]; exact HO6.out.other (fun b h => h.elim) (Nat.lt_succ_self X) 1 _), Lib.hid (HK6.out.set 1 _), Lib.hid (HB6.out.trans (Bo.set _ _ _ _ _))⟩
          case measure => omega
      · have HALL := Lib.hid (show c.ints.take i = c.ints.take 6 from by
          by_cases h6 : i = 6
          · rw [h6]
          · rw [List.take_of_length_le (by rw [hNI.out]; omega), List.take_of_length_le (by rw [hNI.out]; omega)])
        have hcs : (¬ (i : Int) < (NI : Int)) ∨ ((i : Int) < (NI : Int) ∧ ¬ (i : Int) < 6) := by omega
        rcases hcs with c1 | ⟨c1, c2⟩
        all_goals
          go_wp2_with fail
          go_meet
          exact ⟨vv, Lib.hid (by rw [← HALL.out]; exact HO.out), HKX, HBO⟩
  case rest =>
    obtain ⟨vv, HO, HKX, HBO⟩ := hcut
    clear HO0 
    generalize wc = W2 at HO HKX HBO ⊢
    have HK := Lib.hid (show Bk W2 B0 _ _ from (HBO.out.block B0 (by omega) (by omega)).trans HK0.out)
    have HXR := Lib.hid (show Below w.heap.size w W2 from HXW.out.trans ((HBO.out.mono (show w.heap.size ≤ X + 1 by have := HW.out; omega)).below (by have := HW.out; omega)))
    have lX := HKX.out.lt
    have HOI := HO
    obtain ⟨BT, hBT⟩ : ∃ B, Hid (W2.heap.size = B) := ⟨_, Lib.hid rfl⟩
    have hXT : X + 1 ≤ BT := by have := hBT.out; omega
    have HIW := Lib.hid (fun b hb => HO.out.own (b := b) hb)
    have HKX2 := HKX
    have HXR2 := HXR
    have HK2 := HK
    have HKR2 := Lib.hid (show Bk W2 (B0 + 1) _ _ from (HBO.out.block (B0 + 1) (by omega) (by omega)).trans HKR.out)
    have HO0 := Lib.hid (OwnR.nil (R := TT) W2 BT (fun _ => False))
    have HBO2 := Lib.hid (Bo.refl BT X W2)
    clear HO HBO HKX HK HXR lX
    go_upto_block 2 with fail
    go_cut [5, 6] from 34 to 60 (fun s5 s6 wc => ∃ tt, Hid (OwnF TT wc BT tt ((c.texts.take 6).map (List.take 70))) ∧ Hid (Bk wc X #[.slice none 0 0, vv, tt, .int .i64 LT] 27) ∧ Hid (Bo BT X W2 wc))
    case first =>
      go_wp2_with fail
      go_loopg [5, 6] 6 (fun g iv s6 wr => ∃ (i : Nat) (tt : Value), i + g = 6 ∧ i ≤ NT ∧ iv = .int .i64 (i : Int) ∧ Hid (OwnF TT wr BT tt ((c.texts.take i).map (List.take 70))) ∧ Hid (Bk wr X #[.slice none 0 0, vv, tt, .int .i64 LT] 27) ∧ Hid (Bo BT X W2 wr))
      case atStart => exact ⟨0, _, Nat.zero_add _, Nat.zero_le _, rfl, HO0, HKX2, HBO2⟩
      case round =>
        clear HO0 HBO2 HKX2
        obtain ⟨i2, tt, hi2, hiN2, rfl, HO, HKX, HBO⟩ := hrel
        have HXR := Lib.hid (show Below w.heap.size w wr from HXR2.out.trans ((HBO.out.mono (show w.heap.size ≤ BT by have := HW.out; omega)).below (by have := HW.out; omega)))
        have HK := Lib.hid (show Bk wr B0 _ _ from (HBO.out.block B0 (by omega) (by omega)).trans HK2.out)
        have k0 := HK.out.cell 0 _ rfl
        have k2 := HK.out.cell 2 _ rfl
        have o2 := HKX.out.cell 2 _ rfl
        have lX := HKX.out.lt
        have lT : BT ≤ wr.heap.size := by have := HBO.out.size; have := hBT.out; omega
        by_cases hlt : i2 < NT ∧ i2 < 6
        · obtain ⟨hlt1, hlt2⟩ := hlt
          obtain ⟨g, rfl⟩ : ∃ g, gk = g + 1 := ⟨gk - 1, by omega⟩
          have hne : c.texts ≠ [] := by intro e; have := hNT.out; rw [e] at this; simp at this; omega
          obtain ⟨b, off, cap, hve, _, hblt, hcells⟩ := HH.out.texts.open_ hne
          rw [hNT.out] at hve
          cases hve
          obtain ⟨s, hn⟩ := getElem?_of_lt (l := c.texts) (k := i2) (by rw [hNT.out]; exact hlt1)
          obtain ⟨q, hL, _⟩ := hcells i2 s hn
          have x0 : wr.cell? ⟨b, off + i2, none⟩ = some (.string ⟨s.toArray⟩) := (HXR.out.cell (p := ⟨b, off + i2, none⟩) hblt).trans (by have := hL 0 _ rfl; simpa [TT, Ty.flat] using this)
          have HSN := Lib.hid (show (c.texts.take (i2 + 1)).map (List.take 70) = (c.texts.take i2).map (List.take 70) ++ [s.take 70] from by rw [take_snoc hn, List.map_append]; rfl)
          have hsz : (ByteArray.mk s.toArray).size = s.length := rfl
          have i0 : (0 : Int) ≤ (i2 : Int) := by omega
          have i1 : (i2 : Int) < (NT : Int) := by omega
          have i2' : (i2 : Int) < 6 := by omega
          obtain ⟨SV, hSV⟩ : ∃ SV, Hid (SV = (ByteArray.mk (s.take 70).toArray)) := ⟨_, Lib.hid rfl⟩
          have hext := ext70 s
          rw [← hSV.out] at hext
          have HOA := Lib.hid (HO.out.keep (balloc wr (.cells #[.string SV] 9)))
          have HR := Lib.hid (show RowR TT (wr.alloc (.cells #[.string SV] 9)) (fun b => False ∧ tt.ownBlock ≠ some b) (.slice (some ⟨wr.heap.size, 0, none⟩) 1 1) [s.take 70] from rowR_new (q := []) #[.string SV] 9 (by rw [hSV.out]; rfl) rfl)
          have HLN := Lib.hid (show ((c.texts.take i2).map (List.take 70)).length + [s.take 70].length ≤ 100000000000 by rw [List.length_map, List.length_take]; simp; omega)
          have HBS := Lib.hid (show BT ≤ (wr.alloc (.cells #[.string SV] 9)).heap.size by simp; omega)
          have HOW := Lib.hid (fun b hb => HO.out.own (b := b) hb)
          have HKA := Lib.hid (HKX.out.alloc (.cells #[.string SV] 9))
          have HBA := Lib.hid (HBO.out.trans (Bo.of (B := BT) (x := X) ((balloc wr (.cells #[.string SV] 9)).mono lT)))
          clear hcells hL hn hne
          have h70 : ((s.length : Int) > 70) ∨ (¬ (s.length : Int) > 70 ∧ SV = ⟨s.toArray⟩) := by
            by_cases h : s.length > 70
            · left; omega
            · right
              refine ⟨by omega, ?_⟩
              rw [hSV.out, List.take_of_length_le (by omega)]
          rcases h70 with h70 | ⟨h70, rfl⟩
          all_goals
            go_wp2_with (at_builtin; go_loud (refine wpList_row TT (wr.alloc (.cells #[.string _] 9)) rfl (.tmp 56) (.tmp 58) rfl BT (fun _ => False) tt (.slice (some ⟨wr.heap.size, 0, none⟩) 1 1) ((c.texts.take i2).map (List.take 70)) [s.take 70] rfl rfl HOA.out HR.out HLN.out HBS.out ?_); intro ao6 n6 cap6 w6 hO6 hn6 hg6 ha6; clear hn6; have HO6 := Lib.hid hO6; have HK6 := Lib.hid (HKA.out.grown hg6 (fun e => by have := (HOW.out X e).1; omega)); have HB6 := Lib.hid (HBA.out.trans (Bo.of (x := X) (bgrown hg6 (fun b hb => (HOW.out b hb).1) HBS.out))); have f6 := HK6.out.free 2; have r6 := HK6.out.cell 2 _ rfl; have l6 := HK6.out.lt; clear hO6 hg6 ha6)
            go_roundg g
            case rel => exact ⟨i2 + 1, _, by omega, by omega, by go_num, Lib.hid (by rw [HSN.out]; exact HO6.out.other (fun b h => h.elim) (by omega) 2 _), Lib.hid (HK6.out.set 2 _), Lib.hid (HB6.out.trans (Bo.set _ _ _ _ _))⟩
            case measure => omega
        · have HALL := Lib.hid (show c.texts.take i2 = c.texts.take 6 from by
            by_cases h6 : i2 = 6
            · rw [h6]
            · rw [List.take_of_length_le (by rw [hNT.out]; omega), List.take_of_length_le (by rw [hNT.out]; omega)])
          have hcs2 : (¬ (i2 : Int) < (NT : Int)) ∨ ((i2 : Int) < (NT : Int) ∧ ¬ (i2 : Int) < 6) := by omega
          rcases hcs2 with c3 | ⟨c3, c4⟩
          all_goals
            go_wp2_with fail
            go_meet
            exact ⟨tt, Lib.hid (by rw [← HALL.out]; exact HO.out), HKX, HBO⟩
    case rest =>
      obtain ⟨tt, HOT, HKX, HBO⟩ := hcut
      generalize wc = W3 at HOT HKX HBO ⊢
      have HXR := Lib.hid (show Below w.heap.size w W3 from HXR2.out.trans ((HBO.out.mono (show w.heap.size ≤ BT by have := HW.out; omega)).below (by have := HW.out; omega)))
      have HK := Lib.hid (show Bk W3 B0 _ _ from (HBO.out.block B0 (by omega) (by omega)).trans HK2.out)
      have lX := HKX.out.lt
      have lT : BT ≤ W3.heap.size := by have := HBO.out.size; have := hBT.out; omega
      have HOI3 := Lib.hid (own_bo HOI.out HBO.out (fun b hb => by have := HIW.out b hb; have := hBT.out; omega))
      have HTW := Lib.hid (fun b hb => HOT.out.own (b := b) hb)
      obtain ⟨BF, hBF⟩ : ∃ B, Hid (W3.heap.size = B) := ⟨_, Lib.hid rfl⟩
      have hTF : BT ≤ BF := by rw [← hBF.out]; exact lT
      have HKX3 := HKX
      have HXR3 := HXR
      have HK3 := HK
      have HKR3 := Lib.hid (show Bk W3 (B0 + 1) _ _ from (HBO.out.block (B0 + 1) (by omega) (by omega)).trans HKR2.out)
      have HO0 := Lib.hid (OwnR.nil (R := TF) W3 BF (fun b => BF ≤ b))
      have HBO3 := Lib.hid (Bo.refl BF X W3)

      clear HBO HKX HK HXR lX lT
      go_upto_block 4 with fail
      go_cut [7, 8, 9] from 61 to 125 (fun s7 s8 s9 wc => ∃ ff, Hid (OwnR TF wc BF (fun b => BF ≤ b) ff ((c.funs.take 6).map cutBd)) ∧ Hid (Bk wc X #[ff, vv, tt, .int .i64 LT] 27) ∧ Hid (Bo BF X W3 wc))
      case first =>
        go_wp2_with fail
        go_loopg [7, 8, 9] 6 (fun g iv s8 s9 wr => ∃ (i : Nat) (ff : Value), i + g = 6 ∧ i ≤ NF ∧ iv = .int .i64 (i : Int) ∧ Hid (OwnR TF wr BF (fun b => BF ≤ b) ff ((c.funs.take i).map cutBd)) ∧ Hid (Bk wr X #[ff, vv, tt, .int .i64 LT] 27) ∧ Hid (Bo BF X W3 wr))
        case atStart => exact ⟨0, _, Nat.zero_add _, Nat.zero_le _, rfl, HO0, HKX3, HBO3⟩
        case round =>
          clear HO0 HBO3 HKX3
          obtain ⟨i3, ff, hi3, hiN3, rfl, HO, HKX, HBO⟩ := hrel
          have HXR := Lib.hid (show Below w.heap.size w wr from HXR3.out.trans ((HBO.out.mono (show w.heap.size ≤ BF by have := HW.out; omega)).below (by have := HW.out; omega)))
          have HK := Lib.hid (show Bk wr B0 _ _ from (HBO.out.block B0 (by omega) (by omega)).trans HK3.out)
          have k0 := HK.out.cell 0 _ rfl
          have lX := HKX.out.lt
          have lF : BF ≤ wr.heap.size := by have := HBO.out.size; have := hBF.out; omega
          by_cases hlt : i3 < NF ∧ i3 < 6
          · obtain ⟨hlt1, hlt2⟩ := hlt
            obtain ⟨g, rfl⟩ : ∃ g, gk = g + 1 := ⟨gk - 1, by omega⟩
            have hne : c.funs ≠ [] := by intro e; have := hNF.out; rw [e] at this; simp at this; omega
            obtain ⟨b, off, cap, hve, _, hblt, hcells⟩ := HH.out.funs.open_ hne
            rw [hNF.out] at hve
            cases hve
            obtain ⟨f, hf⟩ := getElem?_of_lt (l := c.funs) (k := i3) (by rw [hNF.out]; exact hlt1)
            obtain ⟨q, hL, hq⟩ := hcells i3 f hf
            obtain ⟨qv, rfl, hrow⟩ := hasBd_row hq
            obtain ⟨co, cc, rfl, hcc⟩ := hrow.val
            have hlc := HLC.out f (List.mem_of_getElem? hf)
            unfold maxLen at hlc
            have HSN := Lib.hid (show (c.funs.take (i3 + 1)).map cutBd = (c.funs.take i3).map cutBd ++ [cutBd f] from by rw [take_snoc hf, List.map_append]; rfl)
            have hM := hL.keep HXR.out hblt
            obtain ⟨ke, lo, st, code⟩ := f
            simp only at hcc hrow hM hlc
            obtain ⟨NC, hNC⟩ : ∃ x, Hid (code.length = x) := ⟨_, Lib.hid rfl⟩
            rw [hNC.out] at hcc hM hlc hrow
            have x0 : wr.cell? ⟨b, off + i3 * 4, none⟩ = some (.int .i64 ke) := hM 0 _ rfl
            have x1 : wr.cell? ⟨b, off + i3 * 4 + 1, none⟩ = some (.int .i64 lo) := hM 1 _ rfl
            have x2 : wr.cell? ⟨b, off + i3 * 4 + 2, none⟩ = some (.int .i64 st) := hM 2 _ rfl
            have HX3c := Lib.hid (show wr.cell? ⟨b, off + i3 * 4 + 3, none⟩ = some (.slice co NC cc) from hM 3 _ rfl)
            have HROW := Lib.hid hrow
            have i0 : (0 : Int) ≤ (i3 : Int) := by omega
            have i1 : (i3 : Int) < (NF : Int) := by omega
            have i2' : (i3 : Int) < 6 := by omega
            obtain ⟨P, hP⟩ : ∃ P, Hid (wr.heap.size = P) := ⟨_, Lib.hid rfl⟩
            have HBK := Lib.hid (show Bk (wr.alloc (.cells #[.int .i64 ke, .int .i64 lo, .int .i64 st, .slice none 0 0] 49)).drew P #[.int .i64 ke, .int .i64 lo, .int .i64 st, .slice none 0 0] 49 from by rw [← hP.out]; exact (Bk.new wr _ _).drew)
            have HBW := Lib.hid (show Below P wr (wr.alloc (.cells #[.int .i64 ke, .int .i64 lo, .int .i64 st, .slice none 0 0] 49)).drew from by rw [← hP.out]; exact bnext (balloc wr (.cells #[.int .i64 ke, .int .i64 lo, .int .i64 st, .slice none 0 0] 49)) (bdr _))
            have hPz : (wr.alloc (.cells #[.int .i64 ke, .int .i64 lo, .int .i64 st, .slice none 0 0] 49)).drew.heap.size = P + 1 := by simp [hP.out]
            have HFW := Lib.hid (fun b hb => HO.out.own (b := b) hb)
            have lBz := HK.out.lt
            have lbz : b < wr.heap.size := Nat.lt_of_lt_of_le hblt HXR.out.size
            clear hcells hL hM hf hne hq hrow
            go_upto_region 16 with fail
            go_region_held3 (fun w' => w'.cell? ⟨B0, 0, none⟩ = some (.slice (some ⟨b, off, none⟩) NF fc) ∧ w'.cell? ⟨b, off + i3 * 4, none⟩ = some (.int .i64 ke) ∧ w'.cell? ⟨b, off + i3 * 4 + 1, none⟩ = some (.int .i64 lo) ∧ w'.cell? ⟨b, off + i3 * 4 + 2, none⟩ = some (.int .i64 st)) (go_keep) (fail)
            go_upto_block 6 with fail
            rw [hP.out]
            have hPF : BF ≤ P := by rw [← hP.out]; exact lF
            have HPZ := Lib.hid hPz
            have HO0 := Lib.hid (OwnR.nil (R := TN) (wr.alloc (.cells #[.int .i64 ke, .int .i64 lo, .int .i64 st, .slice none 0 0] 49)).drew (P + 1) (fun _ => False))
            have HBC := Lib.hid (Bo.refl (P + 1) P (wr.alloc (.cells #[.int .i64 ke, .int .i64 lo, .int .i64 st, .slice none 0 0] 49)).drew)
            clear x0 x1 x2 k0 hPz
            generalize World.drew (World.alloc wr _) = W4 at HBK HBW HPZ HO0 HBC ⊢
            have HKB := HBK
            obtain ⟨w0, hw0⟩ : ∃ w0, w0 = wr := ⟨_, rfl⟩
            rw [← hw0] at HBW HO HXR HK HKX HBO hP lX lF HX3c
            clear hw0
            go_cut [9] from 61 to 125 (fun s9 wc => ∃ cv, Hid (OwnF TN wc (P + 1) cv (code.take 60)) ∧ Hid (Bk wc P #[.int .i64 ke, .int .i64 lo, .int .i64 st, cv] 49) ∧ Hid (Bo (P + 1) P W4 wc))
            case first =>
              go_wp2_with fail
              go_loopg [9] 60 (fun g jv wq => ∃ (j : Nat) (cv : Value), j + g = 60 ∧ j ≤ NC ∧ jv = .int .i64 (j : Int) ∧ Hid (OwnF TN wq (P + 1) cv (code.take j)) ∧ Hid (Bk wq P #[.int .i64 ke, .int .i64 lo, .int .i64 st, cv] 49) ∧ Hid (Bo (P + 1) P W4 wq))
              case atStart => exact ⟨0, _, Nat.zero_add _, Nat.zero_le _, rfl, HO0, HKB, HBC⟩
              case round =>
                clear HO0 HBC HKB
                obtain ⟨j, cv, hj, hjN, rfl, HOC, HKB, HBC⟩ := hrel
                rename_i wq0 _
                have HPW := Lib.hid (show Below P w0 wr from HBW.out.trans ((HBC.out.mono (Nat.le_succ P)).below (Nat.le_refl P)))
                have HXQ := Lib.hid (HXR.out.trans (HPW.out.mono (by have := HW.out; omega)))
                have HKQ := Lib.hid (show Bk wr B0 _ _ from (HPW.out.block B0 (by omega)).trans HK.out)
                have k0 := HKQ.out.cell 0 _ rfl
                obtain ⟨ca, ccp, ecv, _⟩ := HOC.out.val
                obtain ⟨LJ, hLJ⟩ : ∃ x, Hid ((code.take j).length = x) := ⟨_, Lib.hid rfl⟩
                rw [hLJ.out] at ecv
                subst ecv
                have lP := HKB.out.lt
                have p3 := HKB.out.cell 3 _ rfl
                have hbP : b < P := by have := HXR.out.size; have := hP.out; omega
                have x3 := (HPW.out.cell (p := ⟨b, off + i3 * 4 + 3, none⟩) hbP).trans HX3c.out
                have lB := HKQ.out.lt
                have lb : b < wr.heap.size := by omega
                by_cases hlt : j < NC ∧ j < 60
                · obtain ⟨hlt1, hlt2⟩ := hlt
                  obtain ⟨g4, rfl⟩ : ∃ g, gk = g + 1 := ⟨gk - 1, by omega⟩
                  have hne : code ≠ [] := by intro e; have := hNC.out; rw [e] at this; simp at this; omega
                  have hro := HROW.out
                  rw [← hNC.out] at hro
                  obtain ⟨b5, off5, cap5, hve, _, hblt5, hcells⟩ := hro.open_ hne
                  cases hve
                  obtain ⟨ins, hi⟩ := getElem?_of_lt (l := code) (k := j) (by rw [hNC.out]; exact hlt1)
                  obtain ⟨q, hL, _⟩ := hcells j ins hi
                  have hL2 := hL.keep HXQ.out hblt5
                  have HSJ := Lib.hid (take_snoc hi)
                  obtain ⟨op, ia, ib⟩ := ins
                  have y0 : wr.cell? ⟨b5, off5 + j * 3, none⟩ = some (.int .i64 op) := hL2 0 _ rfl
                  have y1 : wr.cell? ⟨b5, off5 + j * 3 + 1, none⟩ = some (.int .i64 ia) := hL2 1 _ rfl
                  have y2 : wr.cell? ⟨b5, off5 + j * 3 + 2, none⟩ = some (.int .i64 ib) := hL2 2 _ rfl
                  have lb5 : b5 < wr.heap.size := Nat.lt_of_lt_of_le hblt5 HXQ.out.size
                  have j0 : (0 : Int) ≤ (j : Int) := by omega
                  have j1 : (j : Int) < (code.length : Int) := by rw [hNC.out]; omega
                  have j2 : (j : Int) < 60 := by omega
                  have HOA := Lib.hid ((HOC.out.keep (bdr wr)).keep (balloc wr.drew (.cells #[.int .i64 op, .int .i64 ia, .int .i64 ib] 45)))
                  have HR := Lib.hid (show RowR TN (wr.drew.alloc (.cells #[.int .i64 op, .int .i64 ia, .int .i64 ib] 45)) (fun b => False ∧ (Value.slice ca LJ ccp).ownBlock ≠ some b) (.slice (some ⟨wr.drew.heap.size, 0, none⟩) 1 1) [⟨op, ia, ib⟩] from rowR_new (q := []) #[.int .i64 op, .int .i64 ia, .int .i64 ib] 45 rfl rfl)
                  have HLN := Lib.hid (show (code.take j).length + [(⟨op, ia, ib⟩ : In)].length ≤ 100000000000 by rw [List.length_take]; simp; omega)
                  have HBS := Lib.hid (show P + 1 ≤ (wr.drew.alloc (.cells #[.int .i64 op, .int .i64 ia, .int .i64 ib] 45)).heap.size by simp; omega)
                  have HOW := Lib.hid (fun b hb => HOC.out.own (b := b) hb)
                  have HKA := Lib.hid (HKB.out.drew.alloc (.cells #[.int .i64 op, .int .i64 ia, .int .i64 ib] 45))
                  have HBA := Lib.hid (HBC.out.trans (Bo.of (B := P + 1) (x := P) (((bdr wr).trans (balloc wr.drew (.cells #[.int .i64 op, .int .i64 ia, .int .i64 ib] 45))).mono lP)))
                  clear hcells hL hL2 hi hne hro
                  go_wp2_with fail
                  go_region_law (first | (refine step_row TN (wr.drew.alloc (.cells #[.int .i64 op, .int .i64 ia, .int .i64 ib] 45)) rfl (.tmp 107) (.tmp 117) rfl (P + 1) (fun _ => False) (.slice ca LJ ccp) (.slice (some ⟨wr.drew.heap.size, 0, none⟩) 1 1) (code.take j) [⟨op, ia, ib⟩] (by rfl) (by rfl) HOA.out HR.out HLN.out HBS.out ?_; intro ao6 n6 cap6 w6 hO6 hn6 hg6 ha6; clear hn6; have HO6 := Lib.hid hO6; have HK6 := Lib.hid (HKA.out.grown hg6 (fun e => by have := (HOW.out P e).1; omega)); have HB6 := Lib.hid (HBA.out.trans (Bo.of (x := P) (bgrown hg6 (fun b hb => (HOW.out b hb).1) HBS.out))); have f6 := HK6.out.free 3; have r6 := HK6.out.cell 3 _ rfl; have l6 := HK6.out.lt; clear hO6 hg6 ha6))
                  all_goals
                    go_wp2_with fail
                    go_roundg g4
                    case rel => exact ⟨j + 1, _, by omega, by omega, by go_num, Lib.hid (by rw [HSJ.out]; exact HO6.out.other (fun b h => h.elim) (Nat.lt_succ_self P) 3 _), Lib.hid (HK6.out.set 3 _), Lib.hid (HB6.out.trans (Bo.set _ _ _ _ _))⟩
                    case measure => omega
                · have HALJ := Lib.hid (show code.take j = code.take 60 from by
                    by_cases h6 : j = 60
                    · rw [h6]
                    · rw [List.take_of_length_le (by rw [hNC.out]; omega), List.take_of_length_le (by rw [hNC.out]; omega)])
                  have hcs3 : (¬ (j : Int) < (NC : Int)) ∨ ((j : Int) < (NC : Int) ∧ ¬ (j : Int) < 60) := by omega
                  rcases hcs3 with c5 | ⟨c5, c6⟩
                  all_goals
                    go_wp2_with fail
                    go_meet
                    exact ⟨_, Lib.hid (by rw [← HALJ.out]; exact HOC.out), HKB, HBC⟩
            case rest =>
              obtain ⟨cv, HOC, HKB, HBC⟩ := hcut
              generalize wc = wr at HOC HKB HBC ⊢
              have HPW := Lib.hid (show Below P w0 wr from HBW.out.trans ((HBC.out.mono (Nat.le_succ P)).below (Nat.le_refl P)))
              have HXQ := Lib.hid (HXR.out.trans (HPW.out.mono (by have := HW.out; omega)))
              obtain ⟨ca, ccp, ecv, _⟩ := HOC.out.val
              obtain ⟨LJ, hLJ⟩ : ∃ x, Hid ((code.take 60).length = x) := ⟨_, Lib.hid rfl⟩
              rw [hLJ.out] at ecv
              subst ecv
              have lP := HKB.out.lt
              have p3 := HKB.out.cell 3 _ rfl
              have hXF : X < BF := by omega
              have HKXQ := Lib.hid (show Bk wr X #[ff, vv, tt, .int .i64 LT] 27 from (HPW.out.block X (by omega)).trans HKX.out)
              have HOQ := Lib.hid (HO.out.keep (show Below w0.heap.size w0 wr by rw [hP.out]; exact HPW.out))
              have HOFA := Lib.hid (HOQ.out.keep (balloc wr (.cells #[.int .i64 ke, .int .i64 lo, .int .i64 st, .slice ca LJ ccp] 49)))
              have HFQ := Lib.hid (fun b hb => HO.out.own (b := b) hb)
              have HRF := Lib.hid (show RowR TF (wr.alloc (.cells #[.int .i64 ke, .int .i64 lo, .int .i64 st, .slice ca LJ ccp] 49)) (fun b => BF ≤ b ∧ ff.ownBlock ≠ some b) (.slice (some ⟨wr.heap.size, 0, none⟩) 1 1) [cutBd ⟨ke, lo, st, code⟩] from by
                refine rowR_new (q := [.slice ca LJ ccp]) #[.int .i64 ke, .int .i64 lo, .int .i64 st, .slice ca LJ ccp] 49 rfl ?_
                obtain ⟨qs, h1, h2⟩ := HOC.out.rw
                exact ⟨_, qs, rfl, h1.mv (Mv.weak _ fun b h _ => ⟨by omega, fun e => by have := (HFQ.out b e).2; have := hP.out; omega⟩), Hs.mv (Mv.weak _ fun b h _ => h.elim) _ _ h2⟩)
              have HLNF := Lib.hid (show ((c.funs.take i3).map cutBd).length + [cutBd ⟨ke, lo, st, code⟩].length ≤ 100000000000 by rw [List.length_map, List.length_take]; simp; omega)
              have HBSF := Lib.hid (show BF ≤ (wr.alloc (.cells #[.int .i64 ke, .int .i64 lo, .int .i64 st, .slice ca LJ ccp] 49)).heap.size by simp; omega)
              have HKAF := Lib.hid (HKXQ.out.alloc (.cells #[.int .i64 ke, .int .i64 lo, .int .i64 st, .slice ca LJ ccp] 49))
              have HBAF := Lib.hid (HBO.out.trans (Bo.of (B := BF) (x := X) ((HPW.out.mono hPF).trans ((balloc wr (.cells #[.int .i64 ke, .int .i64 lo, .int .i64 st, .slice ca LJ ccp] 49)).mono (by omega)))))
              have q0 := HKXQ.out.cell 0 _ rfl
              have c0 := HKB.out.cell 0 _ rfl
              have c1' := HKB.out.cell 1 _ rfl
              have c2' := HKB.out.cell 2 _ rfl
              go_wp2_with (at_builtin; go_loud (refine wpList_row TF (wr.alloc (.cells #[.int .i64 ke, .int .i64 lo, .int .i64 st, .slice ca LJ ccp] 49)) rfl (.tmp 121) (.tmp 123) rfl BF (fun b => BF ≤ b) ff (.slice (some ⟨wr.heap.size, 0, none⟩) 1 1) ((c.funs.take i3).map cutBd) [cutBd ⟨ke, lo, st, code⟩] rfl rfl HOFA.out HRF.out HLNF.out HBSF.out ?_); intro ao6 n6 cap6 w6 hO6 hn6 hg6 ha6; clear hn6; have HO6 := Lib.hid hO6; have HK6 := Lib.hid (HKAF.out.grown hg6 (fun e => by have := (HFQ.out X e).1; omega)); have HB6 := Lib.hid (HBAF.out.trans (Bo.of (x := X) (bgrown hg6 (fun b hb => (HFQ.out b hb).1) HBSF.out))); have f6 := HK6.out.free 0; have r6 := HK6.out.cell 0 _ rfl; have l6 := HK6.out.lt; clear hO6 hg6 ha6)
              go_roundg g
              case rel => exact ⟨i3 + 1, _, by omega, by omega, by go_num, Lib.hid (by rw [HSN.out]; exact HO6.out.other (fun b h => by have h : BF ≤ b := h; omega) hXF 0 _), Lib.hid (HK6.out.set 0 _), Lib.hid (HB6.out.trans (Bo.set _ _ _ _ _))⟩
              case measure => omega
          · have HALF := Lib.hid (show c.funs.take i3 = c.funs.take 6 from by
              by_cases h6 : i3 = 6
              · rw [h6]
              · rw [List.take_of_length_le (by rw [hNF.out]; omega), List.take_of_length_le (by rw [hNF.out]; omega)])
            have hcs4 : (¬ (i3 : Int) < (NF : Int)) ∨ ((i3 : Int) < (NF : Int) ∧ ¬ (i3 : Int) < 6) := by omega
            rcases hcs4 with d1 | ⟨d1, d2⟩
            all_goals
              go_wp2_with fail
              go_meet
              exact ⟨ff, Lib.hid (by rw [← HALF.out]; exact HO.out), HKX, HBO⟩
      case rest =>
        obtain ⟨ff, HO, HKX, HBO⟩ := hcut
        generalize wc = wr at HO HKX HBO ⊢
        have HXR := Lib.hid (show Below w.heap.size w wr from HXR3.out.trans ((HBO.out.mono (show w.heap.size ≤ BF by have := HW.out; omega)).below (by have := HW.out; omega)))
        have HKRF := Lib.hid (show Bk wr (B0 + 1) #[.slice none 0 0, .slice none 0 0, .slice none 0 0, .int .i64 0] 27 from (HBO.out.block (B0 + 1) (by omega) (by omega)).trans HKR3.out)
        have HOIF := Lib.hid (own_bo HOI3.out HBO.out (fun b hb => by have := HIW.out b hb; have := hBT.out; omega))
        have HOTF := Lib.hid (own_bo HOT.out HBO.out (fun b hb => by have := HTW.out b hb; have := hBF.out; omega))
        have HF4 := Lib.hid (show OwnR TF ((((wr.setCell ⟨B0 + 1, 0, none⟩ ff).setCell ⟨B0 + 1, 1, none⟩ vv).setCell ⟨B0 + 1, 2, none⟩ tt).setCell ⟨B0 + 1, 3, none⟩ (.int .i64 LT)) BF (fun b => BF ≤ b) ff ((c.funs.take 6).map cutBd) from (((HO.out.other (fun b h => by have h : BF ≤ b := h; omega) (by omega) 0 ff).other (fun b h => by have h : BF ≤ b := h; omega) (by omega) 1 vv).other (fun b h => by have h : BF ≤ b := h; omega) (by omega) 2 tt).other (fun b h => by have h : BF ≤ b := h; omega) (by omega) 3 _)
        have HI4 := Lib.hid (show OwnF TI ((((wr.setCell ⟨B0 + 1, 0, none⟩ ff).setCell ⟨B0 + 1, 1, none⟩ vv).setCell ⟨B0 + 1, 2, none⟩ tt).setCell ⟨B0 + 1, 3, none⟩ (.int .i64 LT)) (X + 1) vv (c.ints.take 6) from (((HOIF.out.other (fun b h => h.elim) (by omega) 0 ff).other (fun b h => h.elim) (by omega) 1 vv).other (fun b h => h.elim) (by omega) 2 tt).other (fun b h => h.elim) (by omega) 3 _)
        have HT4 := Lib.hid (show OwnF TT ((((wr.setCell ⟨B0 + 1, 0, none⟩ ff).setCell ⟨B0 + 1, 1, none⟩ vv).setCell ⟨B0 + 1, 2, none⟩ tt).setCell ⟨B0 + 1, 3, none⟩ (.int .i64 LT)) BT tt ((c.texts.take 6).map (List.take 70)) from (((HOTF.out.other (fun b h => h.elim) (by omega) 0 ff).other (fun b h => h.elim) (by omega) 1 vv).other (fun b h => h.elim) (by omega) 2 tt).other (fun b h => h.elim) (by omega) 3 _)
        have HK4 := Lib.hid (show Bk ((((wr.setCell ⟨B0 + 1, 0, none⟩ ff).setCell ⟨B0 + 1, 1, none⟩ vv).setCell ⟨B0 + 1, 2, none⟩ tt).setCell ⟨B0 + 1, 3, none⟩ (.int .i64 LT)) (B0 + 1) #[ff, vv, tt, .int .i64 LT] 27 from ((((HKRF.out.set 0 ff).set 1 vv).set 2 tt).set 3 (.int .i64 LT)))
        have HB4 := Lib.hid (show Below w.heap.size w ((((wr.setCell ⟨B0 + 1, 0, none⟩ ff).setCell ⟨B0 + 1, 1, none⟩ vv).setCell ⟨B0 + 1, 2, none⟩ tt).setCell ⟨B0 + 1, 3, none⟩ (.int .i64 LT)) from (((HXR.out.setCell (p := ⟨B0 + 1, 0, none⟩) (by have := HW.out; show w.heap.size ≤ B0 + 1; omega) _).setCell (p := ⟨B0 + 1, 1, none⟩) (by have := HW.out; show w.heap.size ≤ B0 + 1; omega) _).setCell (p := ⟨B0 + 1, 2, none⟩) (by have := HW.out; show w.heap.size ≤ B0 + 1; omega) _).setCell (p := ⟨B0 + 1, 3, none⟩) (by have := HW.out; show w.heap.size ≤ B0 + 1; omega) _)
        have HRES := Lib.hid (show HasO ((((wr.setCell ⟨B0 + 1, 0, none⟩ ff).setCell ⟨B0 + 1, 1, none⟩ vv).setCell ⟨B0 + 1, 2, none⟩ tt).setCell ⟨B0 + 1, 3, none⟩ (.int .i64 LT)) w.heap.size (cutCd c) ff vv tt from ⟨ownR_low HF4.out (by have := HW.out; omega) (fun b hb => by have hb : BF ≤ b := hb; have := HW.out; omega), ownR_low HI4.out (by have := HW.out; omega) (fun _ h => h), ownR_low HT4.out (by have := HW.out; omega) (fun _ h => h)⟩)
        obtain ⟨fa, fca, ef, _⟩ := HO.out.val
        obtain ⟨va, vca, ev, _⟩ := HOIF.out.val
        obtain ⟨ta, tca, et, _⟩ := HOTF.out.val
        obtain ⟨L1, hL1⟩ : ∃ x, Hid (((c.funs.take 6).map cutBd).length = x) := ⟨_, Lib.hid rfl⟩
        obtain ⟨L2, hL2⟩ : ∃ x, Hid ((c.ints.take 6).length = x) := ⟨_, Lib.hid rfl⟩
        obtain ⟨L3, hL3⟩ : ∃ x, Hid (((c.texts.take 6).map (List.take 70)).length = x) := ⟨_, Lib.hid rfl⟩
        rw [hL1.out] at ef
        rw [hL2.out] at ev
        rw [hL3.out] at et
        have o0 := HKX.out.cell 0 _ rfl
        have o1 := HKX.out.cell 1 _ rfl
        have o2 := HKX.out.cell 2 _ rfl
        have o3 := HKX.out.cell 3 _ rfl
        have f0 := HKRF.out.free 0
        have f1 := HKRF.out.free 1
        have f2 := HKRF.out.free 2
        have f3 := HKRF.out.free 3
        have n0 := HKRF.out.cell 0 _ rfl
        have n1 := HKRF.out.cell 1 _ rfl
        have n2 := HKRF.out.cell 2 _ rfl
        have n3 := HKRF.out.cell 3 _ rfl
        have lR := HKRF.out.lt
        have z0 := HK4.out.cell 0 _ rfl
        have z1 := HK4.out.cell 1 _ rfl
        have z2 := HK4.out.cell 2 _ rfl
        have z3 := HK4.out.cell 3 _ rfl
        have HZ := Lib.hid (And.intro z0 (And.intro z1 (And.intro z2 z3)))
        clear z0 z1 z2 z3 HO HOIF HOTF HF4 HI4 HT4 HK4 HKRF
        subst ef
        subst ev
        subst et
        go_wp2_with fail
        obtain ⟨z0, z1, z2, z3⟩ := HZ.out
        exact bodyPost_ret (v := .agg #[_, _, _, .int .i64 LT]) (by simp [results, Try.results14, go_sem, z0, z1, z2, z3]) rfl ⟨_, _, _, rfl, HRES.out, HB4.out⟩