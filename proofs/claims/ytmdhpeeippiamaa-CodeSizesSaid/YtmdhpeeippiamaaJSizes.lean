/- CodeSizes: the walk. -/
import Derived.Test.YtmdhpeeippiamaaKH
import Derived.Test.YtmdhpeeippiamaaPS
import Derived.Deep.CutRange
namespace Go.Proofs.Ytmdhpeeippiamaa.codeSizes
open Go.RowKit Go.Proofs.Ytmdhpeeippiamaa.RG Go.Proofs.Ytmdhpeeippiamaa.KA Go.Proofs.Ytmdhpeeippiamaa.KB Go.Proofs.Ytmdhpeeippiamaa.KC Go.Proofs.Ytmdhpeeippiamaa.KH Go.Proofs.Ytmdhpeeippiamaa.PA Go.Proofs.Ytmdhpeeippiamaa.PC Go.Proofs.Ytmdhpeeippiamaa.PE Go.Proofs.Ytmdhpeeippiamaa.PL Go.Proofs.Ytmdhpeeippiamaa.PS
set_option linter.unusedVariables false
set_option maxRecDepth 100000

def intsS (k : Nat) : List Int := (List.range k).map fun j : Nat => (j : Int)
def bdS (n : Nat) : Bd := ⟨0, 0, 1, List.replicate n ⟨9, 0, 0⟩⟩
def cdS (f k t n : Nat) : Cd := ⟨List.replicate f (bdS n), intsS k, List.replicate t [], 0⟩
theorem intsS_len (k : Nat) : (intsS k).length = k := by simp [intsS]
theorem intsS_snoc (k : Nat) : intsS (k + 1) = intsS k ++ [(k : Int)] := by simp [intsS, List.range_succ]
theorem rep_snoc {α : Type} (k : Nat) (x : α) : List.replicate (k + 1) x = List.replicate k x ++ [x] := List.replicate_succ'
theorem may_sizes (f k t n : Nat) (hk : k ≤ 130) : mayB (cdS f k t n) = (decide (1 ≤ f) && decide (f ≤ 120) && decide (k ≤ 120) && decide (t ≤ 120) && decide (1 ≤ n) && decide (n ≤ 400)) := by
  have hi : (intsS k).all intOk = true := by
    rw [List.all_eq_true]
    intro x hx
    obtain ⟨j, hj, rfl⟩ := List.mem_map.1 hx
    have := List.mem_range.1 hj
    simp [intOk]; omega
  have ht : (List.replicate t ([] : By)).all textOk = true := by
    rw [List.all_eq_true]
    intro x hx
    rw [(List.mem_replicate.1 hx).2]; rfl
  have hn : (List.replicate n (⟨9, 0, 0⟩ : In)).all insOk = true := by
    rw [List.all_eq_true]
    intro x hx
    rw [(List.mem_replicate.1 hx).2]; rfl
  have hb : bodyOk (bdS n) = (decide (1 ≤ n) && decide (n ≤ 400)) := by
    unfold bodyOk bdS
    simp only [hn, List.length_replicate]
    simp
  unfold mayB headOk cdS
  simp only [hi, ht, List.length_replicate, intsS_len]
  by_cases hf : f = 0
  · subst hf; simp
  · rw [List.all_replicate, hb, if_neg hf]
    have h1 : decide (1 ≤ f) = true := decide_eq_true (by omega)
    rw [h1]
    simp [Bool.and_assoc]
set_option maxHeartbeats 16000000 in
theorem walk (a0 a1 a2 a3 : Int) (p0 : -9223372036854775808 ≤ a0 ∧ a0 ≤ 9223372036854775807) (p1 : -9223372036854775808 ≤ a1 ∧ a1 ≤ 9223372036854775807) (p2 : -9223372036854775808 ≤ a2 ∧ a2 ≤ 9223372036854775807) (p3 : -9223372036854775808 ≤ a3 ∧ a3 ≤ 9223372036854775807) (w : World) :
    Calls Try.prog 7 #[.int .i64 a0, .int .i64 a1, .int .i64 a2, .int .i64 a3] w fun e w' => e = .returned (.bool true) ∧ Below w.heap.size w w' := by
  have S0 := Lib.hid (size130_c a0 p0.1 p0.2)
  have S1 := Lib.hid (size130_c a1 p1.1 p1.2)
  have S2 := Lib.hid (size130_c a2 p2.1 p2.2)
  have S3 := Lib.hid (size450_c a3 p3.1 p3.2)
  have L1 := Lib.hid (fun w => lives_c w)
  obtain ⟨X, hX⟩ : ∃ X, Hid (w.heap.size = X) := ⟨_, Lib.hid rfl⟩
  go_enter Try.func7, Try.ntmps7
  go_wp2_with fail
  refine (S0.out _).mono ?_
  rintro e w1 ⟨F, hF, rfl, he⟩
  obtain rfl := he.symm
  clear S0
  go_wp2_with fail
  refine (S1.out _).mono ?_
  rintro e w1 ⟨K, hK, rfl, he⟩
  obtain rfl := he.symm
  clear S1
  go_wp2_with fail
  refine (S2.out _).mono ?_
  rintro e w1 ⟨T, hT, rfl, he⟩
  obtain rfl := he.symm
  clear S2
  go_wp2_with fail
  refine (S3.out _).mono ?_
  rintro e w1 ⟨N, hN, rfl, he⟩
  obtain rfl := he.symm
  clear S3 p0 p1 p2 p3
  have HKX := Lib.hid (new_at w #[.slice none 0 0, .slice none 0 0, .slice none 0 0, .int .i64 0] 26 hX.out)
  have HXW := Lib.hid (balloc w (.cells #[.slice none 0 0, .slice none 0 0, .slice none 0 0, .int .i64 0] 26))
  go_wp2_with fail
  rw [hX.out]
  generalize w.alloc _ = W at HKX HXW ⊢
  have HO0 := Lib.hid (OwnR.nil (R := TI) W (X + 1) (fun _ => False))
  have HBO := Lib.hid (Bo.refl (X + 1) X W)
  go_loopg [14] K (fun g iv wr => ∃ (i : Nat) (vv : Value), i + g = K ∧ iv = .int .i64 (i : Int) ∧ Hid (OwnF TI wr (X + 1) vv (intsS i)) ∧ Hid (Bk wr X #[.slice none 0 0, vv, .slice none 0 0, .int .i64 0] 26) ∧ Hid (Bo (X + 1) X W wr))
  case atStart => exact ⟨0, _, Nat.zero_add _, rfl, HO0, HKX, HBO⟩
  case round =>
    clear HO0 HBO HKX
    obtain ⟨i, vv, hi, rfl, HO, HKX, HBO⟩ := hrel
    have HXR := Lib.hid (show Below w.heap.size w wr from HXW.out.trans ((HBO.out.mono (show w.heap.size ≤ X + 1 by have := hX.out; omega)).below (by have := hX.out; omega)))
    have o1 := HKX.out.cell 1 _ rfl
    have lX := HKX.out.lt
    by_cases hlt : i < K
    · obtain ⟨g, rfl⟩ : ∃ g, gk = g + 1 := ⟨gk - 1, by omega⟩
      have i0 : (0 : Int) ≤ (i : Int) := by omega
      have HOA := Lib.hid (HO.out.keep (balloc wr (.cells #[.int .i64 (i : Int)] 3)))
      have HR := Lib.hid (show RowR TI (wr.alloc (.cells #[.int .i64 (i : Int)] 3)) (fun b => False ∧ vv.ownBlock ≠ some b) (.slice (some ⟨wr.heap.size, 0, none⟩) 1 1) [(i : Int)] from rowR_new (q := []) #[.int .i64 (i : Int)] 3 rfl rfl)
      have HLN := Lib.hid (show (intsS i).length + [(i : Int)].length ≤ 100000000000 by rw [intsS_len]; simp; omega)
      have HBS := Lib.hid (show X + 1 ≤ (wr.alloc (.cells #[.int .i64 (i : Int)] 3)).heap.size by simp; omega)
      have HOW := Lib.hid (fun b hb => HO.out.own (b := b) hb)
      have HKA := Lib.hid (HKX.out.alloc (.cells #[.int .i64 (i : Int)] 3))
      have HBA := Lib.hid (HBO.out.trans (Bo.of (B := X + 1) (x := X) ((balloc wr (.cells #[.int .i64 (i : Int)] 3)).mono lX)))
      go_wp2_with (at_builtin; go_loud (refine wpList_row TI (wr.alloc (.cells #[.int .i64 (i : Int)] 3)) rfl (.tmp 35) (.tmp 37) rfl (X + 1) (fun _ => False) vv (.slice (some ⟨wr.heap.size, 0, none⟩) 1 1) (intsS i) [(i : Int)] rfl rfl HOA.out HR.out HLN.out HBS.out ?_); intro ao6 n6 cap6 w6 hO6 hn6 hg6 ha6; clear hn6; have HO6 := Lib.hid hO6; have HK6 := Lib.hid (HKA.out.grown hg6 (fun e => by have := (HOW.out X e).1; omega)); have HB6 := Lib.hid (HBA.out.trans (Bo.of (x := X) (bgrown hg6 (fun b hb => (HOW.out b hb).1) HBS.out))); have f6 := HK6.out.free 1; have r6 := HK6.out.cell 1 _ rfl; have l6 := HK6.out.lt; clear hO6 hg6 ha6)
      go_roundg g
      case rel => exact ⟨i + 1, _, by omega, by go_num, Lib.hid (by rw [intsS_snoc]; exact HO6.out.other (fun b h => h.elim) (Nat.lt_succ_self X) 1 _), Lib.hid (HK6.out.set 1 _), Lib.hid (HB6.out.trans (Bo.set _ _ _ _ _))⟩
      case measure => omega
    · have hiK : i = K := by omega
      subst hiK
      go_wp2_with fail
      have HOI := HO
      obtain ⟨BT, hBT⟩ : ∃ B, Hid (wr.heap.size = B) := ⟨_, Lib.hid rfl⟩
      have hXT : X + 1 ≤ BT := by have := hBT.out; omega
      have HIW := Lib.hid (fun b hb => HO.out.own (b := b) hb)
      have HKX2 := HKX
      have HXR2 := HXR
      have HO0 := Lib.hid (OwnR.nil (R := TT) wr BT (fun _ => False))
      have HBO2 := Lib.hid (Bo.refl BT X wr)
      clear HO HBO HKX HXR o1 lX
      generalize wr = W2 at HOI hBT HIW HKX2 HXR2 HO0 HBO2 ⊢
      go_loopg [15] T (fun g iv wr => ∃ (i2 : Nat) (tt : Value), i2 + g = T ∧ iv = .int .i64 (i2 : Int) ∧ Hid (OwnF TT wr BT tt (List.replicate i2 [])) ∧ Hid (Bk wr X #[.slice none 0 0, vv, tt, .int .i64 0] 26) ∧ Hid (Bo BT X W2 wr))
      case atStart => exact ⟨0, _, Nat.zero_add _, rfl, HO0, HKX2, HBO2⟩
      case round =>
        clear HO0 HBO2 HKX2
        obtain ⟨i2, tt, hi2, rfl, HO, HKX, HBO⟩ := hrel
        have HXR := Lib.hid (show Below w.heap.size w wr from HXR2.out.trans ((HBO.out.mono (show w.heap.size ≤ BT by have := hX.out; omega)).below (by have := hX.out; omega)))
        have o2 := HKX.out.cell 2 _ rfl
        have lX := HKX.out.lt
        have lT : BT ≤ wr.heap.size := by have := HBO.out.size; have := hBT.out; omega
        by_cases hlt : i2 < T
        · obtain ⟨g, rfl⟩ : ∃ g, gk = g + 1 := ⟨gk - 1, by omega⟩
          have i0 : (0 : Int) ≤ (i2 : Int) := by omega
          have HOA := Lib.hid (HO.out.keep (balloc wr (.cells #[.string ⟨#[]⟩] 9)))
          have HR := Lib.hid (show RowR TT (wr.alloc (.cells #[.string ⟨#[]⟩] 9)) (fun b => False ∧ tt.ownBlock ≠ some b) (.slice (some ⟨wr.heap.size, 0, none⟩) 1 1) [[]] from rowR_new (q := []) #[.string ⟨#[]⟩] 9 rfl rfl)
          have HLN := Lib.hid (show (List.replicate i2 ([] : By)).length + ([[]] : List By).length ≤ 100000000000 by rw [List.length_replicate]; simp; omega)
          have HBS := Lib.hid (show BT ≤ (wr.alloc (.cells #[.string ⟨#[]⟩] 9)).heap.size by simp; omega)
          have HOW := Lib.hid (fun b hb => HO.out.own (b := b) hb)
          have HKA := Lib.hid (HKX.out.alloc (.cells #[.string ⟨#[]⟩] 9))
          have HBA := Lib.hid (HBO.out.trans (Bo.of (B := BT) (x := X) ((balloc wr (.cells #[.string ⟨#[]⟩] 9)).mono lT)))
          go_wp2_with (at_builtin; go_loud (refine wpList_row TT (wr.alloc (.cells #[.string ⟨#[]⟩] 9)) rfl (.tmp 46) (.tmp 47) rfl BT (fun _ => False) tt (.slice (some ⟨wr.heap.size, 0, none⟩) 1 1) (List.replicate i2 []) [[]] rfl rfl HOA.out HR.out HLN.out HBS.out ?_); intro ao6 n6 cap6 w6 hO6 hn6 hg6 ha6; clear hn6; have HO6 := Lib.hid hO6; have HK6 := Lib.hid (HKA.out.grown hg6 (fun e => by have := (HOW.out X e).1; omega)); have HB6 := Lib.hid (HBA.out.trans (Bo.of (x := X) (bgrown hg6 (fun b hb => (HOW.out b hb).1) HBS.out))); have f6 := HK6.out.free 2; have r6 := HK6.out.cell 2 _ rfl; have l6 := HK6.out.lt; clear hO6 hg6 ha6)
          go_roundg g
          case rel => exact ⟨i2 + 1, _, by omega, by go_num, Lib.hid (by rw [rep_snoc]; exact HO6.out.other (fun b h => h.elim) (by omega) 2 _), Lib.hid (HK6.out.set 2 _), Lib.hid (HB6.out.trans (Bo.set _ _ _ _ _))⟩
          case measure => omega
        · have hiT : i2 = T := by omega
          subst hiT
          have HOT := HO
          have HOI3 := Lib.hid (own_bo HOI.out HBO.out (fun b hb => by have := HIW.out b hb; have := hBT.out; omega))
          have HTW := Lib.hid (fun b hb => HO.out.own (b := b) hb)
          obtain ⟨Y, hY⟩ : ∃ B, Hid (wr.heap.size = B) := ⟨_, Lib.hid rfl⟩
          have hTY : BT ≤ Y := by rw [← hY.out]; exact lT
          have HKX3 := Lib.hid (HKX.out.alloc (.cells #[.int .i64 0, .int .i64 0, .int .i64 1, .slice none 0 0] 45))
          have HXR3 := Lib.hid (HXR.out.trans ((balloc wr (.cells #[.int .i64 0, .int .i64 0, .int .i64 1, .slice none 0 0] 45)).mono HXR.out.size))
          have HOT3 := Lib.hid (HO.out.keep (balloc wr (.cells #[.int .i64 0, .int .i64 0, .int .i64 1, .slice none 0 0] 45)))
          have HOI4 := Lib.hid (HOI3.out.keep (balloc wr (.cells #[.int .i64 0, .int .i64 0, .int .i64 1, .slice none 0 0] 45)))
          have HKY := Lib.hid (new_at wr #[.int .i64 0, .int .i64 0, .int .i64 1, .slice none 0 0] 45 hY.out)
          have HIY := Lib.hid (fun b hb => HOI3.out.own (b := b) hb)
          have HW3 := Lib.hid (show (wr.alloc (.cells #[.int .i64 0, .int .i64 0, .int .i64 1, .slice none 0 0] 45)).heap.size = Y + 1 by simp [hY.out])
          clear o2
          go_wp2_with fail
          rw [hY.out]
          clear HO HBO HKX HXR lX lT HOI HIW HOI3 HOT HXR2
          generalize wr.alloc _ = W3 at HKX3 HXR3 HOT3 HOI4 HKY HW3 ⊢
          have HO0 := Lib.hid (OwnR.nil (R := TN) W3 (Y + 1) (fun _ => False))
          have HBO3 := Lib.hid (Bo.refl (Y + 1) Y W3)
          go_loopg [17] N (fun g iv wq => ∃ (j : Nat) (cv : Value), j + g = N ∧ iv = .int .i64 (j : Int) ∧ Hid (OwnF TN wq (Y + 1) cv (List.replicate j ⟨9, 0, 0⟩)) ∧ Hid (Bk wq Y #[.int .i64 0, .int .i64 0, .int .i64 1, cv] 45) ∧ Hid (Bo (Y + 1) Y W3 wq))
          case atStart => exact ⟨0, _, Nat.zero_add _, rfl, HO0, HKY, HBO3⟩
          case round =>
            clear HO0 HBO3 HKY
            obtain ⟨j, cv, hj, rfl, HO, HKY, HBO⟩ := hrel
            have o3 := HKY.out.cell 3 _ rfl
            have lY := HKY.out.lt
            by_cases hlt : j < N
            · obtain ⟨g, rfl⟩ : ∃ g, gk = g + 1 := ⟨gk - 1, by omega⟩
              have i0 : (0 : Int) ≤ (j : Int) := by omega
              have HOA := Lib.hid (HO.out.keep (balloc wr (.cells #[.int .i64 9, .int .i64 0, .int .i64 0] 47)))
              have HR := Lib.hid (show RowR TN (wr.alloc (.cells #[.int .i64 9, .int .i64 0, .int .i64 0] 47)) (fun b => False ∧ cv.ownBlock ≠ some b) (.slice (some ⟨wr.heap.size, 0, none⟩) 1 1) [⟨9, 0, 0⟩] from rowR_new (q := []) #[.int .i64 9, .int .i64 0, .int .i64 0] 47 rfl rfl)
              have HLN := Lib.hid (show (List.replicate j (⟨9, 0, 0⟩ : In)).length + [(⟨9, 0, 0⟩ : In)].length ≤ 100000000000 by rw [List.length_replicate]; simp; omega)
              have HBS := Lib.hid (show Y + 1 ≤ (wr.alloc (.cells #[.int .i64 9, .int .i64 0, .int .i64 0] 47)).heap.size by simp; omega)
              have HOW := Lib.hid (fun b hb => HO.out.own (b := b) hb)
              have HKA := Lib.hid (HKY.out.alloc (.cells #[.int .i64 9, .int .i64 0, .int .i64 0] 47))
              have HBA := Lib.hid (HBO.out.trans (Bo.of (B := Y + 1) (x := Y) ((balloc wr (.cells #[.int .i64 9, .int .i64 0, .int .i64 0] 47)).mono lY)))
              go_wp2_with (at_builtin; go_loud (refine wpList_row TN (wr.alloc (.cells #[.int .i64 9, .int .i64 0, .int .i64 0] 47)) rfl (.tmp 57) (.tmp 59) rfl (Y + 1) (fun _ => False) cv (.slice (some ⟨wr.heap.size, 0, none⟩) 1 1) (List.replicate j ⟨9, 0, 0⟩) [⟨9, 0, 0⟩] rfl rfl HOA.out HR.out HLN.out HBS.out ?_); intro ao6 n6 cap6 w6 hO6 hn6 hg6 ha6; clear hn6; have HO6 := Lib.hid hO6; have HK6 := Lib.hid (HKA.out.grown hg6 (fun e => by have := (HOW.out Y e).1; omega)); have HB6 := Lib.hid (HBA.out.trans (Bo.of (x := Y) (bgrown hg6 (fun b hb => (HOW.out b hb).1) HBS.out))); have f6 := HK6.out.free 3; have r6 := HK6.out.cell 3 _ rfl; have l6 := HK6.out.lt; clear hO6 hg6 ha6)
              go_roundg g
              case rel => exact ⟨j + 1, _, by omega, by go_num, Lib.hid (by rw [rep_snoc]; exact HO6.out.other (fun b h => h.elim) (Nat.lt_succ_self Y) 3 _), Lib.hid (HK6.out.set 3 _), Lib.hid (HB6.out.trans (Bo.set _ _ _ _ _))⟩
              case measure => omega
            · have hjN : j = N := by omega
              subst hjN
              go_wp2_with fail
              obtain ⟨BF, hBF⟩ : ∃ B, Hid (wr.heap.size = B) := ⟨_, Lib.hid rfl⟩
              have hYF : Y + 1 ≤ BF := by rw [← hBF.out]; exact lY
              have hXY : X < Y := by have := hBT.out; omega
              have HKX4 := Lib.hid (show Bk wr X _ _ from (HBO.out.block X (by omega) (by omega)).trans HKX3.out)
              have HXR4 := Lib.hid (show Below w.heap.size w wr from HXR3.out.trans ((HBO.out.mono (show w.heap.size ≤ Y + 1 by have := hX.out; omega)).below (by have := hX.out; omega)))
              have HOI5 := Lib.hid (own_bo HOI4.out HBO.out (fun b hb => by have := HIY.out b hb; have := hY.out; omega))
              have HOT5 := Lib.hid (own_bo HOT3.out HBO.out (fun b hb => by have := HTW.out b hb; have := hY.out; omega))
              have HIF := Lib.hid (fun b hb => HOI5.out.own (b := b) hb)
              have HTF := Lib.hid (fun b hb => HOT5.out.own (b := b) hb)
              have HCW := Lib.hid (show ∃ qs, Rw wr (fun b => b < BF ∧ b ≠ X) cv (List.replicate j (⟨9, 0, 0⟩ : In)).length (rowOf TN (List.replicate j ⟨9, 0, 0⟩) qs) ∧ Hs TN wr (fun _ => False) (List.replicate j ⟨9, 0, 0⟩) qs from by
                obtain ⟨qs, h1, h2⟩ := HO.out.rw
                exact ⟨qs, h1.mv (Mv.weak _ fun b hb hlt => ⟨by rw [← hBF.out]; exact hlt, by have hb : Y + 1 ≤ b := hb; omega⟩), Hs.mv (Mv.weak _ fun b h _ => h.elim) _ _ h2⟩)
              have HKY4 := HKY
              have HO0 := Lib.hid (OwnR.nil (R := TF) wr BF (fun b => b < BF ∧ b ≠ X))
              have HBO4 := Lib.hid (Bo.refl BF X wr)
              clear HO HBO HKY o3 lY HKX3 HXR3 HOI4 HOT3 HIY HTW HW3
              generalize wr = W4 at hBF HKX4 HXR4 HOI5 HOT5 HIF HTF HCW HKY4 HO0 HBO4 ⊢
              go_loopg [18] F (fun g iv wr => ∃ (m : Nat) (ff : Value), m + g = F ∧ iv = .int .i64 (m : Int) ∧ Hid (OwnR TF wr BF (fun b => b < BF ∧ b ≠ X) ff (List.replicate m (bdS j))) ∧ Hid (Bk wr X #[ff, vv, tt, .int .i64 0] 26) ∧ Hid (Bo BF X W4 wr))
              case atStart => exact ⟨0, _, Nat.zero_add _, rfl, HO0, HKX4, HBO4⟩
              case round =>
                clear HO0 HBO4 HKX4
                obtain ⟨m, ff, hm, rfl, HO, HKX, HBO⟩ := hrel
                have HXR := Lib.hid (show Below w.heap.size w wr from HXR4.out.trans ((HBO.out.mono (show w.heap.size ≤ BF by have := hX.out; omega)).below (by have := hX.out; omega)))
                have o0 := HKX.out.cell 0 _ rfl
                have lX := HKX.out.lt
                have lF : BF ≤ wr.heap.size := by have := HBO.out.size; have := hBF.out; omega
                by_cases hlt : m < F
                · obtain ⟨g, rfl⟩ : ∃ g, gk = g + 1 := ⟨gk - 1, by omega⟩
                  have i0 : (0 : Int) ≤ (m : Int) := by omega
                  have HKY := Lib.hid (show Bk wr Y _ _ from (HBO.out.block Y (by omega) (by omega)).trans HKY4.out)
                  have y0 := HKY.out.cell 0 _ rfl
                  have y1 := HKY.out.cell 1 _ rfl
                  have y2 := HKY.out.cell 2 _ rfl
                  have y3 := HKY.out.cell 3 _ rfl
                  have HOW := Lib.hid (fun b hb => HO.out.own (b := b) hb)
                  have HOA := Lib.hid (HO.out.keep (balloc wr (.cells #[.int .i64 0, .int .i64 0, .int .i64 1, cv] 45)))
                  have HR := Lib.hid (show RowR TF (wr.alloc (.cells #[.int .i64 0, .int .i64 0, .int .i64 1, cv] 45)) (fun b => (b < BF ∧ b ≠ X) ∧ ff.ownBlock ≠ some b) (.slice (some ⟨wr.heap.size, 0, none⟩) 1 1) [bdS j] from by
                    refine rowR_new (q := [cv]) #[.int .i64 0, .int .i64 0, .int .i64 1, cv] 45 rfl ?_
                    obtain ⟨qs, h1, h2⟩ := HCW.out
                    have hmv : Mv W4 wr (fun b => b < BF ∧ b ≠ X) (fun b => (b < BF ∧ b ≠ X) ∧ ff.ownBlock ≠ some b) := ⟨HBO.out.size, fun b hb _ => ⟨⟨hb, fun e => by have := (HOW.out b e).1; omega⟩, HBO.out.block b hb.1 hb.2⟩⟩
                    exact ⟨_, qs, rfl, h1.mv hmv, Hs.mv ⟨HBO.out.size, fun b hb _ => hb.elim⟩ _ _ h2⟩)
                  have HLN := Lib.hid (show (List.replicate m (bdS j)).length + [bdS j].length ≤ 100000000000 by rw [List.length_replicate]; simp; omega)
                  have HBS := Lib.hid (show BF ≤ (wr.alloc (.cells #[.int .i64 0, .int .i64 0, .int .i64 1, cv] 45)).heap.size by simp; omega)
                  have HKA := Lib.hid (HKX.out.alloc (.cells #[.int .i64 0, .int .i64 0, .int .i64 1, cv] 45))
                  have HBA := Lib.hid (HBO.out.trans (Bo.of (B := BF) (x := X) ((balloc wr (.cells #[.int .i64 0, .int .i64 0, .int .i64 1, cv] 45)).mono lF)))
                  have hXF : X < BF := by omega
                  obtain ⟨ca, ccp, ecv⟩ : ∃ ca cc, cv = .slice ca j cc := by
                    obtain ⟨qs, ⟨ao, cap, h1, _⟩, _⟩ := HCW.out
                    exact ⟨ao, cap, by rw [h1, List.length_replicate]⟩
                  subst ecv
                  go_wp2_with (at_builtin; go_loud (refine wpList_row TF (wr.alloc (.cells #[.int .i64 0, .int .i64 0, .int .i64 1, .slice ca j ccp] 45)) rfl (.tmp 68) (.tmp 70) rfl BF (fun b => b < BF ∧ b ≠ X) ff (.slice (some ⟨wr.heap.size, 0, none⟩) 1 1) (List.replicate m (bdS j)) [bdS j] rfl rfl HOA.out HR.out HLN.out HBS.out ?_); intro ao6 n6 cap6 w6 hO6 hn6 hg6 ha6; clear hn6; have HO6 := Lib.hid hO6; have HK6 := Lib.hid (HKA.out.grown hg6 (fun e => by have := (HOW.out X e).1; omega)); have HB6 := Lib.hid (HBA.out.trans (Bo.of (x := X) (bgrown hg6 (fun b hb => (HOW.out b hb).1) HBS.out))); have f6 := HK6.out.free 0; have r6 := HK6.out.cell 0 _ rfl; have l6 := HK6.out.lt; clear hO6 hg6 ha6)
                  go_roundg g
                  case rel => exact ⟨m + 1, _, by omega, by go_num, Lib.hid (by rw [rep_snoc]; exact HO6.out.other (fun b h => h.2) hXF 0 _), Lib.hid (HK6.out.set 0 _), Lib.hid (HB6.out.trans (Bo.set _ _ _ _ _))⟩
                  case measure => omega
                · have hmF : m = F := by omega
                  subst hmF
                  have HOI6 := Lib.hid (own_bo HOI5.out HBO.out (fun b hb => by have := HIF.out b hb; have := hBF.out; omega))
                  have HOT6 := Lib.hid (own_bo HOT5.out HBO.out (fun b hb => by have := HTF.out b hb; have := hBF.out; omega))
                  have HC := Lib.hid (show HasC wr (fun _ => True) (cdS m i i2 j) ff vv tt from ⟨HO.out.row.weak fun _ _ _ => trivial, HOI6.out.row.weak fun _ _ _ => trivial, HOT6.out.row.weak fun _ _ _ => trivial⟩)
                  have HPM := Lib.hid (pmay_c (cdS m i i2 j) ff vv tt wr _ HC.out ⟨by simp [cdS]; omega, by simp [cdS, intsS_len]; omega, by simp [cdS]; omega, fun f hf => by
                    rw [(List.mem_replicate.1 hf).2]; simp [bdS]; omega⟩)
                  have HMS := may_sizes m i i2 j hK
                  obtain ⟨fa, fcap, ef0, _⟩ := HC.out.funs.val
                  obtain ⟨ia, icap, ei0, _⟩ := HC.out.ints.val
                  obtain ⟨ta, tcap, et0, _⟩ := HC.out.texts.val
                  have ef : ff = .slice fa m fcap := by rw [ef0]; simp [cdS]
                  have ei : vv = .slice ia i icap := by rw [ei0]; simp [cdS, intsS_len]
                  have et : tt = .slice ta i2 tcap := by rw [et0]; simp [cdS]
                  have o1 := HKX.out.cell 1 _ rfl
                  have o2 := HKX.out.cell 2 _ rfl
                  have o3 := HKX.out.cell 3 _ rfl
                  have lz : (cdS m i i2 j).lets = 0 := rfl
                  rw [lz] at HPM
                  generalize mayB (cdS m i i2 j) = MB at HMS HPM
                  replace HMS := Lib.hid HMS
                  clear HO HOI6 HOT6 HC HOI5 HOT5 HIF HTF HCW HKY4
                  clear ef0 ei0 et0
                  subst ef ei et
                  go_upto_region 23 with fail
                  go_cut [19] from 73 to 101 (fun s19 wc => s19 = .bool MB ∧ wc = wr)
                  case first =>
                    clear o0 o1 o2 o3
                    by_cases q0 : ((m : Int) ≥ 1)
                    case neg =>
                      have HMB := Lib.hid (show MB = false from by rw [HMS.out]; simp; omega)
                      go_wp2_with fail
                      go_meet
                      exact ⟨by rw [HMB.out], rfl⟩
                    by_cases q1 : ((m : Int) ≤ 120)
                    case neg =>
                      have HMB := Lib.hid (show MB = false from by rw [HMS.out]; simp; omega)
                      go_wp2_with fail
                      go_meet
                      exact ⟨by rw [HMB.out], rfl⟩
                    by_cases q2 : ((i : Int) ≤ 120)
                    case neg =>
                      have HMB := Lib.hid (show MB = false from by rw [HMS.out]; simp; omega)
                      go_wp2_with fail
                      go_meet
                      exact ⟨by rw [HMB.out], rfl⟩
                    by_cases q3 : ((i2 : Int) ≤ 120)
                    case neg =>
                      have HMB := Lib.hid (show MB = false from by rw [HMS.out]; simp; omega)
                      go_wp2_with fail
                      go_meet
                      exact ⟨by rw [HMB.out], rfl⟩
                    by_cases q4 : ((j : Int) ≥ 1)
                    case neg =>
                      have HMB := Lib.hid (show MB = false from by rw [HMS.out]; simp; omega)
                      go_wp2_with fail
                      go_meet
                      exact ⟨by rw [HMB.out], rfl⟩
                    by_cases q5 : ((j : Int) ≤ 400)
                    case neg =>
                      have HMB := Lib.hid (show MB = false from by rw [HMS.out]; simp; omega)
                      go_wp2_with fail
                      go_meet
                      exact ⟨by rw [HMB.out], rfl⟩
                    have HMB := Lib.hid (show MB = true from by rw [HMS.out]; simp; omega)
                    go_wp2_with fail
                    go_meet
                    exact ⟨by rw [HMB.out], rfl⟩
                  case rest =>
                    obtain ⟨rfl, rfl⟩ := hcut
                    have eM : (MB == MB) = true := by simp
                    go_wp2_with (first | (go_at_call 13; refine HPM.out.mono ?_; rintro e w8 ⟨rfl, hb⟩; have HX8 := Lib.hid (bnext HXR.out hb); clear hb) | (go_at_call 15; refine (L1.out _).mono ?_; rintro e w9 ⟨rfl, hb⟩; have HX9 := Lib.hid (bnext HX8.out hb); clear hb))
                    go_ret
                    exact ⟨rfl, HX9.out⟩
end Go.Proofs.Ytmdhpeeippiamaa.codeSizes
