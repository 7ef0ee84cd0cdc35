/- The laws of sums, but for 'lives'. -/
import Derived.Test.YtphebogjmbaboaaDoorIA
namespace Go.Proofs.YtphebogjmbaboaaDoor.IB
open Go.RowKit Go.Proofs.YtphebogjmbaboaaDoor.RG Go.Proofs.YtphebogjmbaboaaDoor.RB Go.Proofs.YtphebogjmbaboaaDoor.HR Go.Proofs.YtphebogjmbaboaaDoor.HY Go.Proofs.YtphebogjmbaboaaDoor.HZ Go.Proofs.YtphebogjmbaboaaDoor.M Go.Proofs.YtphebogjmbaboaaDoor.K1 Go.Proofs.YtphebogjmbaboaaDoor.K2
set_option linter.unusedVariables false
set_option maxRecDepth 100000
set_option maxRecDepth 100000

/-- 'lives' holds. -/
def Lives : Prop := ∀ w, Sig w → Calls Tryd.prog 18 #[] w fun e w' => e = .returned (.bool true) ∧ Below w.heap.size w w'
theorem lsum_c (HL : Lives) (k a b : Int) (w : World) (ha0 : -9223372036854775808 ≤ a) (ha1 : a ≤ 9223372036854775807) (hb0 : -9223372036854775808 ≤ b) (hb1 : b ≤ 9223372036854775807) (hsg : Sig w) :
    Calls Tryd.prog 5 #[.int .i64 k, .int .i64 a, .int .i64 b] w fun e w' => e = .returned (.bool true) ∧ Below w.heap.size w w' := by
  have HSG := Lib.hid hsg
  have HP := Lib.hid (fun w1 hg => psum_c k a b w1 ha0 ha1 hb0 hb1 hg)
  clear hsg
  have HR := Lib.hid (fun w1 => rsum_c k a b w1 ha0 ha1 hb0 hb1)
  have HL := Lib.hid HL
  unfold Lives at HL
  obtain ⟨⟨X, E⟩, hX⟩ : ∃ x, sumR k a b = x := ⟨_, rfl⟩
  rw [hX] at HP HR
  clear hX ha0 ha1 hb0 hb1
  go_enter Tryd.func5, Tryd.ntmps5
  go_wp2_with fail
  refine (HP.out _ HSG.out).mono ?_
  rintro e w1 ⟨rfl, hb⟩
  have HB1 := Lib.hid hb
  clear hb
  go_wp2_with fail
  refine (HR.out _).mono ?_
  rintro e w2 ⟨rfl, hb⟩
  have HB2 := Lib.hid (bnext HB1.out hb)
  clear hb
  go_wp2_with fail
  refine (HL.out _ (HSG.out.below HB2.out)).mono ?_
  rintro e w3 ⟨rfl, hb⟩
  have HB3 := Lib.hid (bnext HB2.out hb)
  clear hb
  go_wp2_with fail
  go_ret
  exact ⟨rfl, HB3.out⟩
set_option maxHeartbeats 1600000 in
theorem ltags_c (HL : Lives) (k a b : Int) (w : World) (ha0 : -9223372036854775808 ≤ a) (ha1 : a ≤ 9223372036854775807) (hb0 : -9223372036854775808 ≤ b) (hb1 : b ≤ 9223372036854775807) (hsg : Sig w) :
    Calls Tryd.prog 8 #[.int .i64 k, .int .i64 a, .int .i64 b] w fun e w' => e = .returned (.bool true) ∧ Below w.heap.size w w' := by
  have HWA := Lib.hid (fun w1 => rwrap_any a w1 ha0 ha1)
  have HWB := Lib.hid (fun w1 => rwrap_any b w1 hb0 hb1)
  have ia : In (w63 a) := In.w63 a
  have ib : In (w63 b) := In.w63 b
  obtain ⟨A, hA⟩ : ∃ x, w63 a = x := ⟨_, rfl⟩
  obtain ⟨B, hB⟩ : ∃ x, w63 b = x := ⟨_, rfl⟩
  rw [hA] at HWA ia
  rw [hB] at HWB ib
  obtain ⟨A0, A1⟩ := id ia
  obtain ⟨B0, B1⟩ := id ib
  clear hA hB ha0 ha1 hb0 hb1
  have HSG := Lib.hid hsg
  clear hsg
  have HS := Lib.hid (fun w1 hg => psum_c k (2 * A + 1) (2 * B + 1) w1 (by omega) (by omega) (by omega) (by omega) hg)
  have HL := Lib.hid HL
  unfold Lives at HL
  have hs : sumR k (2 * A + 1) (2 * B + 1) = if k < 0 ∨ k > 6 then (0, 1) else if (doOp k.toNat A B).2 = 0 then (2 * (doOp k.toNat A B).1 + 1, 0) else (0, (doOp k.toNat A B).2) := by
    unfold sumR
    rw [show (2 * A + 1) / 2 = A by omega, show (2 * B + 1) / 2 = B by omega]
    split
    · rfl
    · rw [if_neg (by omega)]
  have HBL := Lib.hid (fun w3 => balloc w3 (.cells #[.string ⟨#[43]⟩, .string ⟨#[45]⟩, .string ⟨#[42]⟩, .string ⟨#[47]⟩, .string ⟨#[37]⟩, .string ⟨#[61]⟩, .string ⟨#[60]⟩] 9))
  by_cases hk : k < 0 ∨ k > 6
  · rw [if_pos hk] at hs
    rw [hs] at HS
    rcases (show k < 0 ∨ (¬ k < 0 ∧ k > 6) by omega) with h1 | ⟨h1, h2⟩
    all_goals
      clear hk hs ia ib
      go_enter Tryd.func8, Tryd.ntmps8
      go_wp2_with fail
      refine (HWA.out _).mono ?_
      rintro e w1 ⟨rfl, rfl⟩
      go_wp2_with fail
      refine (HWB.out _).mono ?_
      rintro e w2 ⟨rfl, rfl⟩
      go_wp2_with fail
      refine (HS.out _ HSG.out).mono ?_
      rintro e w3 ⟨rfl, hb⟩
      have HB3 := Lib.hid hb
      clear hb
      go_wp2_with fail
      have HB4 := Lib.hid (bnext HB3.out (HBL.out w3))
      refine (HL.out _ (HSG.out.below HB4.out)).mono ?_
      rintro e w9 ⟨rfl, hb⟩
      have HB9 := Lib.hid (bnext HB4.out hb)
      clear hb
      go_wp2_with fail
      go_ret
      exact ⟨rfl, HB9.out⟩
  · rw [if_neg hk] at hs
    obtain ⟨n, rfl⟩ : ∃ n : Nat, k = (n : Int) := ⟨k.toNat, by omega⟩
    have hn : n ≤ 6 := by omega
    rw [Int.toNat_natCast] at hs
    have k1 : ¬ (n : Int) < 0 := by omega
    have k2 : ¬ (n : Int) > 6 := by omega
    have HDO := Lib.hid (fun w1 => rdo_k n hn A B w1 ia ib)
    obtain ⟨⟨i1, i2⟩, i3⟩ := doOp_in n A B ia ib
    obtain ⟨⟨X, E⟩, hX⟩ : ∃ x, doOp n A B = x := ⟨_, rfl⟩
    rw [hX] at HDO i1 i2 i3 hs
    simp only at HDO i1 i2 i3 hs
    have hcn : (#[.string ⟨#[43]⟩, .string ⟨#[45]⟩, .string ⟨#[42]⟩, .string ⟨#[47]⟩, .string ⟨#[37]⟩, .string ⟨#[61]⟩, .string ⟨#[60]⟩] : Array Value)[n]? = some (.string ⟨#[opOf n]⟩) := by
      rcases (show n = 0 ∨ n = 1 ∨ n = 2 ∨ n = 3 ∨ n = 4 ∨ n = 5 ∨ n = 6 by omega) with rfl | rfl | rfl | rfl | rfl | rfl | rfl <;> rfl
    have j0 : (0 : Int) ≤ (n : Int) := by omega
    have j1 : (n : Int) < 7 := by omega
    have hE : E = 0 ∨ E = 3 := i3
    clear i3 hX
    rcases hE with rfl | rfl
    · rw [if_pos rfl] at hs
      rw [hs] at HS
      clear hs hk ia ib
      go_enter Tryd.func8, Tryd.ntmps8
      go_wp2_with fail
      refine (HWA.out _).mono ?_
      rintro e w1 ⟨rfl, rfl⟩
      go_wp2_with fail
      refine (HWB.out _).mono ?_
      rintro e w2 ⟨rfl, rfl⟩
      go_wp2_with fail
      refine (HS.out _ HSG.out).mono ?_
      rintro e w3 ⟨rfl, hb⟩
      have HB3 := Lib.hid hb
      clear hb
      go_wp2_with fail
      refine (HDO.out _).mono ?_
      rintro e w4 ⟨rfl, rfl⟩
      have HB4 := Lib.hid (bnext HB3.out (HBL.out w3))
      go_wp2_with fail
      refine (HL.out _ (HSG.out.below HB4.out)).mono ?_
      rintro e w9 ⟨rfl, hb⟩
      have HB9 := Lib.hid (bnext HB4.out hb)
      clear hb
      go_wp2_with fail
      go_ret
      exact ⟨rfl, HB9.out⟩
    · rw [if_neg (by decide)] at hs
      rw [hs] at HS
      clear hs hk ia ib
      go_enter Tryd.func8, Tryd.ntmps8
      go_wp2_with fail
      refine (HWA.out _).mono ?_
      rintro e w1 ⟨rfl, rfl⟩
      go_wp2_with fail
      refine (HWB.out _).mono ?_
      rintro e w2 ⟨rfl, rfl⟩
      go_wp2_with fail
      refine (HS.out _ HSG.out).mono ?_
      rintro e w3 ⟨rfl, hb⟩
      have HB3 := Lib.hid hb
      clear hb
      go_wp2_with fail
      refine (HDO.out _).mono ?_
      rintro e w4 ⟨rfl, rfl⟩
      have HB4 := Lib.hid (bnext HB3.out (HBL.out w3))
      go_wp2_with fail
      refine (HL.out _ (HSG.out.below HB4.out)).mono ?_
      rintro e w9 ⟨rfl, hb⟩
      have HB9 := Lib.hid (bnext HB4.out hb)
      clear hb
      go_wp2_with fail
      go_ret
      exact ⟨rfl, HB9.out⟩
end Go.Proofs.YtphebogjmbaboaaDoor.IB
