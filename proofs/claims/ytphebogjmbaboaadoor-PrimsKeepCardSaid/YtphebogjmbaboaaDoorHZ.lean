/- The program's Sum. -/
import Derived.Test.YtphebogjmbaboaaDoorHY
namespace Go.Proofs.YtphebogjmbaboaaDoor.HZ
open Go.RowKit Go.Proofs.YtphebogjmbaboaaDoor.RG Go.Proofs.YtphebogjmbaboaaDoor.RB Go.Proofs.YtphebogjmbaboaaDoor.HA Go.Proofs.YtphebogjmbaboaaDoor.HB Go.Proofs.YtphebogjmbaboaaDoor.HR Go.Proofs.YtphebogjmbaboaaDoor.HY Go.Proofs.YtphebogjmbaboaaDoor.M Go.Proofs.YtphebogjmbaboaaDoor.K1 Go.Proofs.YtphebogjmbaboaaDoor.K2
set_option linter.unusedVariables false
set_option maxRecDepth 100000
set_option maxRecDepth 100000

/-- The signs' table lies as the program's text lays it. -/
def Sig (w : World) : Prop := 0 < w.heap.size ∧ ∀ n, n < 7 → w.cell? ⟨0, n, none⟩ = some (.string ⟨#[opOf n]⟩)
theorem Sig.below {w w' : World} (h : Sig w) (hb : Below w.heap.size w w') : Sig w' := ⟨Nat.lt_of_lt_of_le h.1 hb.size, fun i hi => (hb.cell (by exact h.1)).trans (h.2 i hi)⟩
set_option maxHeartbeats 3200000 in
theorem psum_c (k a b : Int) (w : World) (ha0 : -9223372036854775808 ≤ a) (ha1 : a ≤ 9223372036854775807) (hb0 : -9223372036854775808 ≤ b) (hb1 : b ≤ 9223372036854775807) (hg : Sig w) :
    Calls Tryd.prog 26 #[.int .i64 k, .int .i64 a, .int .i64 b] w fun e w' => e = .returned (.tuple #[.int .i64 (sumR k a b).1, .int .i64 (sumR k a b).2]) ∧ Below w.heap.size w w' := by
  have hs : sumR k a b = if k < 0 ∨ k > 6 then (0, 1) else if a % 2 = 0 ∨ b % 2 = 0 then (0, 4) else if (doOp k.toNat (a / 2) (b / 2)).2 = 0 then (2 * (doOp k.toNat (a / 2) (b / 2)).1 + 1, 0) else (0, (doOp k.toNat (a / 2) (b / 2)).2) := rfl
  rw [hs]
  clear hs
  by_cases hk : k < 0 ∨ k > 6
  · rw [if_pos hk]
    rcases (show k < 0 ∨ (¬ k < 0 ∧ k ≥ 7) by omega) with h1 | ⟨h1, h2⟩
    all_goals
      clear hk
      go_enter Tryd.func26, Tryd.ntmps26
      go_wp2_with fail
      go_ret2
      exact ⟨rfl, Below.refl _ _⟩
  · rw [if_neg hk]
    obtain ⟨n, rfl⟩ : ∃ n : Nat, k = (n : Int) := ⟨k.toNat, by omega⟩
    have hn : n ≤ 6 := by omega
    rw [Int.toNat_natCast]
    have k1 : ¬ (n : Int) < 0 := by omega
    have k2 : ¬ (n : Int) ≥ 7 := by omega
    by_cases hab : a % 2 = 0 ∨ b % 2 = 0
    · rw [if_pos hab]
      rcases (show (a % 2 = 0 ∧ b % 2 = 0) ∨ (a % 2 = 0 ∧ b % 2 = 1) ∨ (a % 2 = 1 ∧ b % 2 = 0) by omega) with ⟨h1, h2⟩ | ⟨h1, h2⟩ | ⟨h1, h2⟩
      · have HA := Lib.hid (fun w1 => untag_even a w1 h1)
        have HB := Lib.hid (fun w1 => untag_even b w1 h2)
        clear hk hab h1 h2
        go_enter Tryd.func26, Tryd.ntmps26
        go_wp2_with fail
        refine (HA.out _).mono ?_
        rintro e w1 ⟨rfl, rfl⟩
        go_wp2_with fail
        refine (HB.out _).mono ?_
        rintro e w2 ⟨rfl, rfl⟩
        go_wp2_with fail
        go_ret2
        exact ⟨rfl, Below.refl _ _⟩
      · have HA := Lib.hid (fun w1 => untag_even a w1 h1)
        have HB := Lib.hid (fun w1 => untag_odd b w1 h2)
        clear hk hab h1 h2
        go_enter Tryd.func26, Tryd.ntmps26
        go_wp2_with fail
        refine (HA.out _).mono ?_
        rintro e w1 ⟨rfl, rfl⟩
        go_wp2_with fail
        refine (HB.out _).mono ?_
        rintro e w2 ⟨rfl, rfl⟩
        go_wp2_with fail
        go_ret2
        exact ⟨rfl, Below.refl _ _⟩
      · have HA := Lib.hid (fun w1 => untag_odd a w1 h1)
        have HB := Lib.hid (fun w1 => untag_even b w1 h2)
        clear hk hab h1 h2
        go_enter Tryd.func26, Tryd.ntmps26
        go_wp2_with fail
        refine (HA.out _).mono ?_
        rintro e w1 ⟨rfl, rfl⟩
        go_wp2_with fail
        refine (HB.out _).mono ?_
        rintro e w2 ⟨rfl, rfl⟩
        go_wp2_with fail
        go_ret2
        exact ⟨rfl, Below.refl _ _⟩
    · rw [if_neg hab]
      have HA := Lib.hid (fun w1 => untag_odd a w1 (by omega))
      have HB := Lib.hid (fun w1 => untag_odd b w1 (by omega))
      have ia : In (a / 2) := ⟨by omega, by omega⟩
      have ib : In (b / 2) := ⟨by omega, by omega⟩
      have HDO := Lib.hid (fun w1 => do_k n hn (a / 2) (b / 2) w1 ia ib)
      obtain ⟨⟨i1, i2⟩, i3⟩ := doOp_in n (a / 2) (b / 2) ia ib
      obtain ⟨⟨X, E⟩, hX⟩ : ∃ x, doOp n (a / 2) (b / 2) = x := ⟨_, rfl⟩
      rw [hX] at HDO i1 i2 i3 ⊢
      simp only at HDO i1 i2 i3 ⊢
      obtain ⟨A, hA⟩ : ∃ x, a / 2 = x := ⟨_, rfl⟩
      obtain ⟨B, hB⟩ : ∃ x, b / 2 = x := ⟨_, rfl⟩
      rw [hA] at HA HDO
      rw [hB] at HB HDO
      clear hk hab hX hA hB ia ib ha0 ha1 hb0 hb1
      have hE : E = 0 ∨ E = 3 := i3
      clear i3
      have hcn := hg.2 n (by omega)
      have i0 : (0 : Int) ≤ (n : Int) := by omega
      have i1' : (n : Int) < 7 := by omega
      have HTG := Lib.hid (fun w1 => tag_any X w1 (by omega) (by omega))
      rw [w63_id X (by omega) (by omega)] at HTG
      rcases hE with rfl | rfl
      · go_enter Tryd.func26, Tryd.ntmps26
        go_wp2_with fail
        refine (HA.out _).mono ?_
        rintro e w1 ⟨rfl, rfl⟩
        go_wp2_with fail
        refine (HB.out _).mono ?_
        rintro e w2 ⟨rfl, rfl⟩
        go_wp2_with fail
        refine (HDO.out _).mono ?_
        rintro e w3 ⟨rfl, rfl⟩
        go_wp2_with fail
        refine (HTG.out _).mono ?_
        rintro e w4 ⟨rfl, rfl⟩
        go_wp2_with fail
        go_ret2
        exact ⟨rfl, Below.refl _ _⟩
      · go_enter Tryd.func26, Tryd.ntmps26
        go_wp2_with fail
        refine (HA.out _).mono ?_
        rintro e w1 ⟨rfl, rfl⟩
        go_wp2_with fail
        refine (HB.out _).mono ?_
        rintro e w2 ⟨rfl, rfl⟩
        go_wp2_with fail
        refine (HDO.out _).mono ?_
        rintro e w3 ⟨rfl, rfl⟩
        go_wp2_with fail
        go_ret2
        exact ⟨rfl, Below.refl _ _⟩
end Go.Proofs.YtphebogjmbaboaaDoor.HZ
