/- The document's Sum. -/
import Derived.Test.YtphebogjmbaboaaDoorHQ
import Derived.Test.YtphebogjmbaboaaDoorZA
namespace Go.Proofs.YtphebogjmbaboaaDoor.HR
open Go.RowKit Go.Proofs.YtphebogjmbaboaaDoor.RG Go.Proofs.YtphebogjmbaboaaDoor.M Go.Proofs.YtphebogjmbaboaaDoor.K1 Go.Proofs.YtphebogjmbaboaaDoor.K2 Go.Proofs.YtphebogjmbaboaaDoor.K5
set_option linter.unusedVariables false
set_option maxRecDepth 100000
set_option maxRecDepth 100000

def opOf (k : Nat) : UInt8 := [43, 45, 42, 47, 37, 61, 60].getD k 0
/-- What an operation of two integers answers. -/
def doOp (k : Nat) (a b : Int) : Int × Int := match k with
  | 0 => (w63 (a + b), 0)
  | 1 => (w63 (a - b), 0)
  | 2 => (w63 (a * b), 0)
  | 3 => if b = 0 then (0, 3) else (w63 (a.tdiv b), 0)
  | 4 => if b = 0 then (0, 3) else (a.tmod b, 0)
  | 5 => (tr (a == b), 0)
  | _ => (tr (decide (a < b)), 0)
theorem doOp_in (k : Nat) (a b : Int) (ia : In a) (ib : In b) : In (doOp k a b).1 ∧ ((doOp k a b).2 = 0 ∨ (doOp k a b).2 = 3) := by
  unfold doOp
  split
  · exact ⟨In.w63 _, .inl rfl⟩
  · exact ⟨In.w63 _, .inl rfl⟩
  · exact ⟨In.w63 _, .inl rfl⟩
  · split
    · exact ⟨⟨by decide, by decide⟩, .inr rfl⟩
    · exact ⟨In.w63 _, .inl rfl⟩
  · split
    · exact ⟨⟨by decide, by decide⟩, .inr rfl⟩
    · have := tmod_le a b
      obtain ⟨h1, h2⟩ := ia
      refine ⟨⟨?_, ?_⟩, .inl rfl⟩
      · show _ ≤ a.tmod b
        omega
      · show a.tmod b ≤ _
        by_cases h3 : 0 ≤ a
        · omega
        · have h4 := tmod_neg_l a b
          rw [tmod_pos (-a) b (by omega)] at h4
          rename_i hb
          have h5 := Int.emod_nonneg (-a) hb
          omega
  · have := tr_le (a == b)
    exact ⟨⟨by show _ ≤ tr _; omega, by show tr _ ≤ _; omega⟩, .inl rfl⟩
  · have := tr_le (decide (a < b))
    exact ⟨⟨by show _ ≤ tr _; omega, by show tr _ ≤ _; omega⟩, .inl rfl⟩
theorem rdo_k (k : Nat) (hk : k ≤ 6) (a b : Int) (w : World) (ia : In a) (ib : In b) :
    Calls Tryd.prog 33 #[.string ⟨#[opOf k]⟩, .int .i64 a, .int .i64 b] w fun e w' => e = .returned (.tuple #[.int .i64 (doOp k a b).1, .int .i64 (doOp k a b).2]) ∧ w = w' := by
  rcases (show k = 0 ∨ k = 1 ∨ k = 2 ∨ k = 3 ∨ k = 4 ∨ k = 5 ∨ k = 6 by omega) with rfl | rfl | rfl | rfl | rfl | rfl | rfl
  · exact rdo_add a b w ia ib
  · exact rdo_sub a b w ia ib
  · exact rdo_mul a b w ia ib
  · by_cases hb : b = 0
    · subst hb
      exact rdo_quo0 a w ia
    · have e : doOp 3 a b = (w63 (a.tdiv b), 0) := if_neg hb
      rw [e]
      exact rdo_quo a b w ia ib hb
  · by_cases hb : b = 0
    · subst hb
      exact rdo_rem0 a w ia
    · have e : doOp 4 a b = (a.tmod b, 0) := if_neg hb
      rw [e]
      exact rdo_rem a b w ia ib hb
  · exact rdo_eq a b w ia ib
  · exact rdo_lt a b w ia ib
/-- A sum of words. -/
def sumR (k a b : Int) : Int × Int := if k < 0 ∨ k > 6 then (0, 1) else if a % 2 = 0 ∨ b % 2 = 0 then (0, 4) else if (doOp k.toNat (a / 2) (b / 2)).2 = 0 then (2 * (doOp k.toNat (a / 2) (b / 2)).1 + 1, 0) else (0, (doOp k.toNat (a / 2) (b / 2)).2)
set_option maxHeartbeats 3200000 in
theorem rsum_c (k a b : Int) (w : World) (ha0 : -9223372036854775808 ≤ a) (ha1 : a ≤ 9223372036854775807) (hb0 : -9223372036854775808 ≤ b) (hb1 : b ≤ 9223372036854775807) :
    Calls Tryd.prog 27 #[.int .i64 k, .int .i64 a, .int .i64 b] w fun e w' => e = .returned (.tuple #[.int .i64 (sumR k a b).1, .int .i64 (sumR k a b).2]) ∧ Below w.heap.size w w' := by
  have hs : sumR k a b = if k < 0 ∨ k > 6 then (0, 1) else if a % 2 = 0 ∨ b % 2 = 0 then (0, 4) else if (doOp k.toNat (a / 2) (b / 2)).2 = 0 then (2 * (doOp k.toNat (a / 2) (b / 2)).1 + 1, 0) else (0, (doOp k.toNat (a / 2) (b / 2)).2) := rfl
  rw [hs]
  clear hs
  by_cases hk : k < 0 ∨ k > 6
  · rw [if_pos hk]
    rcases (show k < 0 ∨ (¬ k < 0 ∧ k > 6) by omega) with h1 | ⟨h1, h2⟩
    all_goals
      clear hk
      go_enter Tryd.func27, Tryd.ntmps27
      go_wp2_with fail
      go_ret2
      exact ⟨rfl, Below.refl _ _⟩
  · rw [if_neg hk]
    obtain ⟨n, rfl⟩ : ∃ n : Nat, k = (n : Int) := ⟨k.toNat, by omega⟩
    have hn : n ≤ 6 := by omega
    rw [Int.toNat_natCast]
    have k1 : ¬ (n : Int) < 0 := by omega
    have k2 : ¬ (n : Int) > 6 := by omega
    by_cases hab : a % 2 = 0 ∨ b % 2 = 0
    · rw [if_pos hab]
      rcases (show a % 2 = 0 ∨ (a % 2 ≠ 0 ∧ b % 2 = 0) by omega) with h1 | ⟨h1, h2⟩
      · have e1 : (Int.tmod a 2 == 0) = true := by rw [beq_iff_eq]; exact (tmod2 a).2 h1
        clear hk hab
        go_enter Tryd.func27, Tryd.ntmps27
        go_wp2_with fail
        go_ret2
        exact ⟨rfl, Below.refl _ _⟩
      · have e1 : (Int.tmod a 2 == 0) = false := by rw [beq_eq_false_iff_ne]; intro e; exact h1 ((tmod2 a).1 e)
        have e2 : (Int.tmod b 2 == 0) = true := by rw [beq_iff_eq]; exact (tmod2 b).2 h2
        clear hk hab
        go_enter Tryd.func27, Tryd.ntmps27
        go_wp2_with fail
        go_ret2
        exact ⟨rfl, Below.refl _ _⟩
    · rw [if_neg hab]
      have h1 : a % 2 ≠ 0 := by omega
      have h2 : b % 2 ≠ 0 := by omega
      have e1 : (Int.tmod a 2 == 0) = false := by rw [beq_eq_false_iff_ne]; intro e; exact h1 ((tmod2 a).1 e)
      have e2 : (Int.tmod b 2 == 0) = false := by rw [beq_eq_false_iff_ne]; intro e; exact h2 ((tmod2 b).1 e)
      have HA := Lib.hid (fun w1 => Go.Proofs.YtphebogjmbaboaaDoor.HP.rhalf_c w1 a ha0 ha1)
      have HB := Lib.hid (fun w1 => Go.Proofs.YtphebogjmbaboaaDoor.HP.rhalf_c w1 b hb0 hb1)
      have ia : In (a / 2) := ⟨by omega, by omega⟩
      have ib : In (b / 2) := ⟨by omega, by omega⟩
      have HDO := Lib.hid (fun w1 => rdo_k n hn (a / 2) (b / 2) w1 ia ib)
      obtain ⟨⟨i1, i2⟩, i3⟩ := doOp_in n (a / 2) (b / 2) ia ib
      obtain ⟨⟨X, E⟩, hX⟩ : ∃ x, doOp n (a / 2) (b / 2) = x := ⟨_, rfl⟩
      rw [hX] at HDO i1 i2 i3 ⊢
      simp only at HDO i1 i2 i3 ⊢
      obtain ⟨A, hA⟩ : ∃ x, a / 2 = x := ⟨_, rfl⟩
      obtain ⟨B, hB⟩ : ∃ x, b / 2 = x := ⟨_, rfl⟩
      rw [hA] at HA HDO
      rw [hB] at HB HDO
      clear hk hab hX hA hB ia ib ha0 ha1 hb0 hb1
      have hE : E = 0 ∨ E = 3 := i3
      clear i3
      have hcn : (#[.string ⟨#[43]⟩, .string ⟨#[45]⟩, .string ⟨#[42]⟩, .string ⟨#[47]⟩, .string ⟨#[37]⟩, .string ⟨#[61]⟩, .string ⟨#[60]⟩] : Array Value)[n]? = some (.string ⟨#[opOf n]⟩) := by
        rcases (show n = 0 ∨ n = 1 ∨ n = 2 ∨ n = 3 ∨ n = 4 ∨ n = 5 ∨ n = 6 by omega) with rfl | rfl | rfl | rfl | rfl | rfl | rfl <;> rfl
      have HX := Lib.hid (Bk.new w #[.string ⟨#[43]⟩, .string ⟨#[45]⟩, .string ⟨#[42]⟩, .string ⟨#[47]⟩, .string ⟨#[37]⟩, .string ⟨#[61]⟩, .string ⟨#[60]⟩] 9)
      have HC1 := Lib.hid (show (w.alloc (.cells #[.string ⟨#[43]⟩, .string ⟨#[45]⟩, .string ⟨#[42]⟩, .string ⟨#[47]⟩, .string ⟨#[37]⟩, .string ⟨#[61]⟩, .string ⟨#[60]⟩] 9)).drew.cell? ⟨w.heap.size, n, none⟩ = some (.string ⟨#[opOf n]⟩) from HX.out.drew.cell n _ hcn)
      have HBL := Lib.hid (bnext (balloc w (.cells #[.string ⟨#[43]⟩, .string ⟨#[45]⟩, .string ⟨#[42]⟩, .string ⟨#[47]⟩, .string ⟨#[37]⟩, .string ⟨#[61]⟩, .string ⟨#[60]⟩] 9)) (bdr _))
      have i0 : (0 : Int) ≤ (n : Int) := by omega
      have i1' : (n : Int) < 7 := by omega
      clear hcn
      rcases hE with rfl | rfl
      all_goals
        go_enter Tryd.func27, Tryd.ntmps27
        go_wp2_with fail
        go_region_held3 (fun w' => w'.cell? ⟨w.heap.size, n, none⟩ = some (.string ⟨#[opOf n]⟩)) (first | with_reducible exact HC1.out | go_keep) (first
          | (go_at_call 50; first | (with_reducible refine (HA.out _).mono ?_; rintro e w' ⟨rfl, rfl⟩) | (with_reducible refine (HB.out _).mono ?_; rintro e w' ⟨rfl, rfl⟩))
          | (go_at_call 33; refine (HDO.out _).mono ?_; rintro e w' ⟨rfl, rfl⟩))
        go_wp2_with fail
        go_ret2
        first | exact ⟨rfl, HBL.out⟩ | exact ⟨rfl, bnext HBL.out (bdr _)⟩
end Go.Proofs.YtphebogjmbaboaaDoor.HR
