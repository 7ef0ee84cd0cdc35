/- The digits, found in the table. -/
import Derived.Test.YtlcapkgbbgpdmaaGreatDoorA
import Derived.Lib.Hide
namespace Go.Proofs.YtlcapkgbbgpdmaaGreatDoor.D2
open Go.RowKit Go.Maps Go.Proofs.YtlcapkgbbgpdmaaGreatDoor.P Go.Proofs.YtlcapkgbbgpdmaaGreatDoor.A
set_option linter.unusedVariables false
set_option maxRecDepth 100000

def dv (b : UInt8) : Int := if 48 ≤ b.toNat ∧ b.toNat ≤ 57 then (b.toNat : Int) - 48 else if 97 ≤ b.toNat ∧ b.toNat ≤ 102 then (b.toNat : Int) - 87 else -1

theorem dv_hit (b : UInt8) : ∀ k, k < 16 → dg.getD k 0 = (b.toNat : Int) → (.int .i64 (dv b) : Value) = .int .i64 (k : Int) := by
  intro k hk h
  have e : ∀ k, k < 16 → ∀ n : Int, dg.getD k 0 = n → (if 48 ≤ n ∧ n ≤ 57 then n - 48 else if 97 ≤ n ∧ n ≤ 102 then n - 87 else -1) = (k : Int) := by
    intro k hk n hn; subst hn; revert k; decide
  have := e k hk _ h
  unfold dv
  rw [← this]
  congr 1
  repeat' split
  all_goals omega
theorem dv_next {b : Int} {k : Nat} (h : ∀ j, j < k → dg.getD j 0 ≠ b) (hk : dg.getD k 0 ≠ b) : ∀ j, j < k + 1 → dg.getD j 0 ≠ b := by
  intro j hj
  by_cases e : j = k
  · subst e; exact hk
  · exact h j (by omega)
theorem dv_none (b : UInt8) (h : ∀ j, j < 16 → dg.getD j 0 ≠ (b.toNat : Int)) : (.int .i64 (dv b) : Value) = .int .i64 (-1) := by
  have e := fun j hj => h j hj
  have h0 := h 0 (by decide)
  have h1 := h 1 (by decide)
  have h2 := h 2 (by decide)
  have h3 := h 3 (by decide)
  have h4 := h 4 (by decide)
  have h5 := h 5 (by decide)
  have h6 := h 6 (by decide)
  have h7 := h 7 (by decide)
  have h8 := h 8 (by decide)
  have h9 := h 9 (by decide)
  have h10 := h 10 (by decide)
  have h11 := h 11 (by decide)
  have h12 := h 12 (by decide)
  have h13 := h 13 (by decide)
  have h14 := h 14 (by decide)
  have h15 := h 15 (by decide)
  simp only [dg, List.getD_cons_zero, List.getD_cons_succ] at h0 h1 h2 h3 h4 h5 h6 h7 h8 h9 h10 h11 h12 h13 h14 h15
  unfold dv
  rw [if_neg (by omega), if_neg (by omega)]

def tabA : Array Value := #[.int .u8 48, .int .u8 49, .int .u8 50, .int .u8 51, .int .u8 52, .int .u8 53, .int .u8 54, .int .u8 55, .int .u8 56, .int .u8 57, .int .u8 97, .int .u8 98, .int .u8 99, .int .u8 100, .int .u8 101, .int .u8 102]

theorem idx (w : World) (k : Nat) (hk : k < 16) : (Instr.index 159 (.agg tabA) (.int .i64 (k : Int))).run Tryz.prog w = .ok (.int .u8 (dg.getD k 0)) w :=
  match k, hk with
  | 0, _ => by kernel_rfl
  | 1, _ => by kernel_rfl
  | 2, _ => by kernel_rfl
  | 3, _ => by kernel_rfl
  | 4, _ => by kernel_rfl
  | 5, _ => by kernel_rfl
  | 6, _ => by kernel_rfl
  | 7, _ => by kernel_rfl
  | 8, _ => by kernel_rfl
  | 9, _ => by kernel_rfl
  | 10, _ => by kernel_rfl
  | 11, _ => by kernel_rfl
  | 12, _ => by kernel_rfl
  | 13, _ => by kernel_rfl
  | 14, _ => by kernel_rfl
  | 15, _ => by kernel_rfl
  | k + 16, h => absurd h (by omega)

theorem digit_any (b : UInt8) (w : World) (hd : Dig w) :
    Calls Tryz.prog 205 #[bv b] w fun e w' => e = .returned (.int .i64 (dv b)) ∧ w = w' := by
  obtain ⟨_, hd⟩ := hd
  have c0 := hd 0 (by decide)
  have c1 := hd 1 (by decide)
  have c2 := hd 2 (by decide)
  have c3 := hd 3 (by decide)
  have c4 := hd 4 (by decide)
  have c5 := hd 5 (by decide)
  have c6 := hd 6 (by decide)
  have c7 := hd 7 (by decide)
  have c8 := hd 8 (by decide)
  have c9 := hd 9 (by decide)
  have c10 := hd 10 (by decide)
  have c11 := hd 11 (by decide)
  have c12 := hd 12 (by decide)
  have c13 := hd 13 (by decide)
  have c14 := hd 14 (by decide)
  have c15 := hd 15 (by decide)
  clear hd
  simp only [dg, List.getD_cons_zero, List.getD_cons_succ] at c0 c1 c2 c3 c4 c5 c6 c7 c8 c9 c10 c11 c12 c13 c14 c15
  unfold bv
  go_enter Tryz.func205, Tryz.ntmps205
  go_wp2
  clear c0 c1 c2 c3 c4 c5 c6 c7 c8 c9 c10 c11 c12 c13 c14 c15
  have hI := idx w
  generalize hV : Value.agg _ = V
  replace hI : ∀ k : Nat, k < 16 → (Instr.index 159 V (.int .i64 (k : Int))).run Tryz.prog w = .ok (.int .u8 (dg.getD k 0)) w := fun k hk => by rw [← hV]; exact hI k hk
  clear hV
  go_loop [6] (fun t => ∃ k : Nat, k ≤ 16 ∧ (∀ j, j < k → dg.getD j 0 ≠ (b.toNat : Int)) ∧ t = .int .i64 (k : Int)) (fun t => 16 - (intOf t).toNat)
  case atStart => exact ⟨0, by omega, fun j hj => absurd hj (by omega), rfl⟩
  case round =>
    obtain ⟨k, hk, hall, rfl⟩ := hrel
    have HALL := Lib.hid hall
    clear hall
    by_cases hlt : k < 16
    · have hi := hI k hlt
      clear hI
      obtain ⟨c, hc⟩ : ∃ c, Hid (c = dg.getD k 0) := ⟨_, rfl⟩
      rw [← hc.out] at hi
      by_cases he : c = (b.toNat : Int)
      · have hb : (c == (b.toNat : Int)) = true := by rw [beq_iff_eq]; exact he
        have HE := Lib.hid he
        clear he
        go_wp2
        go_ret
        exact ⟨congrArg Ending.returned (dv_hit b k hlt (hc.out.symm.trans HE.out)).symm, rfl⟩
      · have hb : (c == (b.toNat : Int)) = false := by rw [beq_eq_false_iff_ne]; exact he
        have HE := Lib.hid he
        clear he
        go_wp2
        go_round
        case rel => exact ⟨k + 1, by omega, dv_next HALL.out (fun e => HE.out (hc.out.trans e)), by go_num⟩
        case measure => simp [intOf]; omega
    · have : k = 16 := by omega
      subst this
      clear hI
      go_wp2
      go_ret
      exact ⟨congrArg Ending.returned (dv_none b HALL.out).symm, rfl⟩
end Go.Proofs.YtlcapkgbbgpdmaaGreatDoor.D2
