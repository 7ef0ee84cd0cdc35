/- The document's token: signs, digits, names. -/
import Derived.Test.YtaioniaadpgmkaaDoorYW
import Derived.Test.YtaioniaadpgmkaaDoorYE
import Derived.Test.YtaioniaadpgmkaaDoorTR
import Derived.Test.YtaioniaadpgmkaaDoorRU
import Derived.Test.YtaioniaadpgmkaaDoorTG
import Derived.Outline
namespace Go.Proofs.YtaioniaadpgmkaaDoor.YD
open Go.RowKit Go.Proofs.YtaioniaadpgmkaaDoor.P Go.Proofs.YtaioniaadpgmkaaDoor.A Go.Proofs.YtaioniaadpgmkaaDoor.Q Go.Proofs.YtaioniaadpgmkaaDoor.V Go.Proofs.YtaioniaadpgmkaaDoor.TK Go.Proofs.YtaioniaadpgmkaaDoor.YC Go.Proofs.YtaioniaadpgmkaaDoor.YK Go.Proofs.YtaioniaadpgmkaaDoor.YW Go.Proofs.YtaioniaadpgmkaaDoor.YE Go.Proofs.YtaioniaadpgmkaaDoor.RU
set_option linter.unusedVariables false

theorem SG_is : ∃ B : ByteArray, (⟨#[61, 60, 43, 45, 42, 47, 37, 94, 59, 124, 40, 41, 44, 95]⟩ : ByteArray) = B ∧ B.size = 14 ∧ Hid (B.data.toList = signs) := ⟨_, rfl, rfl, rfl⟩
theorem rsign_any (c : UInt8) (w : World) :
    Calls Tryd.prog 36 #[.int .u8 (c.toNat : Int)] w fun e w' => e = .returned (.bool (decide (c ∈ signs))) ∧ w = w' := by
  obtain ⟨x, hx⟩ : ∃ x, Hid (x = decide (c ∈ signs)) := ⟨_, rfl⟩
  rw [← hx.out]
  obtain ⟨B, hB, hBs, HB⟩ := SG_is
  go_enter Tryd.func36, Tryd.ntmps36
  go_wp2
  try rw [hB]
  clear hB
  go_loop [4] (fun v => ∃ k : Nat, k ≤ 14 ∧ v = .int .i64 (k : Int) ∧ Hid (∀ j (h : j < B.size), j < k → B[j] ≠ c)) (fun v => 14 - (intOf v).toNat)
  case atStart => exact ⟨0, Nat.zero_le _, rfl, fun j h hj => absurd hj (Nat.not_lt_zero _)⟩
  case round =>
    obtain ⟨k, hk, rfl, HN⟩ := hrel
    by_cases hlt : k < 14
    · have hkB : k < B.size := by omega
      have hk2 : (k : Int) < 14 := by omega
      by_cases he : B[k] = c
      · have HX : Hid (x = true) := by
          show x = true
          rw [hx.out]
          refine decide_eq_true ?_
          rw [← HB.out, ← he]
          exact List.getElem_mem (l := B.data.toList) (n := k) (by simpa using hkB)
        have t1 : ((B[k].toNat : Int) == (c.toNat : Int)) = true := by rw [he]; simp
        clear he
        go_wp2
        go_ret
        exact ⟨ret_bool (by rw [HX.out]), rfl⟩
      · have t1 : ((B[k].toNat : Int) == (c.toNat : Int)) = false := by
          rw [beq_eq_false_iff_ne]; intro e; exact he (UInt8.toNat_inj.1 (by omega))
        have HN2 : Hid (∀ j (h : j < B.size), j < k + 1 → B[j] ≠ c) := fun j h hj => by
          by_cases e : j = k
          · subst e; exact he
          · exact HN.out j h (by omega)
        clear he
        go_wp2
        go_round
        case rel => exact ⟨k + 1, by omega, by go_num, HN2⟩
        case measure => simp [intOf]; omega
    · have HX : Hid (x = false) := by
        show x = false
        rw [hx.out]
        refine decide_eq_false (fun hm => ?_)
        rw [← HB.out] at hm
        obtain ⟨j, hj, e⟩ := List.getElem_of_mem hm
        have hj' : j < B.size := by simpa using hj
        exact HN.out j hj' (by omega) e
      have hk14 : k = 14 := by omega
      subst hk14
      go_wp2
      go_ret
      exact ⟨ret_bool (by rw [HX.out]), rfl⟩
end Go.Proofs.YtaioniaadpgmkaaDoor.YD
