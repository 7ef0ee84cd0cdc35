/- Kinds of bytes: the program's and the document's answers. -/
import Derived.Test.YtaioniaadpgmkaaDoorA
import Derived.Test.YtaioniaadpgmkaaDoorTK
import Derived.Lib.Hide
namespace Go.Proofs.YtaioniaadpgmkaaDoor.YC
open Go.RowKit Go.Proofs.YtaioniaadpgmkaaDoor.P Go.Proofs.YtaioniaadpgmkaaDoor.A Go.Proofs.YtaioniaadpgmkaaDoor.TK
set_option linter.unusedVariables false

theorem ret_bool {a b : Bool} (h : a = b) : Ending.returned (.bool a) = .returned (.bool b) := by rw [h]
theorem dd_true {p q : Prop} [Decidable p] [Decidable q] (hp : p) (hq : q) : (decide p && decide q) = true := by simp [hp, hq]
theorem dd_left {p q : Prop} [Decidable p] [Decidable q] (hp : ¬ p) : (decide p && decide q) = false := by simp [hp]
theorem dd_right {p q : Prop} [Decidable p] [Decidable q] (hq : ¬ q) : (decide p && decide q) = false := by simp [hq]

theorem digit_any (b : UInt8) (w : World) :
    Calls Tryd.prog 22 #[.int .u8 (b.toNat : Int)] w fun e w' => e = .returned (.bool (isD b)) ∧ w = w' := by
  obtain ⟨x, hx⟩ : ∃ x, Hid (x = isD b) := ⟨_, rfl⟩
  rw [← hx.out]
  by_cases h : 48 ≤ b.toNat
  · by_cases h2 : b.toNat ≤ 57
    · have HX : Hid (x = true) := hx.out.trans (dd_true h h2)
      go_enter Tryd.func22, Tryd.ntmps22
      go_wp2
      go_ret
      exact ⟨ret_bool (by rw [HX.out]; simp; omega), rfl⟩
    · have HX : Hid (x = false) := hx.out.trans (dd_right h2)
      go_enter Tryd.func22, Tryd.ntmps22
      go_wp2
      go_ret
      exact ⟨ret_bool (by rw [HX.out]; simp; omega), rfl⟩
  · have HX : Hid (x = false) := hx.out.trans (dd_left h)
    go_enter Tryd.func22, Tryd.ntmps22
    go_wp2
    go_ret
    exact ⟨ret_bool (by rw [HX.out]), rfl⟩

theorem small_any (b : UInt8) (w : World) :
    Calls Tryd.prog 25 #[.int .u8 (b.toNat : Int)] w fun e w' => e = .returned (.bool (isS b)) ∧ w = w' := by
  obtain ⟨x, hx⟩ : ∃ x, Hid (x = isS b) := ⟨_, rfl⟩
  rw [← hx.out]
  by_cases h : 97 ≤ b.toNat
  · by_cases h2 : b.toNat ≤ 122
    · have HX : Hid (x = true) := hx.out.trans (dd_true h h2)
      go_enter Tryd.func25, Tryd.ntmps25
      go_wp2
      go_ret
      exact ⟨ret_bool (by rw [HX.out]; simp; omega), rfl⟩
    · have HX : Hid (x = false) := hx.out.trans (dd_right h2)
      go_enter Tryd.func25, Tryd.ntmps25
      go_wp2
      go_ret
      exact ⟨ret_bool (by rw [HX.out]; simp; omega), rfl⟩
  · have HX : Hid (x = false) := hx.out.trans (dd_left h)
    go_enter Tryd.func25, Tryd.ntmps25
    go_wp2
    go_ret
    exact ⟨ret_bool (by rw [HX.out]), rfl⟩

theorem capital_any (b : UInt8) (w : World) :
    Calls Tryd.prog 27 #[.int .u8 (b.toNat : Int)] w fun e w' => e = .returned (.bool (isL b)) ∧ w = w' := by
  obtain ⟨x, hx⟩ : ∃ x, Hid (x = isL b) := ⟨_, rfl⟩
  rw [← hx.out]
  by_cases h : 65 ≤ b.toNat
  · by_cases h2 : b.toNat ≤ 90
    · have HX : Hid (x = true) := hx.out.trans (dd_true h h2)
      go_enter Tryd.func27, Tryd.ntmps27
      go_wp2
      go_ret
      exact ⟨ret_bool (by rw [HX.out]; simp; omega), rfl⟩
    · have HX : Hid (x = false) := hx.out.trans (dd_right h2)
      go_enter Tryd.func27, Tryd.ntmps27
      go_wp2
      go_ret
      exact ⟨ret_bool (by rw [HX.out]; simp; omega), rfl⟩
  · have HX : Hid (x = false) := hx.out.trans (dd_left h)
    go_enter Tryd.func27, Tryd.ntmps27
    go_wp2
    go_ret
    exact ⟨ret_bool (by rw [HX.out]), rfl⟩

theorem rdigit_any (b : UInt8) (w : World) :
    Calls Tryd.prog 32 #[.int .u8 (b.toNat : Int)] w fun e w' => e = .returned (.bool (isD b)) ∧ w = w' := by
  obtain ⟨x, hx⟩ : ∃ x, Hid (x = isD b) := ⟨_, rfl⟩
  rw [← hx.out]
  by_cases h : 48 ≤ b.toNat
  · by_cases h2 : b.toNat ≤ 57
    · have HX : Hid (x = true) := hx.out.trans (dd_true h h2)
      go_enter Tryd.func32, Tryd.ntmps32
      go_wp2
      go_ret
      exact ⟨ret_bool (by rw [HX.out]; simp; omega), rfl⟩
    · have HX : Hid (x = false) := hx.out.trans (dd_right h2)
      go_enter Tryd.func32, Tryd.ntmps32
      go_wp2
      go_ret
      exact ⟨ret_bool (by rw [HX.out]; simp; omega), rfl⟩
  · have HX : Hid (x = false) := hx.out.trans (dd_left h)
    go_enter Tryd.func32, Tryd.ntmps32
    go_wp2
    go_ret
    exact ⟨ret_bool (by rw [HX.out]), rfl⟩

theorem rsmall_any (b : UInt8) (w : World) :
    Calls Tryd.prog 34 #[.int .u8 (b.toNat : Int)] w fun e w' => e = .returned (.bool (isS b)) ∧ w = w' := by
  obtain ⟨x, hx⟩ : ∃ x, Hid (x = isS b) := ⟨_, rfl⟩
  rw [← hx.out]
  by_cases h : 97 ≤ b.toNat
  · by_cases h2 : b.toNat ≤ 122
    · have HX : Hid (x = true) := hx.out.trans (dd_true h h2)
      go_enter Tryd.func34, Tryd.ntmps34
      go_wp2
      go_ret
      exact ⟨ret_bool (by rw [HX.out]; simp; omega), rfl⟩
    · have HX : Hid (x = false) := hx.out.trans (dd_right h2)
      go_enter Tryd.func34, Tryd.ntmps34
      go_wp2
      go_ret
      exact ⟨ret_bool (by rw [HX.out]; simp; omega), rfl⟩
  · have HX : Hid (x = false) := hx.out.trans (dd_left h)
    go_enter Tryd.func34, Tryd.ntmps34
    go_wp2
    go_ret
    exact ⟨ret_bool (by rw [HX.out]), rfl⟩

theorem rlarge_any (b : UInt8) (w : World) :
    Calls Tryd.prog 35 #[.int .u8 (b.toNat : Int)] w fun e w' => e = .returned (.bool (isL b)) ∧ w = w' := by
  obtain ⟨x, hx⟩ : ∃ x, Hid (x = isL b) := ⟨_, rfl⟩
  rw [← hx.out]
  by_cases h : 65 ≤ b.toNat
  · by_cases h2 : b.toNat ≤ 90
    · have HX : Hid (x = true) := hx.out.trans (dd_true h h2)
      go_enter Tryd.func35, Tryd.ntmps35
      go_wp2
      go_ret
      exact ⟨ret_bool (by rw [HX.out]; simp; omega), rfl⟩
    · have HX : Hid (x = false) := hx.out.trans (dd_right h2)
      go_enter Tryd.func35, Tryd.ntmps35
      go_wp2
      go_ret
      exact ⟨ret_bool (by rw [HX.out]; simp; omega), rfl⟩
  · have HX : Hid (x = false) := hx.out.trans (dd_left h)
    go_enter Tryd.func35, Tryd.ntmps35
    go_wp2
    go_ret
    exact ⟨ret_bool (by rw [HX.out]), rfl⟩

end Go.Proofs.YtaioniaadpgmkaaDoor.YC
