/- Kinds of bytes: the program's and the document's answers. -/
import Derived.Test.YtlcapkgbbgpdmaaGreatDoorA
import Derived.Test.YtlcapkgbbgpdmaaGreatDoorTK
import Derived.Lib.Hide
namespace Go.Proofs.YtlcapkgbbgpdmaaGreatDoor.YC
open Go.RowKit Go.Proofs.YtlcapkgbbgpdmaaGreatDoor.P Go.Proofs.YtlcapkgbbgpdmaaGreatDoor.A Go.Proofs.YtlcapkgbbgpdmaaGreatDoor.TK
set_option linter.unusedVariables false
set_option maxRecDepth 100000

theorem ret_bool {a b : Bool} (h : a = b) : Ending.returned (.bool a) = .returned (.bool b) := by rw [h]
theorem dd_true {p q : Prop} [Decidable p] [Decidable q] (hp : p) (hq : q) : (decide p && decide q) = true := by simp [hp, hq]
theorem dd_left {p q : Prop} [Decidable p] [Decidable q] (hp : ¬ p) : (decide p && decide q) = false := by simp [hp]
theorem dd_right {p q : Prop} [Decidable p] [Decidable q] (hq : ¬ q) : (decide p && decide q) = false := by simp [hq]

theorem digit_any (b : UInt8) (w : World) :
    Calls Tryz.prog 87 #[.int .u8 (b.toNat : Int)] w fun e w' => e = .returned (.bool (isD b)) ∧ w = w' := by
  obtain ⟨x, hx⟩ : ∃ x, Hid (x = isD b) := ⟨_, rfl⟩
  rw [← hx.out]
  by_cases h : 48 ≤ b.toNat
  · by_cases h2 : b.toNat ≤ 57
    · have HX : Hid (x = true) := hx.out.trans (dd_true h h2)
      go_enter Tryz.func87, Tryz.ntmps87
      go_wp2
      go_ret
      exact ⟨ret_bool (by rw [HX.out]; simp; omega), rfl⟩
    · have HX : Hid (x = false) := hx.out.trans (dd_right h2)
      go_enter Tryz.func87, Tryz.ntmps87
      go_wp2
      go_ret
      exact ⟨ret_bool (by rw [HX.out]; simp; omega), rfl⟩
  · have HX : Hid (x = false) := hx.out.trans (dd_left h)
    go_enter Tryz.func87, Tryz.ntmps87
    go_wp2
    go_ret
    exact ⟨ret_bool (by rw [HX.out]), rfl⟩

theorem small_any (b : UInt8) (w : World) :
    Calls Tryz.prog 90 #[.int .u8 (b.toNat : Int)] w fun e w' => e = .returned (.bool (isS b)) ∧ w = w' := by
  obtain ⟨x, hx⟩ : ∃ x, Hid (x = isS b) := ⟨_, rfl⟩
  rw [← hx.out]
  by_cases h : 97 ≤ b.toNat
  · by_cases h2 : b.toNat ≤ 122
    · have HX : Hid (x = true) := hx.out.trans (dd_true h h2)
      go_enter Tryz.func90, Tryz.ntmps90
      go_wp2
      go_ret
      exact ⟨ret_bool (by rw [HX.out]; simp; omega), rfl⟩
    · have HX : Hid (x = false) := hx.out.trans (dd_right h2)
      go_enter Tryz.func90, Tryz.ntmps90
      go_wp2
      go_ret
      exact ⟨ret_bool (by rw [HX.out]; simp; omega), rfl⟩
  · have HX : Hid (x = false) := hx.out.trans (dd_left h)
    go_enter Tryz.func90, Tryz.ntmps90
    go_wp2
    go_ret
    exact ⟨ret_bool (by rw [HX.out]), rfl⟩

theorem capital_any (b : UInt8) (w : World) :
    Calls Tryz.prog 92 #[.int .u8 (b.toNat : Int)] w fun e w' => e = .returned (.bool (isL b)) ∧ w = w' := by
  obtain ⟨x, hx⟩ : ∃ x, Hid (x = isL b) := ⟨_, rfl⟩
  rw [← hx.out]
  by_cases h : 65 ≤ b.toNat
  · by_cases h2 : b.toNat ≤ 90
    · have HX : Hid (x = true) := hx.out.trans (dd_true h h2)
      go_enter Tryz.func92, Tryz.ntmps92
      go_wp2
      go_ret
      exact ⟨ret_bool (by rw [HX.out]; simp; omega), rfl⟩
    · have HX : Hid (x = false) := hx.out.trans (dd_right h2)
      go_enter Tryz.func92, Tryz.ntmps92
      go_wp2
      go_ret
      exact ⟨ret_bool (by rw [HX.out]; simp; omega), rfl⟩
  · have HX : Hid (x = false) := hx.out.trans (dd_left h)
    go_enter Tryz.func92, Tryz.ntmps92
    go_wp2
    go_ret
    exact ⟨ret_bool (by rw [HX.out]), rfl⟩

theorem rdigit_any (b : UInt8) (w : World) :
    Calls Tryz.prog 55 #[.int .u8 (b.toNat : Int)] w fun e w' => e = .returned (.bool (isD b)) ∧ w = w' := by
  obtain ⟨x, hx⟩ : ∃ x, Hid (x = isD b) := ⟨_, rfl⟩
  rw [← hx.out]
  by_cases h : 48 ≤ b.toNat
  · by_cases h2 : b.toNat ≤ 57
    · have HX : Hid (x = true) := hx.out.trans (dd_true h h2)
      go_enter Tryz.func55, Tryz.ntmps55
      go_wp2
      go_ret
      exact ⟨ret_bool (by rw [HX.out]; simp; omega), rfl⟩
    · have HX : Hid (x = false) := hx.out.trans (dd_right h2)
      go_enter Tryz.func55, Tryz.ntmps55
      go_wp2
      go_ret
      exact ⟨ret_bool (by rw [HX.out]; simp; omega), rfl⟩
  · have HX : Hid (x = false) := hx.out.trans (dd_left h)
    go_enter Tryz.func55, Tryz.ntmps55
    go_wp2
    go_ret
    exact ⟨ret_bool (by rw [HX.out]), rfl⟩

theorem rsmall_any (b : UInt8) (w : World) :
    Calls Tryz.prog 57 #[.int .u8 (b.toNat : Int)] w fun e w' => e = .returned (.bool (isS b)) ∧ w = w' := by
  obtain ⟨x, hx⟩ : ∃ x, Hid (x = isS b) := ⟨_, rfl⟩
  rw [← hx.out]
  by_cases h : 97 ≤ b.toNat
  · by_cases h2 : b.toNat ≤ 122
    · have HX : Hid (x = true) := hx.out.trans (dd_true h h2)
      go_enter Tryz.func57, Tryz.ntmps57
      go_wp2
      go_ret
      exact ⟨ret_bool (by rw [HX.out]; simp; omega), rfl⟩
    · have HX : Hid (x = false) := hx.out.trans (dd_right h2)
      go_enter Tryz.func57, Tryz.ntmps57
      go_wp2
      go_ret
      exact ⟨ret_bool (by rw [HX.out]; simp; omega), rfl⟩
  · have HX : Hid (x = false) := hx.out.trans (dd_left h)
    go_enter Tryz.func57, Tryz.ntmps57
    go_wp2
    go_ret
    exact ⟨ret_bool (by rw [HX.out]), rfl⟩

theorem rlarge_any (b : UInt8) (w : World) :
    Calls Tryz.prog 58 #[.int .u8 (b.toNat : Int)] w fun e w' => e = .returned (.bool (isL b)) ∧ w = w' := by
  obtain ⟨x, hx⟩ : ∃ x, Hid (x = isL b) := ⟨_, rfl⟩
  rw [← hx.out]
  by_cases h : 65 ≤ b.toNat
  · by_cases h2 : b.toNat ≤ 90
    · have HX : Hid (x = true) := hx.out.trans (dd_true h h2)
      go_enter Tryz.func58, Tryz.ntmps58
      go_wp2
      go_ret
      exact ⟨ret_bool (by rw [HX.out]; simp; omega), rfl⟩
    · have HX : Hid (x = false) := hx.out.trans (dd_right h2)
      go_enter Tryz.func58, Tryz.ntmps58
      go_wp2
      go_ret
      exact ⟨ret_bool (by rw [HX.out]; simp; omega), rfl⟩
  · have HX : Hid (x = false) := hx.out.trans (dd_left h)
    go_enter Tryz.func58, Tryz.ntmps58
    go_wp2
    go_ret
    exact ⟨ret_bool (by rw [HX.out]), rfl⟩

end Go.Proofs.YtlcapkgbbgpdmaaGreatDoor.YC
