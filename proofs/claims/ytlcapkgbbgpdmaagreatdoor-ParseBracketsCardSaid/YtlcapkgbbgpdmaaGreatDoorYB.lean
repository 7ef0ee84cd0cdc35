/- Which reader a token's first byte asks for. -/
import Derived.Test.YtlcapkgbbgpdmaaGreatDoorYS
import Derived.Test.YtlcapkgbbgpdmaaGreatDoorV
namespace Go.Proofs.YtlcapkgbbgpdmaaGreatDoor.YB
open Go.RowKit Go.Proofs.YtlcapkgbbgpdmaaGreatDoor.P Go.Proofs.YtlcapkgbbgpdmaaGreatDoor.A Go.Proofs.YtlcapkgbbgpdmaaGreatDoor.V Go.Proofs.YtlcapkgbbgpdmaaGreatDoor.TK Go.Proofs.YtlcapkgbbgpdmaaGreatDoor.YC Go.Proofs.YtlcapkgbbgpdmaaGreatDoor.YK Go.Proofs.YtlcapkgbbgpdmaaGreatDoor.YL Go.Proofs.YtlcapkgbbgpdmaaGreatDoor.YR Go.Proofs.YtlcapkgbbgpdmaaGreatDoor.YN Go.Proofs.YtlcapkgbbgpdmaaGreatDoor.U
set_option linter.unusedVariables false
set_option maxRecDepth 100000

/-- A method value of the reader at block r. -/
abbrev mval (f : FuncId) (r : Nat) : Value := .func (.func f) #[.pointer (some ⟨r, 0, none⟩)] #[]
theorem begun_digits (w : World) (r : Nat) (b : UInt8) (hD : isD b = true) :
    Calls Tryz.prog 62 #[.pointer (some ⟨r, 0, none⟩), .int .u8 (b.toNat : Int)] w fun e w' => e = .returned (mval 88 r) ∧ w = w' := by
  have c1 := fun W => digit_any b W
  rw [hD] at c1
  clear hD
  go_enter Tryz.func62, Tryz.ntmps62
  go_wp2_with (first | (go_at_call 87; refine (c1 _).mono ?_; rintro e w0 ⟨rfl, rfl⟩))
  go_ret
  exact ⟨rfl, rfl⟩
theorem begun_text (w : World) (r : Nat) (b : UInt8) (hD : isD b = false) (hQ : b = 34) :
    Calls Tryz.prog 62 #[.pointer (some ⟨r, 0, none⟩), .int .u8 (b.toNat : Int)] w fun e w' => e = .returned (mval 89 r) ∧ w = w' := by
  have c1 := fun W => digit_any b W
  rw [hD] at c1
  have t34 : ((b.toNat : Int) == 34) = true := byte_eq (n := 34) (by decide) hQ
  clear hD hQ
  go_enter Tryz.func62, Tryz.ntmps62
  go_wp2_with (first | (go_at_call 87; refine (c1 _).mono ?_; rintro e w0 ⟨rfl, rfl⟩))
  go_ret
  exact ⟨rfl, rfl⟩
theorem begun_name (w : World) (r : Nat) (b : UInt8) (hD : isD b = false) (hQ : b ≠ 34) (hS : isS b = true) :
    Calls Tryz.prog 62 #[.pointer (some ⟨r, 0, none⟩), .int .u8 (b.toNat : Int)] w fun e w' => e = .returned (mval 91 r) ∧ w = w' := by
  have c1 := fun W => digit_any b W
  rw [hD] at c1
  have t34 : ((b.toNat : Int) == 34) = false := byte_ne (n := 34) (by decide) hQ
  have c2 := fun W => small_any b W
  rw [hS] at c2
  clear hD hQ hS
  go_enter Tryz.func62, Tryz.ntmps62
  go_wp2_with (first | (go_at_call 87; refine (c1 _).mono ?_; rintro e w0 ⟨rfl, rfl⟩) | (go_at_call 90; refine (c2 _).mono ?_; rintro e w0 ⟨rfl, rfl⟩))
  go_ret
  exact ⟨rfl, rfl⟩
theorem begun_con (w : World) (r : Nat) (b : UInt8) (hD : isD b = false) (hQ : b ≠ 34) (hS : isS b = false) (hL : isL b = true) :
    Calls Tryz.prog 62 #[.pointer (some ⟨r, 0, none⟩), .int .u8 (b.toNat : Int)] w fun e w' => e = .returned (mval 93 r) ∧ w = w' := by
  have c1 := fun W => digit_any b W
  rw [hD] at c1
  have t34 : ((b.toNat : Int) == 34) = false := byte_ne (n := 34) (by decide) hQ
  have c2 := fun W => small_any b W
  rw [hS] at c2
  have c3 := fun W => capital_any b W
  rw [hL] at c3
  clear hD hQ hS hL
  go_enter Tryz.func62, Tryz.ntmps62
  go_wp2_with (first | (go_at_call 87; refine (c1 _).mono ?_; rintro e w0 ⟨rfl, rfl⟩) | (go_at_call 90; refine (c2 _).mono ?_; rintro e w0 ⟨rfl, rfl⟩) | (go_at_call 92; refine (c3 _).mono ?_; rintro e w0 ⟨rfl, rfl⟩))
  go_ret
  exact ⟨rfl, rfl⟩
theorem begun_sign (w : World) (r : Nat) (b : UInt8) (hD : isD b = false) (hQ : b ≠ 34) (hS : isS b = false) (hL : isL b = false) (hI : b ∈ signs) :
    Calls Tryz.prog 62 #[.pointer (some ⟨r, 0, none⟩), .int .u8 (b.toNat : Int)] w fun e w' => e = .returned (mval 95 r) ∧ w = w' := by
  have c1 := fun W => digit_any b W
  rw [hD] at c1
  have t34 : ((b.toNat : Int) == 34) = false := byte_ne (n := 34) (by decide) hQ
  have c2 := fun W => small_any b W
  rw [hS] at c2
  have c3 := fun W => capital_any b W
  rw [hL] at c3
  have c4 := fun W => index_any ⟨#[61, 60, 43, 45, 42, 47, 37, 94, 59, 124, 40, 41, 44, 95]⟩ b W
  obtain ⟨x, hx⟩ : ∃ x, Lib.indexByte (⟨#[61, 60, 43, 45, 42, 47, 37, 94, 59, 124, 40, 41, 44, 95]⟩ : ByteArray).data.toList b = x := ⟨_, rfl⟩
  have hx0 : 0 ≤ x := by rw [← hx]; exact index_yes hI
  rw [hx] at c4
  clear hx
  clear hD hQ hS hL hI
  go_enter Tryz.func62, Tryz.ntmps62
  go_wp2_with (first | (go_at_call 87; refine (c1 _).mono ?_; rintro e w0 ⟨rfl, rfl⟩) | (go_at_call 90; refine (c2 _).mono ?_; rintro e w0 ⟨rfl, rfl⟩) | (go_at_call 92; refine (c3 _).mono ?_; rintro e w0 ⟨rfl, rfl⟩) | (go_at_call 94; refine (c4 _).mono ?_; rintro e w0 ⟨rfl, rfl⟩))
  go_ret
  exact ⟨rfl, rfl⟩
theorem begun_nothing (w : World) (r : Nat) (b : UInt8) (hD : isD b = false) (hQ : b ≠ 34) (hS : isS b = false) (hL : isL b = false) (hI : b ∉ signs) :
    Calls Tryz.prog 62 #[.pointer (some ⟨r, 0, none⟩), .int .u8 (b.toNat : Int)] w fun e w' => e = .returned (mval 96 r) ∧ w = w' := by
  have c1 := fun W => digit_any b W
  rw [hD] at c1
  have t34 : ((b.toNat : Int) == 34) = false := byte_ne (n := 34) (by decide) hQ
  have c2 := fun W => small_any b W
  rw [hS] at c2
  have c3 := fun W => capital_any b W
  rw [hL] at c3
  have c4 := fun W => index_any ⟨#[61, 60, 43, 45, 42, 47, 37, 94, 59, 124, 40, 41, 44, 95]⟩ b W
  have hx : Lib.indexByte (⟨#[61, 60, 43, 45, 42, 47, 37, 94, 59, 124, 40, 41, 44, 95]⟩ : ByteArray).data.toList b = -1 := index_no hI
  rw [hx] at c4
  clear hx
  clear hD hQ hS hL hI
  go_enter Tryz.func62, Tryz.ntmps62
  go_wp2_with (first | (go_at_call 87; refine (c1 _).mono ?_; rintro e w0 ⟨rfl, rfl⟩) | (go_at_call 90; refine (c2 _).mono ?_; rintro e w0 ⟨rfl, rfl⟩) | (go_at_call 92; refine (c3 _).mono ?_; rintro e w0 ⟨rfl, rfl⟩) | (go_at_call 94; refine (c4 _).mono ?_; rintro e w0 ⟨rfl, rfl⟩))
  go_ret
  exact ⟨rfl, rfl⟩
end Go.Proofs.YtlcapkgbbgpdmaaGreatDoor.YB
