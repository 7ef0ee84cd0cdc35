/- Which reader a token's first byte asks for. -/
import Derived.Test.YtaioniaadpgmkaaDoorYS
import Derived.Test.YtaioniaadpgmkaaDoorV
namespace Go.Proofs.YtaioniaadpgmkaaDoor.YB
open Go.RowKit Go.Proofs.YtaioniaadpgmkaaDoor.P Go.Proofs.YtaioniaadpgmkaaDoor.A Go.Proofs.YtaioniaadpgmkaaDoor.V Go.Proofs.YtaioniaadpgmkaaDoor.TK Go.Proofs.YtaioniaadpgmkaaDoor.YC Go.Proofs.YtaioniaadpgmkaaDoor.YK Go.Proofs.YtaioniaadpgmkaaDoor.YL Go.Proofs.YtaioniaadpgmkaaDoor.YR Go.Proofs.YtaioniaadpgmkaaDoor.YN Go.Proofs.YtaioniaadpgmkaaDoor.U
set_option linter.unusedVariables false

/-- A method value of the reader at block r. -/
abbrev mval (f : FuncId) (r : Nat) : Value := .func (.func f) #[.pointer (some ⟨r, 0, none⟩)] #[]
theorem begun_digits (w : World) (r : Nat) (b : UInt8) (hD : isD b = true) :
    Calls Tryd.prog 19 #[.pointer (some ⟨r, 0, none⟩), .int .u8 (b.toNat : Int)] w fun e w' => e = .returned (mval 23 r) ∧ w = w' := by
  have c1 := fun W => digit_any b W
  rw [hD] at c1
  clear hD
  go_enter Tryd.func19, Tryd.ntmps19
  go_wp2_with (first | (go_at_call 22; refine (c1 _).mono ?_; rintro e w0 ⟨rfl, rfl⟩))
  go_ret
  exact ⟨rfl, rfl⟩
theorem begun_text (w : World) (r : Nat) (b : UInt8) (hD : isD b = false) (hQ : b = 34) :
    Calls Tryd.prog 19 #[.pointer (some ⟨r, 0, none⟩), .int .u8 (b.toNat : Int)] w fun e w' => e = .returned (mval 24 r) ∧ w = w' := by
  have c1 := fun W => digit_any b W
  rw [hD] at c1
  have t34 : ((b.toNat : Int) == 34) = true := byte_eq (n := 34) (by decide) hQ
  clear hD hQ
  go_enter Tryd.func19, Tryd.ntmps19
  go_wp2_with (first | (go_at_call 22; refine (c1 _).mono ?_; rintro e w0 ⟨rfl, rfl⟩))
  go_ret
  exact ⟨rfl, rfl⟩
theorem begun_name (w : World) (r : Nat) (b : UInt8) (hD : isD b = false) (hQ : b ≠ 34) (hS : isS b = true) :
    Calls Tryd.prog 19 #[.pointer (some ⟨r, 0, none⟩), .int .u8 (b.toNat : Int)] w fun e w' => e = .returned (mval 26 r) ∧ w = w' := by
  have c1 := fun W => digit_any b W
  rw [hD] at c1
  have t34 : ((b.toNat : Int) == 34) = false := byte_ne (n := 34) (by decide) hQ
  have c2 := fun W => small_any b W
  rw [hS] at c2
  clear hD hQ hS
  go_enter Tryd.func19, Tryd.ntmps19
  go_wp2_with (first | (go_at_call 22; refine (c1 _).mono ?_; rintro e w0 ⟨rfl, rfl⟩) | (go_at_call 25; refine (c2 _).mono ?_; rintro e w0 ⟨rfl, rfl⟩))
  go_ret
  exact ⟨rfl, rfl⟩
theorem begun_con (w : World) (r : Nat) (b : UInt8) (hD : isD b = false) (hQ : b ≠ 34) (hS : isS b = false) (hL : isL b = true) :
    Calls Tryd.prog 19 #[.pointer (some ⟨r, 0, none⟩), .int .u8 (b.toNat : Int)] w fun e w' => e = .returned (mval 28 r) ∧ w = w' := by
  have c1 := fun W => digit_any b W
  rw [hD] at c1
  have t34 : ((b.toNat : Int) == 34) = false := byte_ne (n := 34) (by decide) hQ
  have c2 := fun W => small_any b W
  rw [hS] at c2
  have c3 := fun W => capital_any b W
  rw [hL] at c3
  clear hD hQ hS hL
  go_enter Tryd.func19, Tryd.ntmps19
  go_wp2_with (first | (go_at_call 22; refine (c1 _).mono ?_; rintro e w0 ⟨rfl, rfl⟩) | (go_at_call 25; refine (c2 _).mono ?_; rintro e w0 ⟨rfl, rfl⟩) | (go_at_call 27; refine (c3 _).mono ?_; rintro e w0 ⟨rfl, rfl⟩))
  go_ret
  exact ⟨rfl, rfl⟩
theorem begun_sign (w : World) (r : Nat) (b : UInt8) (hD : isD b = false) (hQ : b ≠ 34) (hS : isS b = false) (hL : isL b = false) (hI : b ∈ signs) :
    Calls Tryd.prog 19 #[.pointer (some ⟨r, 0, none⟩), .int .u8 (b.toNat : Int)] w fun e w' => e = .returned (mval 30 r) ∧ w = w' := by
  have c1 := fun W => digit_any b W
  rw [hD] at c1
  have t34 : ((b.toNat : Int) == 34) = false := byte_ne (n := 34) (by decide) hQ
  have c2 := fun W => small_any b W
  rw [hS] at c2
  have c3 := fun W => capital_any b W
  rw [hL] at c3
  have c4 := fun W => index_any ⟨#[61, 60, 43, 45, 42, 47, 37, 94, 59, 124, 40, 41, 44, 95]⟩ b W
  obtain ⟨x, hx⟩ : ∃ x, Lib.indexByte (⟨#[61, 60, 43, 45, 42, 47, 37, 94, 59, 124, 40, 41, 44, 95]⟩ : ByteArray).data.toList b = x := ⟨_, rfl⟩
  have hx0 : 0 ≤ x := by rw [← hx]; exact index_yes hI
  rw [hx] at c4
  clear hx
  clear hD hQ hS hL hI
  go_enter Tryd.func19, Tryd.ntmps19
  go_wp2_with (first | (go_at_call 22; refine (c1 _).mono ?_; rintro e w0 ⟨rfl, rfl⟩) | (go_at_call 25; refine (c2 _).mono ?_; rintro e w0 ⟨rfl, rfl⟩) | (go_at_call 27; refine (c3 _).mono ?_; rintro e w0 ⟨rfl, rfl⟩) | (go_at_call 29; refine (c4 _).mono ?_; rintro e w0 ⟨rfl, rfl⟩))
  go_ret
  exact ⟨rfl, rfl⟩
theorem begun_nothing (w : World) (r : Nat) (b : UInt8) (hD : isD b = false) (hQ : b ≠ 34) (hS : isS b = false) (hL : isL b = false) (hI : b ∉ signs) :
    Calls Tryd.prog 19 #[.pointer (some ⟨r, 0, none⟩), .int .u8 (b.toNat : Int)] w fun e w' => e = .returned (mval 31 r) ∧ w = w' := by
  have c1 := fun W => digit_any b W
  rw [hD] at c1
  have t34 : ((b.toNat : Int) == 34) = false := byte_ne (n := 34) (by decide) hQ
  have c2 := fun W => small_any b W
  rw [hS] at c2
  have c3 := fun W => capital_any b W
  rw [hL] at c3
  have c4 := fun W => index_any ⟨#[61, 60, 43, 45, 42, 47, 37, 94, 59, 124, 40, 41, 44, 95]⟩ b W
  have hx : Lib.indexByte (⟨#[61, 60, 43, 45, 42, 47, 37, 94, 59, 124, 40, 41, 44, 95]⟩ : ByteArray).data.toList b = -1 := index_no hI
  rw [hx] at c4
  clear hx
  clear hD hQ hS hL hI
  go_enter Tryd.func19, Tryd.ntmps19
  go_wp2_with (first | (go_at_call 22; refine (c1 _).mono ?_; rintro e w0 ⟨rfl, rfl⟩) | (go_at_call 25; refine (c2 _).mono ?_; rintro e w0 ⟨rfl, rfl⟩) | (go_at_call 27; refine (c3 _).mono ?_; rintro e w0 ⟨rfl, rfl⟩) | (go_at_call 29; refine (c4 _).mono ?_; rintro e w0 ⟨rfl, rfl⟩))
  go_ret
  exact ⟨rfl, rfl⟩
end Go.Proofs.YtaioniaadpgmkaaDoor.YB
