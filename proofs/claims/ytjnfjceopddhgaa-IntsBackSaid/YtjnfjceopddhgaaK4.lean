/- The document's examples hold. -/
import Derived.Test.YtjnfjceopddhgaaK3
namespace Go.Proofs.Ytjnfjceopddhgaa.K4
open Go.ChangeShapes Go.WideShapes Go.ChangeAt Go.RowKit
open Go.Proofs.Ytjnfjceopddhgaa.M Go.Proofs.Ytjnfjceopddhgaa.K1 Go.Proofs.Ytjnfjceopddhgaa.K2 Go.Proofs.Ytjnfjceopddhgaa.K3 Go.Proofs.Ytjnfjceopddhgaa.S
set_option linter.unusedVariables false

theorem ex_add (w : World) : Calls Try.prog 13 #[.string ⟨#[43]⟩, .int .i64 4611686018427387903, .int .i64 1] w fun e w' => e = .returned (.tuple #[.int .i64 (-4611686018427387904), .int .i64 0]) ∧ w = w' :=
  do_add 4611686018427387903 1 w ⟨by omega, by omega⟩ ⟨by omega, by omega⟩
theorem ex_quo (w : World) : Calls Try.prog 13 #[.string ⟨#[47]⟩, .int .i64 (-7), .int .i64 2] w fun e w' => e = .returned (.tuple #[.int .i64 (-3), .int .i64 0]) ∧ w = w' :=
  do_quo (-7) 2 w ⟨by omega, by omega⟩ ⟨by omega, by omega⟩ (by omega)
theorem ex_rem (w : World) : Calls Try.prog 13 #[.string ⟨#[37]⟩, .int .i64 (-7), .int .i64 2] w fun e w' => e = .returned (.tuple #[.int .i64 (-1), .int .i64 0]) ∧ w = w' :=
  do_rem (-7) 2 w ⟨by omega, by omega⟩ ⟨by omega, by omega⟩ (by omega)
theorem ex_tag (w : World) : Calls Try.prog 19 #[.int .i64 3] w fun e w' => e = .returned (.int .i64 7) ∧ w = w' :=
  tag_any 3 w (by omega) (by omega)
theorem ex_point (w : World) : Calls Try.prog 21 #[.int .i64 4] w fun e w' => e = .returned (.int .i64 8) ∧ w = w' :=
  point_yes 4 w (by omega) (by omega)
theorem min_text : showL (w63 (-4611686018427387904)) = [45, 52, 54, 49, 49, 54, 56, 54, 48, 49, 56, 52, 50, 55, 51, 56, 55, 57, 48, 52] := by decide +kernel
theorem ex_show (w : World) : Calls Try.prog 23 #[.int .i64 (-4611686018427387904)] w fun e w' => e = .returned (.string ⟨#[45, 52, 54, 49, 49, 54, 56, 54, 48, 49, 56, 52, 50, 55, 51, 56, 55, 57, 48, 52]⟩) ∧ Below w.heap.size w w' := by
  have h := show_any (-4611686018427387904) w (by omega) (by omega)
  rw [min_text] at h
  exact h

theorem lives (w : World) : Calls Try.prog 15 #[] w fun e w' => e = .returned (.bool true) ∧ Below w.heap.size w w' := by
  go_enter Try.func15, Try.ntmps15
  go_wp2_with fail
  refine (ex_add _).mono ?_
  rintro e w' ⟨rfl, rfl⟩
  go_wp2_with fail
  refine (ex_quo _).mono ?_
  rintro e w' ⟨rfl, rfl⟩
  go_wp2_with fail
  refine (ex_rem _).mono ?_
  rintro e w' ⟨rfl, rfl⟩
  go_wp2_with (first | (go_at_call 19; refine (ex_tag _).mono ?_; rintro e w' ⟨rfl, rfl⟩) | (go_at_call 21; refine (ex_point _).mono ?_; rintro e w' ⟨rfl, rfl⟩) | (go_at_call 23; refine (ex_show _).mono ?_; rintro e w' ⟨rfl, hbel⟩))
  go_ret
  exact ⟨rfl, hbel⟩
end Go.Proofs.Ytjnfjceopddhgaa.K4
