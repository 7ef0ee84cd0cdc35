/- Usefulness reckoned; what Check tells, reckoned. -/
import Derived.Test.YtommaomhiaaphaaCC
namespace Go.Proofs.Ytommaomhiaaphaa.DB
open Go.Proofs.Ytommaomhiaaphaa.CA Go.Proofs.Ytommaomhiaaphaa.CB Go.Proofs.Ytommaomhiaaphaa.CC
set_option linter.unusedVariables false
set_option maxRecDepth 100000

def usB (C : List Cn) : Nat → List Nd → List (List Nd) → Bool
  | 0, _, _ => false
  | n + 1, r, ahead => if ahead.isEmpty then true else if ahead.any allAny then false else (heads C r ahead 0).any fun h => usB C n (rbehind r 0 h) (lbehind ahead 0 h)
theorem usB_ok {C : List Cn} (Sd : Sound C) : ∀ (n : Nat) (G : List Ty) (r : List Nd) (ahead : List (List Nd)), Mx C G r ahead → meas r ahead < n → usB C n r ahead = usefulB C G r ahead
  | 0, _, _, _, _, h => by omega
  | n + 1, G, r, ahead, M, h => by
    unfold usB
    by_cases h0 : ahead = []
    · subst h0
      rw [useful_nil M]; rfl
    · have he : ahead.isEmpty = false := by simpa using h0
      rw [he]
      simp only [Bool.false_eq_true, if_false]
      cases hany : ahead.any allAny with
      | true => rw [useful_all M hany]; rfl
      | false =>
        simp only [Bool.false_eq_true, if_false]
        have hne : r ≠ [] := by
          rintro rfl
          cases ahead with
          | nil => exact h0 rfl
          | cons a l =>
            have : a = [] := List.eq_nil_of_length_eq_zero (by rw [(M.2.1 a List.mem_cons_self).len, ← M.1.len]; rfl)
            subst this
            simp [allAny] at hany
        have hi : 0 < r.length := List.length_pos_iff.2 hne
        have key : ∀ h, h ∈ heads C r ahead 0 → usB C n (rbehind r 0 h) (lbehind ahead 0 h) = usefulB C (tbehind G 0 h) (rbehind r 0 h) (lbehind ahead 0 h) := fun h hh =>
          usB_ok Sd n _ _ _ (Mx.behind Sd M hi hh) (by have := meas_lt Sd M hi hh; omega)
        rw [Bool.eq_iff_iff, List.any_eq_true, usefulB_iff, useful_step Sd M hi]
        constructor
        · rintro ⟨h, hh, hu⟩
          rw [key h hh] at hu
          exact ⟨h, hh, usefulB_iff.1 hu⟩
        · rintro ⟨h, hh, hu⟩
          exact ⟨h, hh, by rw [key h hh]; exact usefulB_iff.2 hu⟩
def us (C : List Cn) (r : List Nd) (ahead : List (List Nd)) : Bool := usB C (meas r ahead + 1) r ahead
theorem us_ok {C : List Cn} (Sd : Sound C) {G : List Ty} {r : List Nd} {ahead : List (List Nd)} (M : Mx C G r ahead) : us C r ahead = true ↔ Useful C G r ahead := by
  unfold us
  rw [usB_ok Sd _ G r ahead M (Nat.lt_succ_self _), usefulB_iff]
/-- The first row that nothing reaches. -/
def firstBad (C : List Cn) : List Nd → List Nd → Nat → Option Nat
  | _, [], _ => none
  | done, p :: rest, i => if us C [p] (done.map fun q => [q]) then firstBad C (done ++ [p]) rest (i + 1) else some i
def chk (C : List Cn) (rows : List Nd) : Int × Int :=
  if mayB C rows then (match firstBad C [] rows 0 with
    | some i => ((i : Int), 27)
    | none => if us C [anyNd] (rows.map fun q => [q]) then (0, 26) else (0, 0))
  else (0, 1)
end Go.Proofs.Ytommaomhiaaphaa.DB
