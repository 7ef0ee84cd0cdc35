/- Digits without the noughts ahead: plainly. -/
import Derived.Test.YtlcapkgbbgpdmaaGreatDoorTK
import Derived.Test.YtlcapkgbbgpdmaaGreatDoorR
import Derived.Test.YtlcapkgbbgpdmaaGreatDoorYL
namespace Go.Proofs.YtlcapkgbbgpdmaaGreatDoor.TR
open Go.Proofs.YtlcapkgbbgpdmaaGreatDoor.TK Go.Proofs.YtlcapkgbbgpdmaaGreatDoor.YL

theorem isD_same : TK.isD = R.isD := rfl
theorem val_same : TK.val = R.val := rfl
theorem val_tr0 (l : List UInt8) : R.val (tr0 l) = R.val l := by
  induction l with
  | nil => rfl
  | cons c l ih =>
    unfold tr0
    rw [List.dropWhile_cons]
    by_cases h : c = 48
    · rw [if_pos (by simpa [is0] using h)]
      rw [R.val_cons, h]
      show R.val (tr0 l) = _
      rw [ih]
      simp
    · rw [if_neg (by simpa [is0] using h)]
theorem tr0_all {l : List UInt8} (h : l.all R.isD = true) : (tr0 l).all R.isD = true := by
  rw [List.all_eq_true] at h ⊢
  intro x hx
  exact h x (List.dropWhile_sublist _ |>.mem hx)
theorem tr0_head (l : List UInt8) : tr0 l = [] ∨ ∃ c r, tr0 l = c :: r ∧ c ≠ 48 := by
  induction l with
  | nil => exact .inl rfl
  | cons c l ih =>
    unfold tr0 at ih ⊢
    rw [List.dropWhile_cons]
    by_cases h : c = 48
    · rw [if_pos (by simpa [is0] using h)]; exact ih
    · rw [if_neg (by simpa [is0] using h)]; exact .inr ⟨c, l, rfl, h⟩
/-- The digits as the program hands them to be read. -/
def lean (t : List UInt8) : List UInt8 := tr0 (t.take (t.length - 1)) ++ t.drop (t.length - 1)
theorem lean_val (t : List UInt8) : R.val (lean t) = R.val t := by
  unfold lean
  rw [R.val_append, val_tr0, ← R.val_append, List.take_append_drop]
theorem lean_ok {t : List UInt8} (h : t.all R.isD = true) (h0 : 1 ≤ t.length) : R.okD (lean t) = true := by
  have hb : (t.drop (t.length - 1)).length = 1 := by rw [List.length_drop]; omega
  have ha : (lean t).all R.isD = true := by
    unfold lean
    rw [List.all_append, tr0_all, Bool.true_and]
    · rw [List.all_eq_true] at h ⊢; exact fun x hx => h x (List.mem_of_mem_drop hx)
    · rw [List.all_eq_true] at h ⊢; exact fun x hx => h x (List.mem_of_mem_take hx)
  unfold R.okD
  rw [ha, Bool.and_true]
  rcases tr0_head (t.take (t.length - 1)) with e | ⟨c, r, e, hc⟩
  · have hl : (lean t).length = 1 := by unfold lean; rw [e]; simpa using hb
    cases hq : lean t with
    | nil => rw [hq] at hl; simp at hl
    | cons x y => rw [hq] at hl; simp at hl; subst hl; simp
  · have hl : lean t = c :: (r ++ t.drop (t.length - 1)) := by unfold lean; rw [e]; rfl
    rw [hl]
    simp [hc]
theorem lean_read {t : List UInt8} (h : t.all R.isD = true) (h0 : 1 ≤ t.length) : R.readL (lean t) = if R.val t ≤ 4611686018427387903 then ((R.val t : Int), 0) else (0, 13) := by
  have ok := lean_ok h h0
  have hd : (lean t).head? ≠ some 45 := by
    intro e
    have ha : (lean t).all R.isD = true := by unfold R.okD at ok; rw [Bool.and_eq_true] at ok; exact ok.2
    cases hq : lean t with
    | nil => rw [hq] at e; simp at e
    | cons x y =>
      rw [hq] at e ha
      simp at e
      subst e
      rw [List.all_cons] at ha
      have : R.isD 45 = false := by decide
      rw [this] at ha
      simp at ha
  have e1 : R.readL (lean t) = R.readD false (lean t) := by unfold R.readL; rw [if_neg hd]
  rw [e1]
  unfold R.readD
  rw [if_neg, if_neg (by decide), lean_val]
  rintro (c | ⟨c, _⟩)
  · rw [ok] at c; exact absurd c (by decide)
  · exact absurd c (by decide)
end Go.Proofs.YtlcapkgbbgpdmaaGreatDoor.TR
