/- What follows of a source's tokens: the measure does not matter, places shift, tokens stand in order, two sources together. Nothing of the program is in sight. -/
import Derived.Test.YtlcapkgbbgpdmaaGreatDoorTK
namespace Go.Proofs.YtlcapkgbbgpdmaaGreatDoor.TJ
open Go.Proofs.YtlcapkgbbgpdmaaGreatDoor.P Go.Proofs.YtlcapkgbbgpdmaaGreatDoor.Q Go.Proofs.YtlcapkgbbgpdmaaGreatDoor.TK

theorem dropWhile_le {α : Type} (p : α → Bool) : ∀ l : List α, (l.dropWhile p).length ≤ l.length
  | [] => by simp
  | c :: t => by
    rw [List.dropWhile_cons]
    split
    · have := dropWhile_le p t; simp only [List.length_cons]; omega
    · simp
theorem take_drop_len {α : Type} (p : α → Bool) : ∀ l : List α, (l.takeWhile p).length + (l.dropWhile p).length = l.length
  | [] => by simp
  | c :: t => by
    rw [List.dropWhile_cons, List.takeWhile_cons]
    split
    · have := take_drop_len p t; simp only [List.length_cons]; omega
    · simp

/-- Any measure that is great enough. -/
theorem run_fuel : ∀ (f g : Nat) (l : List UInt8) (i : Nat), l.length < f → l.length < g → run f l i = run g l i
  | 0, _, l, i, h, _ => by omega
  | f + 1, 0, l, i, _, h => by omega
  | f + 1, g + 1, [], i, _, _ => rfl
  | f + 1, g + 1, c :: r, i, hf, hg => by
    simp only [List.length_cons] at hf hg
    rw [run_cons, run_cons]
    by_cases h1 : bl c = true
    · rw [if_pos h1, if_pos h1]; exact run_fuel f g r _ (by omega) (by omega)
    · rw [if_neg h1, if_neg h1]
      by_cases h2 : c = 35
      · rw [if_pos h2, if_pos h2]
        have := dropWhile_le nb r
        exact run_fuel f g _ _ (by omega) (by omega)
      · rw [if_neg h2, if_neg h2]
        by_cases h3 : (tk (c :: r)).2.2 = 0
        · rw [if_pos h3, if_pos h3, run_fuel f g _ _ (by simp; omega) (by simp; omega)]
        · rw [if_neg h3, if_neg h3]

def shiftT (d : Nat) (x : Tok) : Tok := ⟨x.k, x.t, x.n, x.p + d⟩
theorem run_shift (d : Nat) : ∀ (f : Nat) (l : List UInt8) (i : Nat), run f l (i + d) = (match run f l i with | .ok ts => .ok (ts.map (shiftT d)) | .error e => .error (e.1 + d, e.2))
  | 0, l, i => rfl
  | f + 1, [], i => rfl
  | f + 1, c :: r, i => by
    rw [run_cons, run_cons]
    by_cases h1 : bl c = true
    · rw [if_pos h1, if_pos h1, show i + d + 1 = i + 1 + d from by omega]; exact run_shift d f r _
    · rw [if_neg h1, if_neg h1]
      by_cases h2 : c = 35
      · rw [if_pos h2, if_pos h2]
        rw [show ∀ x, i + d + x = i + x + d from fun x => by omega]
        exact run_shift d f _ _
      · rw [if_neg h2, if_neg h2]
        by_cases h3 : (tk (c :: r)).2.2 = 0
        · rw [if_pos h3, if_pos h3]
          rw [show ∀ x, i + d + x = i + x + d from fun x => by omega]
          rw [run_shift d f]
          cases run f (r.drop ((tk (c :: r)).2.1 - 1)) (i + (tk (c :: r)).2.1) with
          | ok ts => rfl
          | error e => rfl
        · rw [if_neg h3, if_neg h3]

/-- Tokens one behind the other, the end behind all. -/
def Good (lo hi : Nat) : List Tok → Prop
  | [] => False
  | [e] => e.k = 0 ∧ e.p = hi ∧ lo ≤ hi
  | t :: u :: ts => t.k ≠ 0 ∧ lo ≤ t.p ∧ t.p < hi ∧ Good (t.p + 1) hi (u :: ts)
theorem Good.mono {lo lo' hi : Nat} {ts : List Tok} (h : Good lo hi ts) (hl : lo' ≤ lo) : Good lo' hi ts := by
  match ts, h with
  | [e], ⟨h1, h2, h3⟩ => exact ⟨h1, h2, by omega⟩
  | t :: u :: ts, ⟨h1, h2, h3, h4⟩ => exact ⟨h1, by omega, h3, h4⟩
theorem Good.cons {lo hi : Nat} {t : Tok} {ts : List Tok} (hk : t.k ≠ 0) (hl : lo ≤ t.p) (hh : t.p < hi) (h : Good (t.p + 1) hi ts) : Good lo hi (t :: ts) := by
  match ts, h with
  | [e], h => exact ⟨hk, hl, hh, h⟩
  | u :: v :: ts, h => exact ⟨hk, hl, hh, h⟩
theorem run_good : ∀ (f : Nat) (l : List UInt8) (i : Nat) (ts : List Tok), run f l i = .ok ts → Good i (i + l.length) ts
  | 0, l, i, ts, h => by simp [run] at h
  | f + 1, [], i, ts, h => by
    have e : ts = [⟨0, [], 0, i⟩] := by injection h with h; exact h.symm
    subst e
    exact ⟨rfl, rfl, by simp⟩
  | f + 1, c :: r, i, ts, h => by
    rw [run_cons] at h
    simp only [List.length_cons]
    by_cases h1 : bl c = true
    · rw [if_pos h1] at h
      have := run_good f r (i + 1) ts h
      rw [show i + (r.length + 1) = i + 1 + r.length from by omega]
      exact this.mono (by omega)
    · rw [if_neg h1] at h
      by_cases h2 : c = 35
      · rw [if_pos h2] at h
        have := run_good f _ _ ts h
        have hl := take_drop_len nb r
        rw [show i + (r.length + 1) = i + (1 + (r.takeWhile nb).length) + (r.dropWhile nb).length from by omega]
        exact this.mono (by omega)
      · rw [if_neg h2] at h
        by_cases h3 : (tk (c :: r)).2.2 = 0
        · rw [if_pos h3] at h
          obtain ⟨k1, k2, k3⟩ := tk_len h3
          simp only [List.length_cons] at k2
          cases hr : run f (r.drop ((tk (c :: r)).2.1 - 1)) (i + (tk (c :: r)).2.1) with
          | error e => rw [hr] at h; cases h
          | ok us =>
            rw [hr] at h
            injection h with h
            subst h
            have := run_good f _ _ us hr
            rw [List.length_drop, show i + (tk (c :: r)).2.1 + (r.length - ((tk (c :: r)).2.1 - 1)) = i + (r.length + 1) from by omega] at this
            exact Good.cons k3 (Nat.le_refl _) (show i < i + (r.length + 1) by omega) (this.mono (show i + 1 ≤ _ by omega))
        · rw [if_neg h3] at h; cases h
/-- The same, place by place. -/
theorem Good.at {hi : Nat} : ∀ {lo : Nat} {ts : List Tok}, Good lo hi ts → ∀ (j : Nat) (h : j < ts.length), (ts[j].k = 0 ↔ j + 1 = ts.length) ∧ (ts[j].p = hi ↔ j + 1 = ts.length) ∧ lo ≤ ts[j].p ∧ ∀ (h1 : j + 1 < ts.length), ts[j].p < ts[j + 1].p := by
  intro lo ts
  induction ts generalizing lo with
  | nil => intro h; exact absurd h (by simp [Good])
  | cons t ts ih =>
    intro h j hj
    cases ts with
    | nil =>
      obtain ⟨h1, h2, h3⟩ := h
      obtain rfl : j = 0 := by simp at hj; omega
      refine ⟨⟨fun _ => rfl, fun _ => h1⟩, ⟨fun _ => rfl, fun _ => h2⟩, ?_, fun h => by simp at h⟩
      show lo ≤ t.p
      omega
    | cons u us =>
      obtain ⟨h1, h2, h3, h4⟩ := h
      rcases j with _ | j
      · refine ⟨⟨fun e => absurd e h1, fun e => by simp at e⟩, ⟨fun e => ?_, fun e => by simp at e⟩, h2, fun h => ?_⟩
        · have e' : t.p = hi := e
          omega
        · have := (ih h4 0 (by simp)).2.2.1
          have e : (u :: us)[0] = u := rfl
          rw [e] at this
          show t.p < u.p
          omega
      · obtain ⟨i1, i2, i3, i4⟩ := ih h4 j (by simpa using hj)
        refine ⟨?_, ?_, ?_, fun h => ?_⟩
        · rw [List.getElem_cons_succ, i1]; simp
        · rw [List.getElem_cons_succ, i2]; simp
        · rw [List.getElem_cons_succ]; omega
        · have := i4 (by simpa using h)
          simpa using this
end Go.Proofs.YtlcapkgbbgpdmaaGreatDoor.TJ
