/- Of a source's tokens: where there is an error there is none; where there is none they stand in order. -/
import Derived.Test.YtaioniaadpgmkaaDoorTG
namespace Go.Proofs.YtaioniaadpgmkaaDoor.TL
open Go.Proofs.YtaioniaadpgmkaaDoor.P Go.Proofs.YtaioniaadpgmkaaDoor.Q Go.Proofs.YtaioniaadpgmkaaDoor.TK Go.Proofs.YtaioniaadpgmkaaDoor.TJ

theorem run_err : ∀ (f : Nat) (l : List UInt8) (i : Nat) (e : Nat × Nat), l.length < f → run f l i = .error e → e.2 ≠ 0
  | 0, _, _, _, h, _ => by omega
  | f + 1, [], i, e, _, h => by simp [run] at h
  | f + 1, c :: r, i, e, hf, h => by
    simp only [List.length_cons] at hf
    rw [run_cons] at h
    by_cases h1 : bl c = true
    · rw [if_pos h1] at h; exact run_err f r _ e (by omega) h
    · rw [if_neg h1] at h
      by_cases h2 : c = 35
      · rw [if_pos h2] at h
        have hl := (List.dropWhile_sublist nb (l := r)).length_le
        exact run_err f _ _ e (by omega) h
      · rw [if_neg h2] at h
        by_cases h3 : (tk (c :: r)).2.2 = 0
        · rw [if_pos h3] at h
          cases hr : run f (r.drop ((tk (c :: r)).2.1 - 1)) (i + (tk (c :: r)).2.1) with
          | ok ts => rw [hr] at h; cases h
          | error d =>
            rw [hr] at h
            have hd := run_err f _ _ d (by simp; omega) hr
            injection h with h
            rw [← h]; exact hd
        · rw [if_neg h3] at h
          injection h with h
          rw [← h]; exact h3
theorem toks_ok {l : List UInt8} (h : (toks l).2.2 = 0) : ∃ ts, toks l = (ts, 0, 0) ∧ l.length ≤ 2000 ∧ run (l.length + 1) l 0 = .ok ts := by
  by_cases hl : l.length ≤ 2000
  · unfold toks at h ⊢
    rw [if_pos hl] at h ⊢
    cases hr : run (l.length + 1) l 0 with
    | ok ts => exact ⟨ts, rfl, hl, rfl⟩
    | error d =>
      rw [hr] at h
      exact absurd h (run_err _ _ _ d (by omega) hr)
  · have e : toks l = ([], 0, 12) := by unfold toks; rw [if_neg hl]
    rw [e] at h; simp at h
theorem toks_bad {l : List UInt8} (h : (toks l).2.2 ≠ 0) : (toks l).1 = [] := by
  by_cases hl : l.length ≤ 2000
  · unfold toks at h ⊢
    rw [if_pos hl] at h ⊢
    cases hr : run (l.length + 1) l 0 with
    | ok ts => rw [hr] at h; exact absurd rfl h
    | error d => rfl
  · unfold toks; rw [if_neg hl]
theorem good_len {hi : Nat} : ∀ {lo : Nat} {ts : List Tok}, TJ.Good lo hi ts → ts.length + lo ≤ hi + 1
  | _, [], h => h.elim
  | lo, [e], h => by have := h.2.2; simp; omega
  | lo, t :: u :: ts, h => by
    have := good_len h.2.2.2
    have := h.2.1
    simp only [List.length_cons] at *
    omega
theorem good_all {hi : Nat} : ∀ {lo : Nat} {ts : List Tok}, TJ.Good lo hi ts → ∀ x ∈ ts, x.p ≤ hi
  | _, [], h => h.elim
  | lo, [e], h => fun x hx => by rw [List.mem_singleton.1 hx, h.2.1]; exact Nat.le_refl _
  | lo, t :: u :: ts, h => fun x hx => by
    rcases List.mem_cons.1 hx with rfl | hx
    · exact Nat.le_of_lt h.2.2.1
    · exact good_all h.2.2.2 x hx
theorem toks_le {l : List UInt8} {ts : List Tok} (h : run (l.length + 1) l 0 = .ok ts) : ∀ x ∈ ts, x.p ≤ l.length := by
  have := good_all (run_good _ _ _ ts h)
  rw [Nat.zero_add] at this
  exact this
theorem toks_len {l : List UInt8} {ts : List Tok} (h : run (l.length + 1) l 0 = .ok ts) : ts.length ≤ l.length + 1 := by
  have := good_len (run_good _ _ _ ts h)
  omega
/-- The tokens of a text that has some: the last one is the end, at the text's length; each behind the one before. -/
theorem toks_good {l : List UInt8} {ts : List Tok} (h : run (l.length + 1) l 0 = .ok ts) : 0 < ts.length ∧ ∀ (j : Nat) (hj : j < ts.length), (ts[j].k = 0 ↔ j + 1 = ts.length) ∧ (ts[j].p = l.length ↔ j + 1 = ts.length) ∧ ∀ (h1 : j + 1 < ts.length), ts[j].p < ts[j + 1].p := by
  have hg := run_good _ _ _ ts h
  rw [Nat.zero_add] at hg
  refine ⟨?_, fun j hj => ?_⟩
  · cases ts with
    | nil => exact hg.elim
    | cons t ts => simp
  · obtain ⟨h1, h2, _, h4⟩ := hg.at j hj
    exact ⟨h1, h2, h4⟩
end Go.Proofs.YtaioniaadpgmkaaDoor.TL
