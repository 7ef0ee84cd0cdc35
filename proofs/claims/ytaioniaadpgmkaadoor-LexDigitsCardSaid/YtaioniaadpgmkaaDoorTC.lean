/- Two sources with byte 10 between. Nothing of the program is in sight. -/
import Derived.Test.YtaioniaadpgmkaaDoorTJ
namespace Go.Proofs.YtaioniaadpgmkaaDoor.TC
open Go.Proofs.YtaioniaadpgmkaaDoor.P Go.Proofs.YtaioniaadpgmkaaDoor.Q Go.Proofs.YtaioniaadpgmkaaDoor.TK Go.Proofs.YtaioniaadpgmkaaDoor.TJ

theorem td_cut (u r : List UInt8) : td (u ++ 10 :: r) = td (u ++ [10]) ∧ ((td (u ++ [10])).2 = 0 → 2 ≤ u.length) := by
  have d10 : ¬ dn 10 < 16 := by decide
  match u with
  | [] =>
    have e1 : td [10] = (0, 10) := by simp [td, d10]
    cases r with
    | nil => exact ⟨rfl, fun h => by rw [List.nil_append, e1] at h; simp at h⟩
    | cons b r =>
      refine ⟨?_, fun h => by rw [List.nil_append, e1] at h; simp at h⟩
      show td (10 :: b :: r) = td [10]
      rw [e1]; simp [td, d10]
  | [a] =>
    refine ⟨rfl, fun h => ?_⟩
    have h' : (td [a, 10]).2 = 0 := h
    by_cases ha : dn a < 16 <;> simp [td, ha, d10] at h'
  | a :: b :: u => exact ⟨rfl, fun _ => by simp⟩
theorem bh_cut (u r : List UInt8) : bh (u ++ 10 :: r) = bh (u ++ [10]) ∧ ((bh (u ++ [10])).2.2 = 0 → (bh (u ++ [10])).2.1 ≤ u.length + 1) := by
  match u with
  | [] => exact ⟨rfl, fun h => by simp [bh] at h⟩
  | d :: u =>
    obtain ⟨t1, t2⟩ := td_cut u r
    rw [List.cons_append, List.cons_append, bh_cons, bh_cons, t1]
    refine ⟨rfl, fun h => ?_⟩
    by_cases h1 : d = 120
    · rw [if_pos h1] at h ⊢
      have := t2 h
      simp only [List.length_cons]; omega
    · rw [if_neg h1] at h ⊢
      by_cases h2 : d = 34
      · rw [if_pos h2]; simp
      · rw [if_neg h2] at h ⊢
        by_cases h3 : d = 92
        · rw [if_pos h3]; simp
        · rw [if_neg h3] at h ⊢
          by_cases h4 : d = 110
          · rw [if_pos h4]; simp
          · rw [if_neg h4] at h; simp at h
theorem fs_cut (c : UInt8) (u r : List UInt8) : fs (c :: (u ++ 10 :: r)) = fs (c :: (u ++ [10])) ∧ ((fs (c :: (u ++ [10]))).2.2 = 0 → (fs (c :: (u ++ [10]))).2.1 ≤ u.length + 1) := by
  obtain ⟨t1, t2⟩ := bh_cut u r
  rw [fs_cons, fs_cons, t1]
  refine ⟨rfl, fun h => ?_⟩
  by_cases h1 : c = 92
  · rw [if_pos h1] at h ⊢; exact t2 h
  · rw [if_neg h1] at h ⊢
    by_cases h2 : c = 10
    · rw [if_pos h2] at h; simp at h
    · rw [if_neg h2] at h ⊢
      by_cases h3 : 32 ≤ c.toNat ∧ c.toNat ≤ 126
      · rw [if_pos h3]; simp
      · rw [if_neg h3] at h; simp at h
theorem rl_cons' (f i : Nat) (c : UInt8) (t acc : List UInt8) : rl (f + 1) (c :: t) i acc = if c = 34 then (if acc.length ≤ 60 then (acc, i + 1, 0) else ([], 0, 12)) else
      if (fs (c :: t)).2.2 = 0 then rl f (t.drop ((fs (c :: t)).2.1 - 1)) (i + (fs (c :: t)).2.1) (acc ++ [(fs (c :: t)).1]) else ([], 0, (fs (c :: t)).2.2) := rfl
theorem rl_fuel : ∀ (f g : Nat) (l : List UInt8) (i : Nat) (acc : List UInt8), l.length < f → l.length < g → rl f l i acc = rl g l i acc
  | 0, _, _, _, _, h, _ => by omega
  | f + 1, 0, _, _, _, _, h => by omega
  | f + 1, g + 1, [], _, _, _, _ => rfl
  | f + 1, g + 1, c :: t, i, acc, hf, hg => by
    simp only [List.length_cons] at hf hg
    rw [rl_cons', rl_cons']
    by_cases h1 : c = 34
    · rw [if_pos h1, if_pos h1]
    · rw [if_neg h1, if_neg h1]
      by_cases h2 : (fs (c :: t)).2.2 = 0
      · rw [if_pos h2, if_pos h2]
        exact rl_fuel f g _ _ _ (by simp; omega) (by simp; omega)
      · rw [if_neg h2, if_neg h2]
theorem rl_cut (r : List UInt8) : ∀ (f : Nat) (u : List UInt8) (i : Nat) (acc : List UInt8), rl f (u ++ 10 :: r) i acc = rl f (u ++ [10]) i acc ∧ ((rl f (u ++ [10]) i acc).2.2 = 0 → (rl f (u ++ [10]) i acc).2.1 ≤ i + u.length)
  | 0, u, i, acc => ⟨rfl, fun h => by simp [rl] at h⟩
  | f + 1, [], i, acc => by
    have e : ∀ t : List UInt8, rl (f + 1) (10 :: t) i acc = ([], 0, 11) := fun t => by
      rw [rl_cons', if_neg (by decide)]
      have : (fs (10 :: t)) = (0, 0, 11) := by rw [fs_cons, if_neg (by decide), if_pos rfl]
      rw [this, if_neg (by decide)]
    rw [List.nil_append, List.nil_append, e, e]
    exact ⟨rfl, fun h => by simp at h⟩
  | f + 1, c :: u, i, acc => by
    obtain ⟨t1, t2⟩ := fs_cut c u r
    rw [List.cons_append, List.cons_append, rl_cons', rl_cons', t1]
    by_cases h1 : c = 34
    · rw [if_pos h1, if_pos h1]
      refine ⟨rfl, fun h => ?_⟩
      by_cases ha : acc.length ≤ 60
      · rw [if_pos ha]; simp only [List.length_cons]; omega
      · rw [if_neg ha] at h; simp at h
    · rw [if_neg h1, if_neg h1]
      by_cases h2 : (fs (c :: (u ++ [10]))).2.2 = 0
      · rw [if_pos h2, if_pos h2]
        have hn := t2 h2
        have hp := (fs_ok h2).1
        have ed : ∀ t : List UInt8, (u ++ t).drop ((fs (c :: (u ++ [10]))).2.1 - 1) = u.drop ((fs (c :: (u ++ [10]))).2.1 - 1) ++ t := fun t => List.drop_append_of_le_length (by omega)
        rw [ed, ed]
        obtain ⟨q1, q2⟩ := rl_cut r f (u.drop ((fs (c :: (u ++ [10]))).2.1 - 1)) (i + (fs (c :: (u ++ [10]))).2.1) (acc ++ [(fs (c :: (u ++ [10]))).1])
        refine ⟨q1, fun h => ?_⟩
        have := q2 h
        simp only [List.length_drop, List.length_cons] at this ⊢
        omega
      · rw [if_neg h2, if_neg h2]
        exact ⟨rfl, fun h => absurd h h2⟩
theorem unq_cut (c : UInt8) (u r : List UInt8) : unq (c :: (u ++ 10 :: r)) = unq (c :: (u ++ [10])) ∧ ((unq (c :: (u ++ [10]))).2.2 = 0 → (unq (c :: (u ++ [10]))).2.1 ≤ u.length + 1) := by
  have e : ∀ t, unq (c :: t) = if c = 34 then rl (t.length + 1) t 1 [] else ([], 0, 14) := fun t => rfl
  rw [e, e]
  by_cases h1 : c = 34
  · rw [if_pos h1, if_pos h1]
    have f1 := rl_fuel ((u ++ 10 :: r).length + 1) ((u ++ 10 :: r).length + (u ++ [10]).length + 1) (u ++ 10 :: r) 1 [] (by omega) (by omega)
    have f2 := rl_fuel ((u ++ [10]).length + 1) ((u ++ 10 :: r).length + (u ++ [10]).length + 1) (u ++ [10]) 1 [] (by omega) (by omega)
    obtain ⟨q1, q2⟩ := rl_cut r ((u ++ 10 :: r).length + (u ++ [10]).length + 1) u 1 []
    rw [f1, f2]
    exact ⟨q1, fun h => by have := q2 h; omega⟩
  · rw [if_neg h1, if_neg h1]
    exact ⟨rfl, fun h => by simp at h⟩

theorem takeWhile_stop {p : UInt8 → Bool} (hp : p 10 = false) (u r : List UInt8) : (u ++ 10 :: r).takeWhile p = u.takeWhile p := by
  induction u with
  | nil => rw [List.nil_append, List.takeWhile_cons, hp]; rfl
  | cons c u ih => rw [List.cons_append, List.takeWhile_cons, List.takeWhile_cons, ih]
theorem dropWhile_stop {p : UInt8 → Bool} (hp : p 10 = false) (u r : List UInt8) : (u ++ 10 :: r).dropWhile p = u.dropWhile p ++ 10 :: r := by
  induction u with
  | nil => rw [List.nil_append, List.dropWhile_cons, hp]; rfl
  | cons c u ih =>
    rw [List.cons_append, List.dropWhile_cons, List.dropWhile_cons]
    cases p c
    · rfl
    · exact ih

theorem tk_cut (c : UInt8) (u r : List UInt8) : tk (c :: (u ++ 10 :: r)) = tk (c :: (u ++ [10])) ∧ ((tk (c :: (u ++ [10]))).2.2 = 0 → (tk (c :: (u ++ [10]))).2.1 ≤ u.length + 1) := by
  obtain ⟨t1, t2⟩ := unq_cut c u r
  have dD : ∀ r, (c :: (u ++ 10 :: r)).takeWhile isD = (c :: u).takeWhile isD := fun r => takeWhile_stop (p := isD) (by decide) (c :: u) r
  have dN : ∀ r, (c :: (u ++ 10 :: r)).takeWhile isN = (c :: u).takeWhile isN := fun r => takeWhile_stop (p := isN) (by decide) (c :: u) r
  have hh : ∀ r, ((u ++ 10 :: r).head? = some 62) = ((u ++ [10]).head? = some 62) := fun r => by cases u <;> rfl
  have lD := takeWhile_le isD (c :: u)
  have lN := takeWhile_le isN (c :: u)
  simp only [List.length_cons] at lD lN
  rw [tk_cons, tk_cons, dD, dD, dN, dN, t1]
  simp only [hh r]
  refine ⟨trivial, fun h => ?_⟩
  by_cases h1 : isD c = true
  · rw [if_pos h1] at h ⊢
    by_cases h2 : val ((c :: u).takeWhile isD) ≤ 4611686018427387903
    · rw [if_pos h2]; exact lD
    · rw [if_neg h2] at h; simp at h
  · rw [if_neg h1] at h ⊢
    by_cases h3 : c = 34
    · rw [if_pos h3] at h ⊢; exact t2 h
    · rw [if_neg h3] at h ⊢
      by_cases h4 : (isS c || isL c) = true
      · rw [if_pos h4] at h ⊢
        by_cases h5 : ((c :: u).takeWhile isN).length ≤ 16
        · rw [if_pos h5]; exact lN
        · rw [if_neg h5] at h; simp at h
      · rw [if_neg h4] at h ⊢
        by_cases h6 : c = 45 ∧ (u ++ [10]).head? = some 62
        · rw [if_pos h6]
          obtain ⟨_, h7⟩ := h6
          cases u with
          | nil => simp at h7
          | cons d u => simp
        · rw [if_neg h6] at h ⊢
          by_cases h8 : c ∈ signs
          · rw [if_pos h8]; simp
          · rw [if_neg h8] at h; simp at h

/-- What stands behind: the tokens of the first, without its end, and those of the other. -/
theorem run_join (r : List UInt8) : ∀ (f g : Nat) (s : List UInt8) (i : Nat) (ts : List Tok), run f (s ++ [10]) i = .ok ts → s.length + r.length + 1 < g →
    run g (s ++ 10 :: r) i = (match run (r.length + 1) r (i + (s.length + 1)) with | .ok us => .ok (ts.dropLast ++ us) | .error e => .error e)
  | 0, g, s, i, ts, h, _ => by simp [run] at h
  | f + 1, 0, s, i, ts, _, hg => by omega
  | f + 1, g + 1, [], i, ts, h, hg => by
    have e1 : run (f + 1) [10] i = run f [] (i + 1) := by rw [run_cons, if_pos (by decide)]
    have e2 : run (g + 1) (10 :: r) i = run g r (i + 1) := by rw [run_cons, if_pos (by decide)]
    rw [List.nil_append] at h ⊢
    rw [e1] at h
    rw [e2, run_fuel g (r.length + 1) r _ (by simp at hg; omega) (by omega)]
    cases f with
    | zero => simp [run] at h
    | succ f =>
      have : ts = [⟨0, [], 0, i + 1⟩] := by injection h with h; exact h.symm
      subst this
      show _ = match run (r.length + 1) r (i + (0 + 1)) with | .ok us => _ | .error e => _
      rw [show i + (0 + 1) = i + 1 from by omega]
      cases run (r.length + 1) r (i + 1) <;> rfl
  | f + 1, g + 1, c :: s, i, ts, h, hg => by
    simp only [List.length_cons] at hg ⊢
    rw [List.cons_append, run_cons] at h
    rw [List.cons_append, run_cons]
    by_cases h1 : bl c = true
    · rw [if_pos h1] at h ⊢
      rw [run_join r f g s (i + 1) ts h (by omega), show i + 1 + (s.length + 1) = i + (s.length + 1 + 1) from by omega]
    · rw [if_neg h1] at h ⊢
      by_cases h2 : c = 35
      · rw [if_pos h2] at h ⊢
        have n10 : nb 10 = false := by decide
        rw [dropWhile_stop n10, takeWhile_stop n10] at h ⊢
        have hl := take_drop_len nb s
        rw [run_join r f g (s.dropWhile nb) _ ts h (by omega), show i + (1 + (s.takeWhile nb).length) + ((s.dropWhile nb).length + 1) = i + (s.length + 1 + 1) from by omega]
      · rw [if_neg h2] at h ⊢
        obtain ⟨q1, q2⟩ := tk_cut c s r
        rw [q1]
        by_cases h3 : (tk (c :: (s ++ [10]))).2.2 = 0
        · rw [if_pos h3] at h ⊢
          have hn := q2 h3
          have hp := (tk_len h3).1
          have ed : ∀ t : List UInt8, (s ++ t).drop ((tk (c :: (s ++ [10]))).2.1 - 1) = s.drop ((tk (c :: (s ++ [10]))).2.1 - 1) ++ t := fun t => List.drop_append_of_le_length (by omega)
          rw [ed] at h ⊢
          cases hr : run f (s.drop ((tk (c :: (s ++ [10]))).2.1 - 1) ++ [10]) (i + (tk (c :: (s ++ [10]))).2.1) with
          | error e => rw [hr] at h; cases h
          | ok us =>
            rw [hr] at h
            injection h with h
            subst h
            rw [run_join r f g (s.drop ((tk (c :: (s ++ [10]))).2.1 - 1)) _ us hr (by simp; omega)]
            rw [List.length_drop, show i + (tk (c :: (s ++ [10]))).2.1 + (s.length - ((tk (c :: (s ++ [10]))).2.1 - 1) + 1) = i + (s.length + 1 + 1) from by omega]
            have hne : us ≠ [] := by
              have := run_good f _ _ us hr
              intro e; subst e; exact this
            cases run (r.length + 1) r (i + (s.length + 1 + 1)) with
            | error e => rfl
            | ok vs =>
              cases us with
              | nil => exact absurd rfl hne
              | cons u us => rfl
        · rw [if_neg h3] at h; cases h
end Go.Proofs.YtaioniaadpgmkaaDoor.TC
