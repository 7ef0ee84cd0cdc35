/- lex: what a source's tokens are: several texts in one. -/
import Derived.Test.YtlcapkgbbgpdmaaGreatDoorTJ

/- Two sources with byte 10 between. Nothing of the program is in sight. -/
namespace Go.Proofs.YtlcapkgbbgpdmaaGreatDoor.TC
open Go.Proofs.YtlcapkgbbgpdmaaGreatDoor.P Go.Proofs.YtlcapkgbbgpdmaaGreatDoor.Q Go.Proofs.YtlcapkgbbgpdmaaGreatDoor.TK Go.Proofs.YtlcapkgbbgpdmaaGreatDoor.TJ

theorem td_cut (u r : List UInt8) : td (u ++ 10 :: r) = td (u ++ [10]) ∧ ((td (u ++ [10])).2 = 0 → 2 ≤ u.length) := by
  have d10 : ¬ dn 10 < 16 := by decide
  match u with
  | [] =>
    have e1 : td [10] = (0, 10) := by simp [td, d10]
    cases r with
    | nil => exact ⟨rfl, fun h => by rw [List.nil_append, e1] at h; simp at h⟩
    | cons b r =>
      refine ⟨?_, fun h => by rw [List.nil_append, e1] at h; simp at h⟩
      show td (10 :: b :: r) = td [10]
      rw [e1]; simp [td, d10]
  | [a] =>
    refine ⟨rfl, fun h => ?_⟩
    have h' : (td [a, 10]).2 = 0 := h
    by_cases ha : dn a < 16 <;> simp [td, ha, d10] at h'
  | a :: b :: u => exact ⟨rfl, fun _ => by simp⟩
theorem bh_cut (u r : List UInt8) : bh (u ++ 10 :: r) = bh (u ++ [10]) ∧ ((bh (u ++ [10])).2.2 = 0 → (bh (u ++ [10])).2.1 ≤ u.length + 1) := by
  match u with
  | [] => exact ⟨rfl, fun h => by simp [bh] at h⟩
  | d :: u =>
    obtain ⟨t1, t2⟩ := td_cut u r
    rw [List.cons_append, List.cons_append, bh_cons, bh_cons, t1]
    refine ⟨rfl, fun h => ?_⟩
    by_cases h1 : d = 120
    · rw [if_pos h1] at h ⊢
      have := t2 h
      simp only [List.length_cons]; omega
    · rw [if_neg h1] at h ⊢
      by_cases h2 : d = 34
      · rw [if_pos h2]; simp
      · rw [if_neg h2] at h ⊢
        by_cases h3 : d = 92
        · rw [if_pos h3]; simp
        · rw [if_neg h3] at h ⊢
          by_cases h4 : d = 110
          · rw [if_pos h4]; simp
          · rw [if_neg h4] at h; simp at h
theorem fs_cut (c : UInt8) (u r : List UInt8) : fs (c :: (u ++ 10 :: r)) = fs (c :: (u ++ [10])) ∧ ((fs (c :: (u ++ [10]))).2.2 = 0 → (fs (c :: (u ++ [10]))).2.1 ≤ u.length + 1) := by
  obtain ⟨t1, t2⟩ := bh_cut u r
  rw [fs_cons, fs_cons, t1]
  refine ⟨rfl, fun h => ?_⟩
  by_cases h1 : c = 92
  · rw [if_pos h1] at h ⊢; exact t2 h
  · rw [if_neg h1] at h ⊢
    by_cases h2 : c = 10
    · rw [if_pos h2] at h; simp at h
    · rw [if_neg h2] at h ⊢
      by_cases h3 : 32 ≤ c.toNat ∧ c.toNat ≤ 126
      · rw [if_pos h3]; simp
      · rw [if_neg h3] at h; simp at h
theorem rl_cons' (f i : Nat) (c : UInt8) (t acc : List UInt8) : rl (f + 1) (c :: t) i acc = if c = 34 then (if acc.length ≤ 60 then (acc, i + 1, 0) else ([], 0, 12)) else
      if (fs (c :: t)).2.2 = 0 then rl f (t.drop ((fs (c :: t)).2.1 - 1)) (i + (fs (c :: t)).2.1) (acc ++ [(fs (c :: t)).1]) else ([], 0, (fs (c :: t)).2.2) := rfl
theorem rl_fuel : ∀ (f g : Nat) (l : List UInt8) (i : Nat) (acc : List UInt8), l.length < f → l.length < g → rl f l i acc = rl g l i acc
  | 0, _, _, _, _, h, _ => by omega
  | f + 1, 0, _, _, _, _, h => by omega
  | f + 1, g + 1, [], _, _, _, _ => rfl
  | f + 1, g + 1, c :: t, i, acc, hf, hg => by
    simp only [List.length_cons] at hf hg
    rw [rl_cons', rl_cons']
    by_cases h1 : c = 34
    · rw [if_pos h1, if_pos h1]
    · rw [if_neg h1, if_neg h1]
      by_cases h2 : (fs (c :: t)).2.2 = 0
      · rw [if_pos h2, if_pos h2]
        exact rl_fuel f g _ _ _ (by simp; omega) (by simp; omega)
      · rw [if_neg h2, if_neg h2]
theorem rl_cut (r : List UInt8) : ∀ (f : Nat) (u : List UInt8) (i : Nat) (acc : List UInt8), rl f (u ++ 10 :: r) i acc = rl f (u ++ [10]) i acc ∧ ((rl f (u ++ [10]) i acc).2.2 = 0 → (rl f (u ++ [10]) i acc).2.1 ≤ i + u.length)
  | 0, u, i, acc => ⟨rfl, fun h => by simp [rl] at h⟩
  | f + 1, [], i, acc => by
    have e : ∀ t : List UInt8, rl (f + 1) (10 :: t) i acc = ([], 0, 11) := fun t => by
      rw [rl_cons', if_neg (by decide)]
      have : (fs (10 :: t)) = (0, 0, 11) := by rw [fs_cons, if_neg (by decide), if_pos rfl]
      rw [this, if_neg (by decide)]
    rw [List.nil_append, List.nil_append, e, e]
    exact ⟨rfl, fun h => by simp at h⟩
  | f + 1, c :: u, i, acc => by
    obtain ⟨t1, t2⟩ := fs_cut c u r
    rw [List.cons_append, List.cons_append, rl_cons', rl_cons', t1]
    by_cases h1 : c = 34
    · rw [if_pos h1, if_pos h1]
      refine ⟨rfl, fun h => ?_⟩
      by_cases ha : acc.length ≤ 60
      · rw [if_pos ha]; simp only [List.length_cons]; omega
      · rw [if_neg ha] at h; simp at h
    · rw [if_neg h1, if_neg h1]
      by_cases h2 : (fs (c :: (u ++ [10]))).2.2 = 0
      · rw [if_pos h2, if_pos h2]
        have hn := t2 h2
        have hp := (fs_ok h2).1
        have ed : ∀ t : List UInt8, (u ++ t).drop ((fs (c :: (u ++ [10]))).2.1 - 1) = u.drop ((fs (c :: (u ++ [10]))).2.1 - 1) ++ t := fun t => List.drop_append_of_le_length (by omega)
        rw [ed, ed]
        obtain ⟨q1, q2⟩ := rl_cut r f (u.drop ((fs (c :: (u ++ [10]))).2.1 - 1)) (i + (fs (c :: (u ++ [10]))).2.1) (acc ++ [(fs (c :: (u ++ [10]))).1])
        refine ⟨q1, fun h => ?_⟩
        have := q2 h
        simp only [List.length_drop, List.length_cons] at this ⊢
        omega
      · rw [if_neg h2, if_neg h2]
        exact ⟨rfl, fun h => absurd h h2⟩
theorem unq_cut (c : UInt8) (u r : List UInt8) : unq (c :: (u ++ 10 :: r)) = unq (c :: (u ++ [10])) ∧ ((unq (c :: (u ++ [10]))).2.2 = 0 → (unq (c :: (u ++ [10]))).2.1 ≤ u.length + 1) := by
  have e : ∀ t, unq (c :: t) = if c = 34 then rl (t.length + 1) t 1 [] else ([], 0, 14) := fun t => rfl
  rw [e, e]
  by_cases h1 : c = 34
  · rw [if_pos h1, if_pos h1]
    have f1 := rl_fuel ((u ++ 10 :: r).length + 1) ((u ++ 10 :: r).length + (u ++ [10]).length + 1) (u ++ 10 :: r) 1 [] (by omega) (by omega)
    have f2 := rl_fuel ((u ++ [10]).length + 1) ((u ++ 10 :: r).length + (u ++ [10]).length + 1) (u ++ [10]) 1 [] (by omega) (by omega)
    obtain ⟨q1, q2⟩ := rl_cut r ((u ++ 10 :: r).length + (u ++ [10]).length + 1) u 1 []
    rw [f1, f2]
    exact ⟨q1, fun h => by have := q2 h; omega⟩
  · rw [if_neg h1, if_neg h1]
    exact ⟨rfl, fun h => by simp at h⟩

theorem takeWhile_stop {p : UInt8 → Bool} (hp : p 10 = false) (u r : List UInt8) : (u ++ 10 :: r).takeWhile p = u.takeWhile p := by
  induction u with
  | nil => rw [List.nil_append, List.takeWhile_cons, hp]; rfl
  | cons c u ih => rw [List.cons_append, List.takeWhile_cons, List.takeWhile_cons, ih]
theorem dropWhile_stop {p : UInt8 → Bool} (hp : p 10 = false) (u r : List UInt8) : (u ++ 10 :: r).dropWhile p = u.dropWhile p ++ 10 :: r := by
  induction u with
  | nil => rw [List.nil_append, List.dropWhile_cons, hp]; rfl
  | cons c u ih =>
    rw [List.cons_append, List.dropWhile_cons, List.dropWhile_cons]
    cases p c
    · rfl
    · exact ih

theorem tk_cut (c : UInt8) (u r : List UInt8) : tk (c :: (u ++ 10 :: r)) = tk (c :: (u ++ [10])) ∧ ((tk (c :: (u ++ [10]))).2.2 = 0 → (tk (c :: (u ++ [10]))).2.1 ≤ u.length + 1) := by
  obtain ⟨t1, t2⟩ := unq_cut c u r
  have dD : ∀ r, (c :: (u ++ 10 :: r)).takeWhile isD = (c :: u).takeWhile isD := fun r => takeWhile_stop (p := isD) (by decide) (c :: u) r
  have dN : ∀ r, (c :: (u ++ 10 :: r)).takeWhile isN = (c :: u).takeWhile isN := fun r => takeWhile_stop (p := isN) (by decide) (c :: u) r
  have hh : ∀ r, ((u ++ 10 :: r).head? = some 62) = ((u ++ [10]).head? = some 62) := fun r => by cases u <;> rfl
  have lD := takeWhile_le isD (c :: u)
  have lN := takeWhile_le isN (c :: u)
  simp only [List.length_cons] at lD lN
  rw [tk_cons, tk_cons, dD, dD, dN, dN, t1]
  simp only [hh r]
  refine ⟨trivial, fun h => ?_⟩
  by_cases h1 : isD c = true
  · rw [if_pos h1] at h ⊢
    by_cases h2 : val ((c :: u).takeWhile isD) ≤ 4611686018427387903
    · rw [if_pos h2]; exact lD
    · rw [if_neg h2] at h; simp at h
  · rw [if_neg h1] at h ⊢
    by_cases h3 : c = 34
    · rw [if_pos h3] at h ⊢; exact t2 h
    · rw [if_neg h3] at h ⊢
      by_cases h4 : (isS c || isL c) = true
      · rw [if_pos h4] at h ⊢
        by_cases h5 : ((c :: u).takeWhile isN).length ≤ 16
        · rw [if_pos h5]; exact lN
        · rw [if_neg h5] at h; simp at h
      · rw [if_neg h4] at h ⊢
        by_cases h6 : c = 45 ∧ (u ++ [10]).head? = some 62
        · rw [if_pos h6]
          obtain ⟨_, h7⟩ := h6
          cases u with
          | nil => simp at h7
          | cons d u => simp
        · rw [if_neg h6] at h ⊢
          by_cases h8 : c ∈ signs
          · rw [if_pos h8]; simp
          · rw [if_neg h8] at h; simp at h

/-- What stands behind: the tokens of the first, without its end, and those of the other. -/
theorem run_join (r : List UInt8) : ∀ (f g : Nat) (s : List UInt8) (i : Nat) (ts : List Tok), run f (s ++ [10]) i = .ok ts → s.length + r.length + 1 < g →
    run g (s ++ 10 :: r) i = (match run (r.length + 1) r (i + (s.length + 1)) with | .ok us => .ok (ts.dropLast ++ us) | .error e => .error e)
  | 0, g, s, i, ts, h, _ => by simp [run] at h
  | f + 1, 0, s, i, ts, _, hg => by omega
  | f + 1, g + 1, [], i, ts, h, hg => by
    have e1 : run (f + 1) [10] i = run f [] (i + 1) := by rw [run_cons, if_pos (by decide)]
    have e2 : run (g + 1) (10 :: r) i = run g r (i + 1) := by rw [run_cons, if_pos (by decide)]
    rw [List.nil_append] at h ⊢
    rw [e1] at h
    rw [e2, run_fuel g (r.length + 1) r _ (by simp at hg; omega) (by omega)]
    cases f with
    | zero => simp [run] at h
    | succ f =>
      have : ts = [⟨0, [], 0, i + 1⟩] := by injection h with h; exact h.symm
      subst this
      show _ = match run (r.length + 1) r (i + (0 + 1)) with | .ok us => _ | .error e => _
      rw [show i + (0 + 1) = i + 1 from by omega]
      cases run (r.length + 1) r (i + 1) <;> rfl
  | f + 1, g + 1, c :: s, i, ts, h, hg => by
    simp only [List.length_cons] at hg ⊢
    rw [List.cons_append, run_cons] at h
    rw [List.cons_append, run_cons]
    by_cases h1 : bl c = true
    · rw [if_pos h1] at h ⊢
      rw [run_join r f g s (i + 1) ts h (by omega), show i + 1 + (s.length + 1) = i + (s.length + 1 + 1) from by omega]
    · rw [if_neg h1] at h ⊢
      by_cases h2 : c = 35
      · rw [if_pos h2] at h ⊢
        have n10 : nb 10 = false := by decide
        rw [dropWhile_stop n10, takeWhile_stop n10] at h ⊢
        have hl := take_drop_len nb s
        rw [run_join r f g (s.dropWhile nb) _ ts h (by omega), show i + (1 + (s.takeWhile nb).length) + ((s.dropWhile nb).length + 1) = i + (s.length + 1 + 1) from by omega]
      · rw [if_neg h2] at h ⊢
        obtain ⟨q1, q2⟩ := tk_cut c s r
        rw [q1]
        by_cases h3 : (tk (c :: (s ++ [10]))).2.2 = 0
        · rw [if_pos h3] at h ⊢
          have hn := q2 h3
          have hp := (tk_len h3).1
          have ed : ∀ t : List UInt8, (s ++ t).drop ((tk (c :: (s ++ [10]))).2.1 - 1) = s.drop ((tk (c :: (s ++ [10]))).2.1 - 1) ++ t := fun t => List.drop_append_of_le_length (by omega)
          rw [ed] at h ⊢
          cases hr : run f (s.drop ((tk (c :: (s ++ [10]))).2.1 - 1) ++ [10]) (i + (tk (c :: (s ++ [10]))).2.1) with
          | error e => rw [hr] at h; cases h
          | ok us =>
            rw [hr] at h
            injection h with h
            subst h
            rw [run_join r f g (s.drop ((tk (c :: (s ++ [10]))).2.1 - 1)) _ us hr (by simp; omega)]
            rw [List.length_drop, show i + (tk (c :: (s ++ [10]))).2.1 + (s.length - ((tk (c :: (s ++ [10]))).2.1 - 1) + 1) = i + (s.length + 1 + 1) from by omega]
            have hne : us ≠ [] := by
              have := run_good f _ _ us hr
              intro e; subst e; exact this
            cases run (r.length + 1) r (i + (s.length + 1 + 1)) with
            | error e => rfl
            | ok vs =>
              cases us with
              | nil => exact absurd rfl hne
              | cons u us => rfl
        · rw [if_neg h3] at h; cases h
end Go.Proofs.YtlcapkgbbgpdmaaGreatDoor.TC

/- Sources of one token, of blanks, of signs. Nothing of the program is in sight. -/
namespace Go.Proofs.YtlcapkgbbgpdmaaGreatDoor.TG
open Go.Proofs.YtlcapkgbbgpdmaaGreatDoor.P Go.Proofs.YtlcapkgbbgpdmaaGreatDoor.Q Go.Proofs.YtlcapkgbbgpdmaaGreatDoor.TK Go.Proofs.YtlcapkgbbgpdmaaGreatDoor.TJ Go.Proofs.YtlcapkgbbgpdmaaGreatDoor.TC

def gaps : List (List UInt8) := [[32], [10], [9, 10, 32], [10, 35, 32, 108, 101, 116, 10], [32, 35, 10]]
theorem run_blank (f : Nat) (c : UInt8) (r : List UInt8) (i : Nat) (h : bl c = true) : run (f + 1) (c :: r) i = run f r (i + 1) := by rw [run_cons, if_pos h]
theorem run_gap (g t : List UInt8) (i : Nat) (hg : g ∈ gaps) : run ((g ++ t).length + 1) (g ++ t) i = run (t.length + 1) t (i + g.length) := by
  have n10 : nb 10 = false := by decide
  simp only [gaps, List.mem_cons, List.not_mem_nil, or_false] at hg
  rcases hg with rfl | rfl | rfl | rfl | rfl
  · exact run_blank _ 32 t i (by decide)
  · exact run_blank _ 10 t i (by decide)
  · show run (t.length + 3 + 1) (9 :: 10 :: 32 :: t) i = _
    rw [run_blank _ _ _ _ (by decide), run_blank _ _ _ _ (by decide), run_blank _ _ _ _ (by decide)]
    exact run_fuel _ _ _ _ (by omega) (by omega)
  · show run (t.length + 7 + 1) (10 :: 35 :: ([32, 108, 101, 116] ++ 10 :: t)) i = _
    rw [run_blank _ _ _ _ (by decide), run_cons, if_neg (by decide), if_pos rfl, dropWhile_stop n10, takeWhile_stop n10]
    show run (t.length + 6) (10 :: t) (i + 1 + (1 + 4)) = _
    rw [run_blank _ _ _ _ (by decide), show i + 1 + (1 + 4) + 1 = i + 7 from by omega]
    exact run_fuel _ _ _ _ (by omega) (by omega)
  · show run (t.length + 3 + 1) (32 :: 35 :: ([] ++ 10 :: t)) i = _
    rw [run_blank _ _ _ _ (by decide), run_cons, if_neg (by decide), if_pos rfl, dropWhile_stop n10, takeWhile_stop n10]
    show run (t.length + 2) (10 :: t) (i + 1 + (1 + 0)) = _
    rw [run_blank _ _ _ _ (by decide), show i + 1 + (1 + 0) + 1 = i + 3 from by omega]
    exact run_fuel _ _ _ _ (by omega) (by omega)

/-- Two sources, with byte 10 and a gap between. -/
theorem joined {s t g : List UInt8} {a b : List Tok} (hg : g ∈ gaps) (hs : run ((s ++ [10]).length + 1) (s ++ [10]) 0 = .ok a) (ht : run (t.length + 1) t 0 = .ok b) :
    run ((s ++ 10 :: (g ++ t)).length + 1) (s ++ 10 :: (g ++ t)) 0 = .ok (a.dropLast ++ b.map (shiftT (s.length + 1 + g.length))) := by
  rw [run_join (g ++ t) _ _ s 0 a hs (by simp <;> omega), run_gap g t _ hg]
  have := run_shift (s.length + 1 + g.length) (t.length + 1) t 0
  rw [show 0 + (s.length + 1) + g.length = 0 + (s.length + 1 + g.length) from by omega, this, ht]

theorem all_take {p : UInt8 → Bool} : ∀ l : List UInt8, (∀ c ∈ l, p c = true) → l.takeWhile p = l
  | [], _ => rfl
  | c :: l, h => by
    rw [List.takeWhile_cons, if_pos (h c (by simp)), all_take l (fun d hd => h d (by simp [hd]))]
theorem one {c : UInt8} {r : List UInt8} (i : Nat) (hb : bl c = false) (h35 : c ≠ 35) {k n : Nat} {x : List UInt8} (h : tk (c :: r) = ((k, x, n), (c :: r).length, 0)) :
    run ((c :: r).length + 1) (c :: r) i = .ok [⟨k, x, n, i⟩, ⟨0, [], 0, i + (c :: r).length⟩] := by
  rw [run_cons, if_neg (by rw [hb]; decide), if_neg h35, h, if_pos rfl]
  simp only [List.length_cons, Nat.add_sub_cancel, List.drop_length]
  rfl
theorem none {c : UInt8} {r : List UInt8} (i : Nat) (hb : bl c = false) (h35 : c ≠ 35) {e : Nat} {x : Nat × List UInt8 × Nat} {m : Nat} (h : tk (c :: r) = (x, m, e)) (he : e ≠ 0) :
    run ((c :: r).length + 1) (c :: r) i = .error (i, e) := by
  rw [run_cons, if_neg (by rw [hb]; decide), if_neg h35, h, if_neg he]

theorem cls {c : UInt8} (h : (isS c || isL c) = true) : bl c = false ∧ c ≠ 35 ∧ isD c = false ∧ c ≠ 34 := by
  have key : ∀ n : Fin 256, (isS (UInt8.ofNat n.val) || isL (UInt8.ofNat n.val)) = true → bl (UInt8.ofNat n.val) = false ∧ UInt8.ofNat n.val ≠ 35 ∧ isD (UInt8.ofNat n.val) = false ∧ UInt8.ofNat n.val ≠ 34 := by decide +kernel
  have := key ⟨c.toNat, c.toNat_lt⟩
  rw [UInt8.ofNat_toNat] at this
  exact this h
theorem clsD {c : UInt8} (h : isD c = true) : bl c = false ∧ c ≠ 35 := by
  have key : ∀ n : Fin 256, isD (UInt8.ofNat n.val) = true → bl (UInt8.ofNat n.val) = false ∧ UInt8.ofNat n.val ≠ 35 := by decide +kernel
  have := key ⟨c.toNat, c.toNat_lt⟩
  rw [UInt8.ofNat_toNat] at this
  exact this h
def kindOf (l : List UInt8) : Nat := match l with
  | [] => 3
  | c :: r => if isL c = true then 4 else if isKey (c :: r) = true then 6 else 3
theorem toks_nil : toks [] = ([⟨0, [], 0, 0⟩], 0, 0) := rfl
theorem toks_name {c : UInt8} {r : List UInt8} (hc : (isS c || isL c) = true) (hr : ∀ d ∈ r, isN d = true) (hl : (c :: r).length ≤ 2000) :
    toks (c :: r) = if (c :: r).length ≤ 16 then ([⟨kindOf (c :: r), c :: r, 0, 0⟩, ⟨0, [], 0, (c :: r).length⟩], 0, 0) else ([], 0, 12) := by
  obtain ⟨h1, h2, h3, h4⟩ := cls hc
  have ht : (c :: r).takeWhile isN = c :: r := all_take _ (fun d hd => by
    rcases List.mem_cons.1 hd with rfl | hd
    · exact isN_of hc
    · exact hr d hd)
  unfold toks
  rw [if_pos hl]
  by_cases h16 : (c :: r).length ≤ 16
  · rw [if_pos h16]
    have e : tk (c :: r) = ((kindOf (c :: r), c :: r, 0), (c :: r).length, 0) := by
      rw [tk_cons, if_neg (by rw [h3]; decide), if_neg h4, if_pos hc, ht, if_pos h16]; rfl
    rw [one 0 h1 h2 e, Nat.zero_add]
  · rw [if_neg h16]
    have e : tk (c :: r) = ((0, [], 0), 0, 12) := by
      rw [tk_cons, if_neg (by rw [h3]; decide), if_neg h4, if_pos hc, ht, if_neg h16]
    rw [none 0 h1 h2 e (by decide)]
theorem toks_digits {c : UInt8} {r : List UInt8} (hr : ∀ d ∈ c :: r, isD d = true) (hl : (c :: r).length ≤ 2000) :
    toks (c :: r) = if val (c :: r) ≤ 4611686018427387903 then ([⟨1, [], val (c :: r), 0⟩, ⟨0, [], 0, (c :: r).length⟩], 0, 0) else ([], 0, 13) := by
  have hc := hr c (by simp)
  obtain ⟨h1, h2⟩ := clsD hc
  have ht : (c :: r).takeWhile isD = c :: r := all_take _ hr
  unfold toks
  rw [if_pos hl]
  by_cases hv : val (c :: r) ≤ 4611686018427387903
  · rw [if_pos hv]
    have e : tk (c :: r) = ((1, [], val (c :: r)), (c :: r).length, 0) := by rw [tk_cons, if_pos hc, ht, if_pos hv]
    rw [one 0 h1 h2 e, Nat.zero_add]
  · rw [if_neg hv]
    have e : tk (c :: r) = ((0, [], 0), 0, 13) := by rw [tk_cons, if_pos hc, ht, if_neg hv]
    rw [none 0 h1 h2 e (by decide)]

theorem val_fold (l : List UInt8) : ∀ v : Nat, l.foldl (fun v c => 10 * v + (c.toNat - 48)) v = v * 10 ^ l.length + val l := by
  induction l with
  | nil => intro v; simp [val]
  | cons c l ih =>
    intro v
    have e : val (c :: l) = l.foldl (fun v c => 10 * v + (c.toNat - 48)) (c.toNat - 48) := by simp [val]
    rw [e, List.foldl_cons, ih, ih, List.length_cons, Nat.pow_succ, Nat.add_mul]
    rw [Nat.mul_comm 10 v, Nat.mul_assoc, Nat.mul_comm 10 (10 ^ l.length)]
    omega
theorem val_append (a b : List UInt8) : val (a ++ b) = val a * 10 ^ b.length + val b := by
  have := val_fold b (val a)
  rw [← this]
  simp [val, List.foldl_append]
theorem val_noughts (k : Nat) : val (List.replicate k 48) = 0 := by
  induction k with
  | zero => rfl
  | succ k ih =>
    have e : List.replicate (k + 1) (48 : UInt8) = [48] ++ List.replicate k 48 := by simp [List.replicate_succ]
    rw [e, val_append, ih]
    have : val [48] = 0 := by decide
    rw [this]; simp
theorem val_ahead (k : Nat) (l : List UInt8) : val (List.replicate k 48 ++ l) = val l := by rw [val_append, val_noughts]; simp
theorem val_behind (l : List UInt8) (k : Nat) : val (l ++ List.replicate k 48) = val l * 10 ^ k := by rw [val_append, val_noughts]; simp

theorem run_signs : ∀ (n i f : Nat), n < f → ∃ ts, run f (List.replicate n 40) i = .ok ts ∧ ts.length = n + 1
  | 0, i, f, h => by
    obtain ⟨f, rfl⟩ : ∃ g, f = g + 1 := ⟨f - 1, by omega⟩
    exact ⟨_, rfl, rfl⟩
  | n + 1, i, f, h => by
    obtain ⟨f, rfl⟩ : ∃ g, f = g + 1 := ⟨f - 1, by omega⟩
    obtain ⟨ts, h1, h2⟩ := run_signs n (i + 1) f (by omega)
    have e : tk (40 :: List.replicate n 40) = ((5, [40], 0), 1, 0) := by
      rw [tk_cons, if_neg (by decide), if_neg (by decide), if_neg (by decide), if_neg (fun h => absurd h.1 (by decide)), if_pos (by decide)]
    rw [List.replicate_succ, run_cons, if_neg (by decide), if_neg (by decide), e, if_pos rfl]
    simp only [Nat.sub_self, List.drop_zero]
    rw [h1]
    exact ⟨_, rfl, by rw [List.length_cons, h2]⟩
theorem toks_signs (n : Nat) : if n ≤ 2000 then ∃ ts, toks (List.replicate n 40) = (ts, 0, 0) ∧ ts.length = n + 1 else toks (List.replicate n 40) = ([], 0, 12) := by
  have hl : (List.replicate n (40 : UInt8)).length = n := by simp
  by_cases h : n ≤ 2000
  · rw [if_pos h]
    unfold toks
    rw [hl, if_pos h]
    obtain ⟨ts, h1, h2⟩ := run_signs n 0 (n + 1) (by omega)
    rw [h1]
    exact ⟨ts, rfl, h2⟩
  · rw [if_neg h]
    unfold toks
    rw [hl, if_neg h]
end Go.Proofs.YtlcapkgbbgpdmaaGreatDoor.TG

/- Of a source's tokens: where there is an error there is none; where there is none they stand in order. -/
namespace Go.Proofs.YtlcapkgbbgpdmaaGreatDoor.TL
open Go.Proofs.YtlcapkgbbgpdmaaGreatDoor.P Go.Proofs.YtlcapkgbbgpdmaaGreatDoor.Q Go.Proofs.YtlcapkgbbgpdmaaGreatDoor.TK Go.Proofs.YtlcapkgbbgpdmaaGreatDoor.TJ

theorem run_err : ∀ (f : Nat) (l : List UInt8) (i : Nat) (e : Nat × Nat), l.length < f → run f l i = .error e → e.2 ≠ 0
  | 0, _, _, _, h, _ => by omega
  | f + 1, [], i, e, _, h => by simp [run] at h
  | f + 1, c :: r, i, e, hf, h => by
    simp only [List.length_cons] at hf
    rw [run_cons] at h
    by_cases h1 : bl c = true
    · rw [if_pos h1] at h; exact run_err f r _ e (by omega) h
    · rw [if_neg h1] at h
      by_cases h2 : c = 35
      · rw [if_pos h2] at h
        have hl := (List.dropWhile_sublist nb (l := r)).length_le
        exact run_err f _ _ e (by omega) h
      · rw [if_neg h2] at h
        by_cases h3 : (tk (c :: r)).2.2 = 0
        · rw [if_pos h3] at h
          cases hr : run f (r.drop ((tk (c :: r)).2.1 - 1)) (i + (tk (c :: r)).2.1) with
          | ok ts => rw [hr] at h; cases h
          | error d =>
            rw [hr] at h
            have hd := run_err f _ _ d (by simp; omega) hr
            injection h with h
            rw [← h]; exact hd
        · rw [if_neg h3] at h
          injection h with h
          rw [← h]; exact h3
theorem toks_ok {l : List UInt8} (h : (toks l).2.2 = 0) : ∃ ts, toks l = (ts, 0, 0) ∧ l.length ≤ 2000 ∧ run (l.length + 1) l 0 = .ok ts := by
  by_cases hl : l.length ≤ 2000
  · unfold toks at h ⊢
    rw [if_pos hl] at h ⊢
    cases hr : run (l.length + 1) l 0 with
    | ok ts => exact ⟨ts, rfl, hl, rfl⟩
    | error d =>
      rw [hr] at h
      exact absurd h (run_err _ _ _ d (by omega) hr)
  · have e : toks l = ([], 0, 12) := by unfold toks; rw [if_neg hl]
    rw [e] at h; simp at h
theorem toks_bad {l : List UInt8} (h : (toks l).2.2 ≠ 0) : (toks l).1 = [] := by
  by_cases hl : l.length ≤ 2000
  · unfold toks at h ⊢
    rw [if_pos hl] at h ⊢
    cases hr : run (l.length + 1) l 0 with
    | ok ts => rw [hr] at h; exact absurd rfl h
    | error d => rfl
  · unfold toks; rw [if_neg hl]
theorem good_len {hi : Nat} : ∀ {lo : Nat} {ts : List Tok}, TJ.Good lo hi ts → ts.length + lo ≤ hi + 1
  | _, [], h => h.elim
  | lo, [e], h => by have := h.2.2; simp; omega
  | lo, t :: u :: ts, h => by
    have := good_len h.2.2.2
    have := h.2.1
    simp only [List.length_cons] at *
    omega
theorem good_all {hi : Nat} : ∀ {lo : Nat} {ts : List Tok}, TJ.Good lo hi ts → ∀ x ∈ ts, x.p ≤ hi
  | _, [], h => h.elim
  | lo, [e], h => fun x hx => by rw [List.mem_singleton.1 hx, h.2.1]; exact Nat.le_refl _
  | lo, t :: u :: ts, h => fun x hx => by
    rcases List.mem_cons.1 hx with rfl | hx
    · exact Nat.le_of_lt h.2.2.1
    · exact good_all h.2.2.2 x hx
theorem toks_le {l : List UInt8} {ts : List Tok} (h : run (l.length + 1) l 0 = .ok ts) : ∀ x ∈ ts, x.p ≤ l.length := by
  have := good_all (run_good _ _ _ ts h)
  rw [Nat.zero_add] at this
  exact this
theorem toks_len {l : List UInt8} {ts : List Tok} (h : run (l.length + 1) l 0 = .ok ts) : ts.length ≤ l.length + 1 := by
  have := good_len (run_good _ _ _ ts h)
  omega
/-- The tokens of a text that has some: the last one is the end, at the text's length; each behind the one before. -/
theorem toks_good {l : List UInt8} {ts : List Tok} (h : run (l.length + 1) l 0 = .ok ts) : 0 < ts.length ∧ ∀ (j : Nat) (hj : j < ts.length), (ts[j].k = 0 ↔ j + 1 = ts.length) ∧ (ts[j].p = l.length ↔ j + 1 = ts.length) ∧ ∀ (h1 : j + 1 < ts.length), ts[j].p < ts[j + 1].p := by
  have hg := run_good _ _ _ ts h
  rw [Nat.zero_add] at hg
  refine ⟨?_, fun j hj => ?_⟩
  · cases ts with
    | nil => exact hg.elim
    | cons t ts => simp
  · obtain ⟨h1, h2, _, h4⟩ := hg.at j hj
    exact ⟨h1, h2, h4⟩
end Go.Proofs.YtlcapkgbbgpdmaaGreatDoor.TL
