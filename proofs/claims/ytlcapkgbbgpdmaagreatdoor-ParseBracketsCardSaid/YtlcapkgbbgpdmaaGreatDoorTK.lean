/- A source as tokens, plainly. Nothing of the program is in sight. -/
import Derived.Test.YtlcapkgbbgpdmaaGreatDoorQ
namespace Go.Proofs.YtlcapkgbbgpdmaaGreatDoor.TK
open Go.Proofs.YtlcapkgbbgpdmaaGreatDoor.P Go.Proofs.YtlcapkgbbgpdmaaGreatDoor.Q

def isD (c : UInt8) : Bool := decide (48 ≤ c.toNat) && decide (c.toNat ≤ 57)
def isS (c : UInt8) : Bool := decide (97 ≤ c.toNat) && decide (c.toNat ≤ 122)
def isL (c : UInt8) : Bool := decide (65 ≤ c.toNat) && decide (c.toNat ≤ 90)
def isN (c : UInt8) : Bool := isS c || (isL c || (isD c || decide (c = 95)))
def bl (c : UInt8) : Bool := decide (c = 32) || (decide (c = 9) || decide (c = 10))
def nb (b : UInt8) : Bool := decide (b ≠ 10)
def val (l : List UInt8) : Nat := l.foldl (fun v c => 10 * v + (c.toNat - 48)) 0
def keys : List (List UInt8) := [[108, 101, 116], [114, 101, 99], [105, 110], [102, 117, 110], [105, 102], [116, 104, 101, 110], [101, 108, 115, 101], [109, 97, 116, 99, 104], [119, 105, 116, 104], [101, 110, 100], [116, 114, 121], [112, 114, 105, 110, 116], [114, 97, 105, 115, 101], [115, 112, 97, 119, 110], [97, 116, 111, 109, 105, 99, 97, 108, 108, 121], [114, 101, 116, 114, 121], [111, 114, 101, 108, 115, 101], [116, 118, 97, 114], [114, 101, 97, 100], [119, 114, 105, 116, 101], [116, 121, 112, 101], [111, 102], [100, 111]]
def isKey (l : List UInt8) : Bool := decide (l ∈ keys)
def signs : List UInt8 := [61, 60, 43, 45, 42, 47, 37, 94, 59, 124, 40, 41, 44, 95]

/-- A token: its kind, text, number and place. -/
structure Tok where
  k : Nat
  t : List UInt8
  n : Nat
  p : Nat

/-- The token that a text begins with: kind, text, number; how many bytes it takes; the error. -/
def tk : List UInt8 → (Nat × List UInt8 × Nat) × Nat × Nat
  | [] => ((0, [], 0), 0, 10)
  | c :: r =>
    if isD c = true then
      (if val ((c :: r).takeWhile isD) ≤ 4611686018427387903 then ((1, [], val ((c :: r).takeWhile isD)), ((c :: r).takeWhile isD).length, 0) else ((0, [], 0), 0, 13))
    else if c = 34 then ((2, (unq (c :: r)).1, 0), (unq (c :: r)).2.1, (unq (c :: r)).2.2)
    else if (isS c || isL c) = true then
      (if ((c :: r).takeWhile isN).length ≤ 16 then ((if isL c = true then 4 else if isKey ((c :: r).takeWhile isN) = true then 6 else 3, (c :: r).takeWhile isN, 0), ((c :: r).takeWhile isN).length, 0) else ((0, [], 0), 0, 12))
    else if c = 45 ∧ r.head? = some 62 then ((5, [45, 62], 0), 2, 0)
    else if c ∈ signs then ((5, [c], 0), 1, 0)
    else ((0, [], 0), 0, 10)
theorem tk_cons (c : UInt8) (r : List UInt8) : tk (c :: r) =
    if isD c = true then
      (if val ((c :: r).takeWhile isD) ≤ 4611686018427387903 then ((1, [], val ((c :: r).takeWhile isD)), ((c :: r).takeWhile isD).length, 0) else ((0, [], 0), 0, 13))
    else if c = 34 then ((2, (unq (c :: r)).1, 0), (unq (c :: r)).2.1, (unq (c :: r)).2.2)
    else if (isS c || isL c) = true then
      (if ((c :: r).takeWhile isN).length ≤ 16 then ((if isL c = true then 4 else if isKey ((c :: r).takeWhile isN) = true then 6 else 3, (c :: r).takeWhile isN, 0), ((c :: r).takeWhile isN).length, 0) else ((0, [], 0), 0, 12))
    else if c = 45 ∧ r.head? = some 62 then ((5, [45, 62], 0), 2, 0)
    else if c ∈ signs then ((5, [c], 0), 1, 0)
    else ((0, [], 0), 0, 10) := rfl

/-- All of them: none with (place, error), or the tokens. -/
def run : Nat → List UInt8 → Nat → Except (Nat × Nat) (List Tok)
  | 0, _, i => .error (i, 0)
  | _ + 1, [], i => .ok [⟨0, [], 0, i⟩]
  | f + 1, c :: r, i =>
    if bl c = true then run f r (i + 1)
    else if c = 35 then run f (r.dropWhile nb) (i + (1 + (r.takeWhile nb).length))
    else if (tk (c :: r)).2.2 = 0 then
      (match run f (r.drop ((tk (c :: r)).2.1 - 1)) (i + (tk (c :: r)).2.1) with
        | .ok ts => .ok (⟨(tk (c :: r)).1.1, (tk (c :: r)).1.2.1, (tk (c :: r)).1.2.2, i⟩ :: ts)
        | .error e => .error e)
    else .error (i, (tk (c :: r)).2.2)
theorem run_cons (f : Nat) (c : UInt8) (r : List UInt8) (i : Nat) : run (f + 1) (c :: r) i =
    if bl c = true then run f r (i + 1)
    else if c = 35 then run f (r.dropWhile nb) (i + (1 + (r.takeWhile nb).length))
    else if (tk (c :: r)).2.2 = 0 then
      (match run f (r.drop ((tk (c :: r)).2.1 - 1)) (i + (tk (c :: r)).2.1) with
        | .ok ts => .ok (⟨(tk (c :: r)).1.1, (tk (c :: r)).1.2.1, (tk (c :: r)).1.2.2, i⟩ :: ts)
        | .error e => .error e)
    else .error (i, (tk (c :: r)).2.2) := rfl
def toks (l : List UInt8) : List Tok × Nat × Nat :=
  if l.length ≤ 2000 then (match run (l.length + 1) l 0 with | .ok ts => (ts, 0, 0) | .error e => ([], e.1, e.2)) else ([], 0, 12)

/-- How much a string's text takes. -/
theorem rl_len : ∀ (f : Nat) (l : List UInt8) (i : Nat) (acc : List UInt8), (rl f l i acc).2.2 = 0 → i + 1 ≤ (rl f l i acc).2.1 ∧ (rl f l i acc).2.1 ≤ i + l.length
  | 0, l, i, acc, h => by simp [rl] at h
  | f + 1, [], i, acc, h => by simp [rl] at h
  | f + 1, c :: t, i, acc, h => by
    have e : rl (f + 1) (c :: t) i acc = if c = 34 then (if acc.length ≤ 60 then (acc, i + 1, 0) else ([], 0, 12)) else
      if (fs (c :: t)).2.2 = 0 then rl f (t.drop ((fs (c :: t)).2.1 - 1)) (i + (fs (c :: t)).2.1) (acc ++ [(fs (c :: t)).1]) else ([], 0, (fs (c :: t)).2.2) := rfl
    rw [e] at h ⊢
    by_cases hc : c = 34
    · rw [if_pos hc] at h ⊢
      by_cases ha : acc.length ≤ 60
      · rw [if_pos ha]; simp
      · rw [if_neg ha] at h; simp at h
    · rw [if_neg hc] at h ⊢
      by_cases he : (fs (c :: t)).2.2 = 0
      · rw [if_pos he] at h ⊢
        have hk := fs_ok he
        have := rl_len f _ _ _ h
        simp only [List.length_cons, List.length_drop] at hk this ⊢
        omega
      · rw [if_neg he] at h
        exact absurd h he
theorem unq_len {l : List UInt8} (h : (unq l).2.2 = 0) : 1 ≤ (unq l).2.1 ∧ (unq l).2.1 ≤ l.length := by
  match l with
  | [] => simp [unq] at h
  | c :: t =>
    have e : unq (c :: t) = if c = 34 then rl (t.length + 1) t 1 [] else ([], 0, 14) := rfl
    rw [e] at h ⊢
    by_cases hc : c = 34
    · rw [if_pos hc] at h ⊢
      have := rl_len _ _ _ _ h
      simp only [List.length_cons]
      omega
    · rw [if_neg hc] at h; simp at h
theorem takeWhile_le {α : Type} (p : α → Bool) : ∀ l : List α, (l.takeWhile p).length ≤ l.length
  | [] => by simp
  | c :: t => by
    rw [List.takeWhile_cons]
    split
    · have := takeWhile_le p t; simp only [List.length_cons]; omega
    · simp
theorem takeWhile_pos {α : Type} {p : α → Bool} {c : α} {t : List α} (h : p c = true) : 1 ≤ ((c :: t).takeWhile p).length := by
  rw [List.takeWhile_cons, if_pos h]; simp
theorem isN_of {c : UInt8} (h : (isS c || isL c) = true) : isN c = true := by
  unfold isN
  cases hs : isS c
  · rw [hs] at h; simp at h; simp [h]
  · simp
theorem tk_len {l : List UInt8} (h : (tk l).2.2 = 0) : 1 ≤ (tk l).2.1 ∧ (tk l).2.1 ≤ l.length ∧ (tk l).1.1 ≠ 0 := by
  match l with
  | [] => simp [tk] at h
  | c :: r =>
    rw [tk_cons] at h ⊢
    by_cases h1 : isD c = true
    · rw [if_pos h1] at h ⊢
      by_cases h2 : val ((c :: r).takeWhile isD) ≤ 4611686018427387903
      · rw [if_pos h2]
        exact ⟨takeWhile_pos h1, takeWhile_le _ _, show (1 : Nat) ≠ 0 by decide⟩
      · rw [if_neg h2] at h; simp at h
    · rw [if_neg h1] at h ⊢
      by_cases h3 : c = 34
      · rw [if_pos h3] at h ⊢
        have := unq_len h
        exact ⟨this.1, this.2, show (2 : Nat) ≠ 0 by decide⟩
      · rw [if_neg h3] at h ⊢
        by_cases h4 : (isS c || isL c) = true
        · rw [if_pos h4] at h ⊢
          by_cases h5 : ((c :: r).takeWhile isN).length ≤ 16
          · rw [if_pos h5]
            refine ⟨takeWhile_pos (isN_of h4), takeWhile_le _ _, ?_⟩
            show (if isL c = true then 4 else if isKey ((c :: r).takeWhile isN) = true then 6 else 3) ≠ 0
            repeat' split
            all_goals decide
          · rw [if_neg h5] at h; simp at h
        · rw [if_neg h4] at h ⊢
          by_cases h6 : c = 45 ∧ r.head? = some 62
          · rw [if_pos h6]
            refine ⟨by decide, ?_, by decide⟩
            obtain ⟨_, h7⟩ := h6
            cases r with
            | nil => simp at h7
            | cons d r => simp
          · rw [if_neg h6] at h ⊢
            by_cases h8 : c ∈ signs
            · rw [if_pos h8]; simp
            · rw [if_neg h8] at h; simp at h
end Go.Proofs.YtlcapkgbbgpdmaaGreatDoor.TK
