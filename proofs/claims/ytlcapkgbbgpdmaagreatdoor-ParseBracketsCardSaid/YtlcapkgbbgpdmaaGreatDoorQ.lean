/- How a written text is read, byte by byte: plain words. Nothing of the program is in sight. -/
import Derived.Test.YtlcapkgbbgpdmaaGreatDoorP
namespace Go.Proofs.YtlcapkgbbgpdmaaGreatDoor.Q
open Go.Proofs.YtlcapkgbbgpdmaaGreatDoor.P

/-- What a digit counts; 16 where it is none. -/
def dn (b : UInt8) : Nat := if 48 ≤ b.toNat ∧ b.toNat ≤ 57 then b.toNat - 48 else if 97 ≤ b.toNat ∧ b.toNat ≤ 102 then b.toNat - 87 else 16
/-- Two digits: the byte and the error. -/
def td : List UInt8 → UInt8 × Nat
  | [] => (0, 11)
  | [d] => if dn d < 16 then (0, 11) else (0, 10)
  | d :: f :: _ => if dn d < 16 then if dn f < 16 then (UInt8.ofNat (16 * dn d + dn f), 0) else (0, 10) else (0, 10)
/-- What stands behind a backslash: the byte, how many bytes it takes, the error. -/
def bh : List UInt8 → UInt8 × Nat × Nat
  | [] => (0, 0, 11)
  | c :: t => if c = 120 then ((td t).1, 4, (td t).2) else if c = 34 then (34, 2, 0) else if c = 92 then (92, 2, 0) else if c = 110 then (10, 2, 0) else (0, 0, 10)
/-- The first byte of a text that is written. -/
def fs : List UInt8 → UInt8 × Nat × Nat
  | [] => (0, 0, 11)
  | c :: t => if c = 92 then bh t else if c = 10 then (0, 0, 11) else if 32 ≤ c.toNat ∧ c.toNat ≤ 126 then (c, 1, 0) else (0, 0, 10)
/-- All of it: behind 'at' bytes, with acc read so far. -/
def rl : Nat → List UInt8 → Nat → List UInt8 → List UInt8 × Nat × Nat
  | 0, _, _, _ => ([], 0, 11)
  | f + 1, l, i, acc => match l with
    | [] => ([], 0, 11)
    | c :: t => if c = 34 then (if acc.length ≤ 60 then (acc, i + 1, 0) else ([], 0, 12)) else
      if (fs (c :: t)).2.2 = 0 then rl f (t.drop ((fs (c :: t)).2.1 - 1)) (i + (fs (c :: t)).2.1) (acc ++ [(fs (c :: t)).1]) else ([], 0, (fs (c :: t)).2.2)
def unq (l : List UInt8) : List UInt8 × Nat × Nat := match l with
  | [] => ([], 0, 14)
  | c :: t => if c = 34 then rl (t.length + 1) t 1 [] else ([], 0, 14)

theorem bh_cons (c : UInt8) (t : List UInt8) : bh (c :: t) = if c = 120 then ((td t).1, 4, (td t).2) else if c = 34 then (34, 2, 0) else if c = 92 then (92, 2, 0) else if c = 110 then (10, 2, 0) else (0, 0, 10) := rfl
theorem fs_cons (c : UInt8) (t : List UInt8) : fs (c :: t) = if c = 92 then bh t else if c = 10 then (0, 0, 11) else if 32 ≤ c.toNat ∧ c.toNat ≤ 126 then (c, 1, 0) else (0, 0, 10) := rfl
theorem td_ok {l : List UInt8} (h : (td l).2 = 0) : 2 ≤ l.length := by
  match l with
  | [] => simp [td] at h
  | [d] => exfalso; simp only [td] at h; by_cases hd : dn d < 16 <;> simp [hd] at h
  | d :: f :: t => simp
theorem bh_ok {l : List UInt8} (h : (bh l).2.2 = 0) : 1 ≤ (bh l).2.1 ∧ (bh l).2.1 ≤ l.length + 1 := by
  match l with
  | [] => simp [bh] at h
  | c :: t =>
    rw [bh_cons] at h ⊢
    by_cases h1 : c = 120
    · rw [if_pos h1] at h ⊢
      have := td_ok h
      simp; omega
    · rw [if_neg h1] at h ⊢
      by_cases h2 : c = 34
      · rw [if_pos h2]; simp
      · rw [if_neg h2] at h ⊢
        by_cases h3 : c = 92
        · rw [if_pos h3]; simp
        · rw [if_neg h3] at h ⊢
          by_cases h4 : c = 110
          · rw [if_pos h4]; simp
          · rw [if_neg h4] at h; simp at h
theorem fs_ok {l : List UInt8} (h : (fs l).2.2 = 0) : 1 ≤ (fs l).2.1 ∧ (fs l).2.1 ≤ l.length := by
  match l with
  | [] => simp [fs] at h
  | c :: t =>
    rw [fs_cons] at h ⊢
    by_cases h1 : c = 92
    · rw [if_pos h1] at h ⊢
      simpa using bh_ok h
    · rw [if_neg h1] at h ⊢
      by_cases h2 : c = 10
      · rw [if_pos h2] at h; simp at h
      · rw [if_neg h2] at h ⊢
        by_cases h3 : 32 ≤ c.toNat ∧ c.toNat ≤ 126
        · rw [if_pos h3]; simp
        · rw [if_neg h3] at h; simp at h

/-- One round, at place i of the text. -/
theorem rl_end {f i : Nat} {l acc : List UInt8} (h : l.length ≤ i) : rl (f + 1) (l.drop i) i acc = ([], 0, 11) := by
  rw [List.drop_eq_nil_of_le h]; rfl
theorem rl_quote {f i : Nat} {l acc : List UInt8} (h : i < l.length) (hc : l[i] = 34) : rl (f + 1) (l.drop i) i acc = if acc.length ≤ 60 then (acc, i + 1, 0) else ([], 0, 12) := by
  rw [List.drop_eq_getElem_cons h, hc]; rfl
theorem rl_err {f i : Nat} {l acc : List UInt8} (h : i < l.length) (hc : l[i] ≠ 34) (he : (fs (l.drop i)).2.2 ≠ 0) : rl (f + 1) (l.drop i) i acc = ([], 0, (fs (l.drop i)).2.2) := by
  rw [List.drop_eq_getElem_cons h] at he ⊢
  show (if _ then _ else _) = _
  rw [if_neg hc, if_neg he]
theorem rl_next {f i : Nat} {l acc : List UInt8} (h : i < l.length) (hc : l[i] ≠ 34) (he : (fs (l.drop i)).2.2 = 0) :
    rl (f + 1) (l.drop i) i acc = rl f (l.drop (i + (fs (l.drop i)).2.1)) (i + (fs (l.drop i)).2.1) (acc ++ [(fs (l.drop i)).1]) := by
  have hn := fs_ok he
  have e : l.drop (i + (fs (l.drop i)).2.1) = (l.drop (i + 1)).drop ((fs (l.drop i)).2.1 - 1) := by rw [List.drop_drop]; congr 1; omega
  rw [e]
  clear e
  rw [List.drop_eq_getElem_cons h] at he ⊢
  show (if _ then _ else _) = _
  rw [if_neg hc, if_pos he]
end Go.Proofs.YtlcapkgbbgpdmaaGreatDoor.Q
