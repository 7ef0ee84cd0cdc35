/- How a text is read as a number: on lists of bytes. Nothing of the program is in sight. -/
import Derived.Test.YtlcapkgbbgpdmaaGreatDoorS
namespace Go.Proofs.YtlcapkgbbgpdmaaGreatDoor.R
open Go.Proofs.YtlcapkgbbgpdmaaGreatDoor.S

def isD (c : UInt8) : Bool := decide (48 ≤ c.toNat) && decide (c.toNat ≤ 57)
theorem isD_iff (c : UInt8) : isD c = true ↔ 48 ≤ c.toNat ∧ c.toNat ≤ 57 := by simp [isD]
/-- One digit or more, without noughts ahead. -/
def okD (l : List UInt8) : Bool := !l.isEmpty && !(decide (1 < l.length) && l.head? == some 48) && l.all isD
/-- The number of digits. -/
def val (l : List UInt8) : Nat := l.foldl (fun n c => 10 * n + (c.toNat - 48)) 0

theorem foldl_val (l : List UInt8) (a : Nat) : l.foldl (fun n c => 10 * n + (c.toNat - 48)) a = a * 10 ^ l.length + val l := by
  induction l generalizing a with
  | nil => simp [val]
  | cons c l ih =>
    unfold val
    rw [List.foldl_cons, List.foldl_cons, ih, ih (10 * 0 + (c.toNat - 48)), List.length_cons, Nat.pow_succ]
    rw [Nat.add_mul, Nat.mul_zero, Nat.zero_add, Nat.mul_comm 10 a, Nat.mul_assoc, Nat.mul_comm 10]
    omega
theorem val_append (a b : List UInt8) : val (a ++ b) = val a * 10 ^ b.length + val b := by
  show (a ++ b).foldl _ 0 = _
  rw [List.foldl_append]
  exact foldl_val b _
theorem val_snoc (a : List UInt8) (c : UInt8) : val (a ++ [c]) = 10 * val a + (c.toNat - 48) := by
  show (a ++ [c]).foldl _ 0 = _
  rw [List.foldl_append]; rfl
theorem val_nil : val [] = 0 := rfl
theorem val_cons (c : UInt8) (l : List UInt8) : val (c :: l) = (c.toNat - 48) * 10 ^ l.length + val l := by
  have h := val_append [c] l
  have e : val [c] = c.toNat - 48 := by show 10 * 0 + (c.toNat - 48) = _; omega
  rw [e] at h; exact h
theorem val_take_le (l : List UInt8) (k : Nat) : val (l.take k) ≤ val l := by
  have h := val_append (l.take k) (l.drop k)
  rw [List.take_append_drop] at h
  have p : 0 < 10 ^ (l.drop k).length := Nat.pow_pos (by omega)
  have := Nat.le_mul_of_pos_right (val (l.take k)) p
  omega
theorem take_snoc (l : List UInt8) (k : Nat) (h : k < l.length) : l.take (k + 1) = l.take k ++ [l[k]] := by
  rw [List.take_succ_eq_append_getElem h]
theorem val_lt (l : List UInt8) (h : l.all isD = true) : val l < 10 ^ l.length := by
  induction l with
  | nil => simp [val]
  | cons c l ih =>
    rw [List.all_cons, Bool.and_eq_true] at h
    have hc := (isD_iff c).1 h.1
    have hl := ih h.2
    rw [val_cons, List.length_cons, Nat.pow_succ]
    have : (c.toNat - 48) * 10 ^ l.length ≤ 9 * 10 ^ l.length := Nat.mul_le_mul_right _ (by omega)
    omega
theorem val_ge (c : UInt8) (l : List UInt8) (h : isD c = true) (h0 : c ≠ 48) : 10 ^ l.length ≤ val (c :: l) := by
  rw [val_cons]
  have hc := (isD_iff c).1 h
  have : c.toNat ≠ 48 := fun e => h0 (UInt8.toNat_inj.1 e)
  have := Nat.mul_le_mul_right (10 ^ l.length) (show 1 ≤ c.toNat - 48 by omega)
  omega

/-- Which number a text is, and which error: of digits alone. -/
def readD (below : Bool) (d : List UInt8) : Int × Int :=
  if okD d = false ∨ (below = true ∧ d = [48]) then (0, 1)
  else if below = true then (if val d ≤ 4611686018427387904 then (-(val d : Int), 0) else (0, 13))
  else (if val d ≤ 4611686018427387903 then ((val d : Int), 0) else (0, 13))
/-- The same of any text. -/
def readL (l : List UInt8) : Int × Int := if l.head? = some 45 then readD true (l.drop 1) else readD false l

/-- Digits without noughts ahead, more than nineteen of them, are a great number. -/
theorem great (d : List UInt8) (h : okD d = true) (hl : 19 < d.length) : 4611686018427387904 < val d := by
  cases d with
  | nil => simp at hl
  | cons c l =>
    simp only [okD, List.isEmpty_cons, Bool.not_false, Bool.true_and, Bool.and_eq_true, Bool.not_eq_true', List.all_cons, List.length_cons, List.head?_cons] at h
    obtain ⟨h1, h2, h3⟩ := h
    have hc : c ≠ 48 := by
      intro e
      subst e
      simp at h1
      simp at hl
      subst h1
      simp at hl
    have g := val_ge c l h2 hc
    have hp : 10 ^ 19 ≤ 10 ^ l.length := Nat.pow_le_pow_right (by omega) (by simp at hl; omega)
    omega

theorem digs_all (m k : Nat) : (digs m k).all isD = true := by
  rw [List.all_eq_true]
  intro c hc
  simp only [digs, List.mem_map] at hc
  obtain ⟨j, _, rfl⟩ := hc
  have h := dig_lt m (k - 1 - j)
  have g : 48 ≤ dig m (k - 1 - j) := by unfold dig; omega
  rw [isD_iff]
  have e : (UInt8.ofNat (dig m (k - 1 - j))).toNat = dig m (k - 1 - j) := by simp; omega
  rw [e]; omega
theorem digs_val (m k : Nat) : val (digs m k) = m % 10 ^ k := by
  induction k with
  | zero => rw [digs_zero]; simp [val, Nat.mod_one]
  | succ k ih =>
    rw [digs_succ, val_cons, ih, digs_length]
    have h := dig_lt m k
    have e : (UInt8.ofNat (dig m k)).toNat = dig m k := by simp; omega
    rw [e]
    have d : dig m k - 48 = m / 10 ^ k % 10 := by unfold dig; omega
    rw [d, Nat.pow_succ, Nat.mod_mul, Nat.mul_comm]
    omega
theorem digs_ok {m k : Nat} (h : IsLen m k) : okD (digs m k) = true := by
  obtain ⟨h1, h2, h3⟩ := h
  obtain ⟨j, rfl⟩ : ∃ j, k = j + 1 := ⟨k - 1, by omega⟩
  have a := digs_all m (j + 1)
  have l := digs_length m (j + 1)
  have s := digs_succ m j
  unfold okD
  rw [a, l, s]
  simp only [List.isEmpty_cons, Bool.not_false, Bool.true_and, Bool.and_true, List.head?_cons]
  rcases h3 with h3 | h3
  · have : j = 0 := by omega
    subst this
    simp
  · rw [Nat.add_sub_cancel] at h3
    have hd : dig m j ≠ 48 := by
      unfold dig
      have hz : m / 10 ^ j / 10 = 0 := by rw [div_step]; exact h2
      omega
    have hlt := dig_lt m j
    have hne : UInt8.ofNat (dig m j) ≠ 48 := by
      intro e
      have := congrArg UInt8.toNat e
      simp at this
      omega
    simp [hne]
theorem digs_eq {m k : Nat} (h : IsLen m k) : val (digs m k) = m := by
  rw [digs_val]
  apply Nat.mod_eq_of_lt
  have p : 0 < 10 ^ k := Nat.pow_pos (by omega)
  rcases Nat.div_eq_zero_iff.1 h.all with h | h <;> omega

/-- What is shown is read as itself. -/
theorem read_show (v : Int) (h0 : -4611686018427387904 ≤ v) (h1 : v ≤ 4611686018427387903) : readL (showL v) = (v, 0) := by
  have hl := nd_isLen v.natAbs (by omega)
  have hv := digs_eq hl
  have ho := digs_ok hl
  unfold showL
  by_cases hn : v < 0
  · rw [if_pos hn]
    unfold readL
    rw [if_pos (by rfl), List.drop_succ_cons, List.drop_zero]
    unfold readD
    rw [if_neg, if_pos rfl, hv, if_pos (by omega)]
    · congr 1; omega
    · rintro (c | ⟨_, c⟩)
      · rw [ho] at c; exact absurd c (by decide)
      · rw [c] at hv
        have : val [48] = 0 := rfl
        omega
  · rw [if_neg hn]
    unfold readL
    rw [if_neg]
    · unfold readD
      rw [if_neg, if_neg (by decide), hv, if_pos (by omega)]
      · congr 1; omega
      · rintro (c | ⟨c, _⟩)
        · rw [ho] at c; exact absurd c (by decide)
        · exact absurd c (by decide)
    · intro c
      have a := digs_all v.natAbs (nd v.natAbs)
      cases hd : digs v.natAbs (nd v.natAbs) with
      | nil => rw [hd] at c; exact absurd c (by decide)
      | cons x t =>
        rw [hd] at c a
        simp only [List.head?_cons, Option.some.injEq] at c
        subst c
        rw [List.all_cons] at a
        exact absurd a (by simp [isD])
end Go.Proofs.YtlcapkgbbgpdmaaGreatDoor.R
