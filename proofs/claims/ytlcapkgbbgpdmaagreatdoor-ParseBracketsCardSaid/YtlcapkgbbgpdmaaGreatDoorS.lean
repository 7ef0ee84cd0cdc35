/- The digits of a number, as lists and as a buffer that is filled from its end on. Nothing of the program is in sight. -/
import Derived.RowKit
namespace Go.Proofs.YtlcapkgbbgpdmaaGreatDoor.S

/-- The digit of place i, from the lowest on, as a byte. -/
def dig (m i : Nat) : Nat := 48 + m / 10 ^ i % 10
theorem dig_lt (m i : Nat) : dig m i < 58 := by unfold dig; omega
/-- The last k digits. -/
def digs (m k : Nat) : List UInt8 := (List.range k).map fun j => UInt8.ofNat (dig m (k - 1 - j))
theorem digs_length (m k : Nat) : (digs m k).length = k := by simp [digs]
theorem digs_zero (m : Nat) : digs m 0 = [] := rfl
theorem digs_succ (m k : Nat) : digs m (k + 1) = UInt8.ofNat (dig m k) :: digs m k := by
  unfold digs
  rw [List.range_succ_eq_map, List.map_cons, List.map_map]
  refine congr (congrArg _ ?_) ?_
  · simp
  · apply List.map_congr_left
    intro j hj
    have : k + 1 - 1 - (j + 1) = k - 1 - j := by omega
    simp only [Function.comp, Nat.succ_eq_add_one, this]
theorem digs_getElem (m k j : Nat) (h : j < k) : (digs m k)[j]'(by rw [digs_length]; exact h) = UInt8.ofNat (dig m (k - 1 - j)) := by
  simp [digs]

/-- k digits are all that there are, and none ahead is a nought. -/
structure IsLen (m k : Nat) : Prop where
  pos : 1 ≤ k
  all : m / 10 ^ k = 0
  head : k = 1 ∨ 0 < m / 10 ^ (k - 1)

theorem IsLen.unique {m k l : Nat} (h : IsLen m k) (g : IsLen m l) : k = l := by
  have mono : ∀ a b : Nat, a ≤ b → m / 10 ^ a = 0 → m / 10 ^ b = 0 := by
    intro a b hab hz
    have e : 10 ^ b = 10 ^ a * 10 ^ (b - a) := by rw [← Nat.pow_add]; congr 1; omega
    rw [e, ← Nat.div_div_eq_div_mul, hz, Nat.zero_div]
  obtain ⟨h1, h2, h3⟩ := h
  obtain ⟨g1, g2, g3⟩ := g
  rcases Nat.lt_trichotomy k l with c | c | c
  · have := mono k (l - 1) (by omega) h2
    omega
  · exact c
  · have := mono l (k - 1) (by omega) g2
    omega

def ndF : Nat → Nat → Nat
  | 0, _ => 1
  | f + 1, m => if m < 10 then 1 else ndF f (m / 10) + 1
/-- How many digits a number has. -/
def nd (m : Nat) : Nat := ndF 30 m
theorem ndF_isLen : ∀ f m, m < 10 ^ (f + 1) → IsLen m (ndF f m)
  | 0, m, h => ⟨Nat.le_refl _, by simp [ndF]; omega, .inl rfl⟩
  | f + 1, m, h => by
    unfold ndF
    by_cases c : m < 10
    · rw [if_pos c]; exact ⟨Nat.le_refl _, by omega, .inl rfl⟩
    · rw [if_neg c]
      obtain ⟨h1, h2, h3⟩ := ndF_isLen f (m / 10) (by rw [Nat.pow_succ] at h; omega)
      refine ⟨by omega, ?_, .inr ?_⟩
      · rw [Nat.pow_succ, Nat.mul_comm, ← Nat.div_div_eq_div_mul]; exact h2
      · rw [Nat.add_sub_cancel]
        rcases h3 with h3 | h3
        · rw [h3]; omega
        · have e : 10 ^ (ndF f (m / 10)) = 10 * 10 ^ (ndF f (m / 10) - 1) := by
            rw [Nat.mul_comm, ← Nat.pow_succ]; congr 1; omega
          rw [e, ← Nat.div_div_eq_div_mul]; exact h3
theorem nd_isLen (m : Nat) (h : m < 10 ^ 31) : IsLen m (nd m) := ndF_isLen 30 m h
theorem nd_of {m k : Nat} (h : IsLen m k) (hm : m < 10 ^ 31) : nd m = k := (nd_isLen m hm).unique h

/-- The text of a number, with its sign. -/
def showL (v : Int) : List UInt8 := if v < 0 then 45 :: digs v.natAbs (nd v.natAbs) else digs v.natAbs (nd v.natAbs)

theorem div_step (m k : Nat) : m / 10 ^ k / 10 = m / 10 ^ (k + 1) := by
  rw [Nat.div_div_eq_div_mul, Nat.pow_succ]
theorem div19 (m : Nat) (h : m ≤ 4611686018427387904) : m / 10 ^ 19 = 0 := Nat.div_eq_of_lt (by omega)
theorem k_lt (m k : Nat) (h : m ≤ 4611686018427387904) (hk : 0 < m / 10 ^ k) : k ≤ 18 := by
  rcases Nat.lt_or_ge 18 k with c | c
  · have e : 10 ^ k = 10 ^ 19 * 10 ^ (k - 19) := by rw [← Nat.pow_add]; congr 1; omega
    rw [e, ← Nat.div_div_eq_div_mul, div19 m h, Nat.zero_div] at hk
    omega
  · exact c

/-- Twenty bytes, of which the last k hold the last k digits. -/
def buf (m k : Nat) : Array Value := ((List.range 20).map fun i => Value.int .u8 (if 20 ≤ i + k then (dig m (19 - i) : Int) else 0)).toArray
theorem buf_size (m k : Nat) : (buf m k).size = 20 := by simp [buf]
theorem buf_zero (m : Nat) : buf m 0 = #[.int .u8 0, .int .u8 0, .int .u8 0, .int .u8 0, .int .u8 0, .int .u8 0, .int .u8 0, .int .u8 0, .int .u8 0, .int .u8 0, .int .u8 0, .int .u8 0, .int .u8 0, .int .u8 0, .int .u8 0, .int .u8 0, .int .u8 0, .int .u8 0, .int .u8 0, .int .u8 0] := rfl
theorem buf_get (m k i : Nat) (h : i < 20) : (buf m k)[i]? = some (.int .u8 (if 20 ≤ i + k then (dig m (19 - i) : Int) else 0)) := by
  simp [buf, h]
theorem buf_set (m k : Nat) (h : k ≤ 19) : (buf m k).setIfInBounds (19 - k) (.int .u8 (dig m k : Int)) = buf m (k + 1) := by
  apply Array.ext_getElem?
  intro i
  rw [Array.getElem?_setIfInBounds]
  by_cases hi : i < 20
  · rw [buf_get m (k + 1) i hi]
    by_cases e : 19 - k = i
    · subst e
      rw [if_pos rfl, if_pos (by rw [buf_size]; omega), if_pos (by omega)]
      have : 19 - (19 - k) = k := by omega
      rw [this]
    · rw [if_neg e, buf_get m k i hi]
      by_cases c : 20 ≤ i + k
      · rw [if_pos c, if_pos (by omega)]
      · rw [if_neg c, if_neg (by omega)]
  · have a : (buf m k)[i]? = none := Array.getElem?_eq_none (by rw [buf_size]; omega)
    have b : (buf m (k + 1))[i]? = none := Array.getElem?_eq_none (by rw [buf_size]; omega)
    rw [a, b, if_neg (by omega)]
/-- What stands behind place 20 - k is the number's last k digits. -/
theorem buf_tail (m k j : Nat) (hk : k ≤ 20) (hj : j < k) : (buf m k)[20 - k + j]? = some (.int .u8 (((digs m k)[j]'(by rw [digs_length]; exact hj)).toNat : Int)) := by
  rw [buf_get m k _ (by omega), if_pos (by omega), digs_getElem m k j hj]
  have h := dig_lt m (k - 1 - j)
  have e : 19 - (20 - k + j) = k - 1 - j := by omega
  rw [e]
  have : (UInt8.ofNat (dig m (k - 1 - j))).toNat = dig m (k - 1 - j) := by simp; omega
  rw [this]
end Go.Proofs.YtlcapkgbbgpdmaaGreatDoor.S
