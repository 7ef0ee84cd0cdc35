/- Texts as numbers, seven bytes at a time. Nothing of the program is in sight. -/
import Derived.Test.YtenhncepoclolaaDoorP
import Derived.Laws.Bits64b
namespace Go.Proofs.YtenhncepoclolaaDoor.O
open Go.Proofs.YtenhncepoclolaaDoor.P

def le : List UInt8 → Nat
  | [] => 0
  | b :: t => b.toNat + 256 * le t
theorem le_lt : ∀ l : List UInt8, le l < 256 ^ l.length
  | [] => by simp [le]
  | b :: t => by
    have := le_lt t
    have := b.toNat_lt
    simp only [le, List.length_cons, Nat.pow_succ]
    omega
theorem le_snoc : ∀ (l : List UInt8) (b : UInt8), le (l ++ [b]) = le l + b.toNat * 256 ^ l.length
  | [], b => by simp [le]
  | c :: t, b => by
    have e := le_snoc t b
    simp only [le, List.cons_append, e, List.length_cons, Nat.pow_succ]
    have : b.toNat * (256 ^ t.length * 256) = 256 * (b.toNat * 256 ^ t.length) := by rw [Nat.mul_comm (256 ^ t.length) 256, Nat.mul_left_comm]
    omega
/-- The seven bytes of group j. -/
def grp (l : List UInt8) (j : Nat) : List UInt8 := (l.drop (7 * j)).take 7
def pk (m n : Nat) (l : List UInt8) : List Int := (n : Int) :: (List.range m).map fun j => ((le (grp l j) : Nat) : Int)
def packL (l : List UInt8) : List Int := pk ((l.length + 6) / 7) l.length l
theorem pk_len (m n : Nat) (l : List UInt8) : (pk m n l).length = m + 1 := by simp [pk]
theorem pk_at (m n : Nat) (l : List UInt8) (j : Nat) (h : j < m) : (pk m n l)[1 + j]'(by rw [pk_len]; omega) = ((le (grp l j) : Nat) : Int) := by
  simp only [pk]
  rw [List.getElem_cons]
  rw [dif_neg (by omega)]
  simp
theorem grp_self (l : List UInt8) (b : UInt8) : grp (l ++ [b]) (l.length / 7) = grp l (l.length / 7) ++ [b] := by
  unfold grp
  rw [List.drop_append_of_le_length (by omega)]
  have hl : (l.drop (7 * (l.length / 7))).length < 7 := by simp; omega
  rw [List.take_of_length_le (by simp; omega), List.take_of_length_le (by omega)]
theorem grp_other (l : List UInt8) (b : UInt8) (j : Nat) (h : j ≠ l.length / 7) : grp (l ++ [b]) j = grp l j := by
  unfold grp
  by_cases h1 : 7 * j ≤ l.length
  · rw [List.drop_append_of_le_length h1, List.take_append_of_le_length (by simp; omega)]
  · rw [List.drop_eq_nil_of_le (by simp; omega), List.drop_eq_nil_of_le (by omega)]
theorem grp_len (l : List UInt8) : (grp l (l.length / 7)).length = l.length % 7 := by
  unfold grp; simp; omega
theorem grp_lt (l : List UInt8) (j : Nat) : le (grp l j) < 72057594037927936 := by
  have h := le_lt (grp l j)
  have h2 : (grp l j).length ≤ 7 := by unfold grp; simp; omega
  have : 256 ^ (grp l j).length ≤ 256 ^ 7 := Nat.pow_le_pow_right (by decide) h2
  have e : (256 : Nat) ^ 7 = 72057594037927936 := by decide
  omega
theorem grp_lt_self (l : List UInt8) : le (grp l (l.length / 7)) < 256 ^ (l.length % 7) := by
  have := le_lt (grp l (l.length / 7))
  rwa [grp_len] at this
theorem pk_step (m n : Nat) (l : List UInt8) (b : UInt8) :
    pk m n (l ++ [b]) = (pk m n l).set (1 + l.length / 7) ((le (grp l (l.length / 7)) + b.toNat * 256 ^ (l.length % 7) : Nat) : Int) := by
  apply List.ext_getElem
  · simp [pk_len]
  · intro i h1 h2
    rw [List.getElem_set]
    rcases i with _ | j
    · rw [if_neg (by omega)]; rfl
    · have hj : j < m := by rw [pk_len] at h1; omega
      have e1 : (pk m n (l ++ [b]))[j + 1]'h1 = ((le (grp (l ++ [b]) j) : Nat) : Int) := by
        have := pk_at m n (l ++ [b]) j hj
        simpa only [Nat.add_comm 1 j] using this
      have e2 : (pk m n l)[j + 1]'(by rw [pk_len]; omega) = ((le (grp l j) : Nat) : Int) := by
        have := pk_at m n l j hj
        simpa only [Nat.add_comm 1 j] using this
      rw [e1]
      by_cases hji : j = l.length / 7
      · subst hji
        rw [if_pos (by omega), grp_self, le_snoc, grp_len]
      · rw [if_neg (by omega), e2, grp_other l b j hji]
theorem pow_eq (r : Nat) : 2 ^ (8 * r) = 256 ^ r := by rw [Nat.pow_mul]
/-- What is set into a number's free bits is added. -/
theorem or_add (a b r : Nat) (h : a < 256 ^ r) : a ||| (b * 256 ^ r) = a + b * 256 ^ r := by
  rw [← pow_eq] at h ⊢
  have := Nat.two_pow_add_eq_or_of_lt h b
  rw [Nat.mul_comm b, Nat.or_comm, ← this]
  omega
theorem byte_fits (b : UInt8) (r : Nat) (h : r < 7) : b.toNat * 256 ^ r < 72057594037927936 := by
  have h1 := b.toNat_lt
  have h2 : 256 ^ r ≤ 256 ^ 6 := Nat.pow_le_pow_right (by decide) (by omega)
  have e : (256 : Nat) ^ 6 = 281474976710656 := by decide
  have : b.toNat * 256 ^ r ≤ 255 * 281474976710656 := Nat.mul_le_mul (by omega) (by omega)
  omega
theorem bits_or_i64_nat (a b : Nat) (ha : a < 9223372036854775808) (hb : b < 9223372036854775808) : bits .or .i64 (a : Int) (b : Int) = ((a ||| b : Nat) : Int) := by
  have hab : a ||| b < 2 ^ 63 := Nat.or_lt_two_pow (by omega) (by omega)
  have key : (BitVec.ofInt 64 (a : Int) ||| BitVec.ofInt 64 (b : Int)).toNat = a ||| b := by
    rw [BitVec.toNat_or, BitVec.toNat_ofInt, BitVec.toNat_ofInt]
    congr 1 <;> omega
  show IntKind.i64.wrap ((BitVec.ofInt 64 (a : Int) ||| BitVec.ofInt 64 (b : Int)).toNat : Nat) = _
  rw [key, IntKind.wrap_i64]
  omega
end Go.Proofs.YtenhncepoclolaaDoor.O
