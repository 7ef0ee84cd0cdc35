/- Numbers as texts. Nothing of the program is in sight. -/
import Derived.Test.YtenhncepoclolaaDoorO
namespace Go.Proofs.YtenhncepoclolaaDoor.N
open Go.Proofs.YtenhncepoclolaaDoor.P Go.Proofs.YtenhncepoclolaaDoor.O

/-- What is left of a number behind k bytes, and its bytes. -/
def hi (z : Int) (k : Nat) : Int := z / 256 ^ k
def by8 (z : Int) (k : Nat) : UInt8 := UInt8.ofNat (hi z k % 256).toNat
def byts (z : Int) (m : Nat) : List UInt8 := (List.range m).map (by8 z)
theorem hi_zero (z : Int) : hi z 0 = z := by simp [hi]
theorem hi_succ (z : Int) (k : Nat) : hi z (k + 1) = hi z k / 256 := by
  unfold hi
  rw [Int.pow_succ, Int.ediv_ediv_of_nonneg (by exact Int.pow_nonneg (by decide))]
theorem byts_succ (z : Int) (m : Nat) : byts z (m + 1) = byts z m ++ [by8 z m] := by simp [byts, List.range_succ]
theorem byts_len (z : Int) (m : Nat) : (byts z m).length = m := by simp [byts]
theorem by8_val (z : Int) (k : Nat) : ((by8 z k).toNat : Int) = hi z k % 256 := by
  unfold by8
  rw [byte_ofNat _ (by omega)]
  omega

def ul (n : Nat) : List Int → List UInt8 → List UInt8 × Nat
  | [], acc => (acc, 0)
  | z :: r, acc => if hi z (min (n - acc.length) 7) = 0 then ul n r (acc ++ byts z (min (n - acc.length) 7)) else ([], 1)
def up : List Int → List UInt8 × Nat
  | [] => ([], 1)
  | z :: r => if 0 ≤ z ∧ z ≤ 60 ∧ r.length = (z.toNat + 6) / 7 then ul z.toNat r [] else ([], 1)

theorem ul_end {n k : Nat} {r : List Int} {acc : List UInt8} (h : r.length ≤ k) : ul n (r.drop k) acc = (acc, 0) := by
  rw [List.drop_eq_nil_of_le h]; rfl
theorem ul_next {n k m : Nat} {r : List Int} {acc : List UInt8} {z : Int} (h : k < r.length) (hz : r[k] = z) (hm : m = min (n - acc.length) 7) (h0 : hi z m = 0) : ul n (r.drop k) acc = ul n (r.drop (k + 1)) (acc ++ byts z m) := by
  rw [List.drop_eq_getElem_cons h, hz]
  show (if _ then _ else _) = _
  rw [← hm, if_pos h0]
theorem ul_bad {n k m : Nat} {r : List Int} {acc : List UInt8} {z : Int} (h : k < r.length) (hz : r[k] = z) (hm : m = min (n - acc.length) 7) (h0 : hi z m ≠ 0) : ul n (r.drop k) acc = ([], 1) := by
  rw [List.drop_eq_getElem_cons h, hz]
  show (if _ then _ else _) = _
  rw [← hm, if_neg h0]
theorem hi_neg {z : Int} (h : z < 0) (k : Nat) : hi z k < 0 := by
  unfold hi
  exact Int.ediv_neg_of_neg_of_pos h (Int.pow_pos (by decide))
theorem hi_pos {z : Int} (h : 0 ≤ z) (k : Nat) : 0 ≤ hi z k := Int.ediv_nonneg h (Int.pow_nonneg (by decide))

/-- The bytes of a number together are it again. -/
theorem le_byts (z : Int) (hz : 0 ≤ z) : ∀ m, (le (byts z m) : Int) + hi z m * 256 ^ m = z
  | 0 => by simp [byts, le, hi_zero]
  | m + 1 => by
    have ih := le_byts z hz m
    rw [byts_succ, le_snoc, byts_len, hi_succ]
    have e := by8_val z m
    rw [Int.natCast_add, Int.natCast_mul, e, Int.natCast_pow, Int.pow_succ]
    have : hi z m = hi z m / 256 * 256 + hi z m % 256 := by omega
    have h2 : hi z m * 256 ^ m = hi z m / 256 * (256 ^ m * 256) + hi z m % 256 * 256 ^ m := by
      conv => lhs; rw [this]
      rw [Int.add_mul, Int.mul_assoc, Int.mul_comm 256]
    have h3 : ((256 : Nat) : Int) ^ m = (256 : Int) ^ m := rfl
    rw [h3]
    omega
theorem byts_le : ∀ (l : List UInt8), byts (le l : Int) l.length = l ∧ hi (le l : Int) l.length = 0 := by
  intro l
  have key : ∀ (l : List UInt8) (k : Nat) (h : k < l.length), by8 (le l : Int) k = l[k] := by
    intro l
    induction l with
    | nil => intro k h; simp at h
    | cons b t ih =>
      intro k h
      have hb := b.toNat_lt
      rcases k with _ | k
      · apply UInt8.toNat_inj.1
        have := by8_val (le (b :: t) : Int) 0
        rw [hi_zero] at this
        simp only [le, List.getElem_cons_zero] at this ⊢
        omega
      · have e : by8 (le (b :: t) : Int) (k + 1) = by8 (le t : Int) k := by
          unfold by8 hi
          congr 3
          have e1 : ((le (b :: t) : Nat) : Int) / 256 = (le t : Int) := by simp only [le]; omega
          rw [Int.pow_succ, Int.mul_comm, ← Int.ediv_ediv_of_nonneg (by decide), e1]
        rw [e]
        exact ih k (by simpa using h)
  constructor
  · apply List.ext_getElem
    · exact byts_len _ _
    · intro i h1 h2
      simp only [byts, List.getElem_map, List.getElem_range]
      exact key l i h2
  · have h1 := le_byts (le l : Int) (by omega) l.length
    have h2 := le_lt l
    unfold hi
    apply Int.ediv_eq_zero_of_lt (by omega)
    have : ((256 ^ l.length : Nat) : Int) = (256 : Int) ^ l.length := by rw [Int.natCast_pow]; rfl
    omega
end Go.Proofs.YtenhncepoclolaaDoor.N
