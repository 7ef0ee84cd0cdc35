/- ZA: several texts in one (M K1 S K2 K3 K4 K5). -/
import Derived.RowKit
import Derived.Test.YtphebogjmbaboaaDoorRows
import Derived.WalkKit
import Derived.ProofKit
import Derived.OpenShut
import Derived.ShutString
import Derived.Lib.Hide
import Derived.Laws.BitsLemmas
import Derived.Below
import Derived.Laws.IdiomStrings

/- Plain numbers: wrapping to 63 bits, and to 64. Nothing of the program is in sight. -/
namespace Go.Proofs.YtphebogjmbaboaaDoor.M
open Go.RowKit (wrap64)

/-- A number, less or more a multiple of 2^63, such that it lies from -2^62 to 2^62 - 1. -/
def w63 (n : Int) : Int := (n + 4611686018427387904) % 9223372036854775808 - 4611686018427387904

theorem w63_lo (n : Int) : -4611686018427387904 ≤ w63 n := by unfold w63; omega
theorem w63_hi (n : Int) : w63 n ≤ 4611686018427387903 := by unfold w63; omega
theorem w63_id (n : Int) (h0 : -4611686018427387904 ≤ n) (h1 : n ≤ 4611686018427387903) : w63 n = n := by unfold w63; omega
theorem w63_ne (n : Int) (h : n < -4611686018427387904 ∨ 4611686018427387903 < n) : w63 n ≠ n := by unfold w63; omega
theorem w63_w63 (n : Int) : w63 (w63 n) = w63 n := w63_id _ (w63_lo n) (w63_hi n)
theorem w63_spec (n : Int) : ∃ k : Int, w63 n = n + 9223372036854775808 * k :=
  ⟨-((n + 4611686018427387904) / 9223372036854775808), by unfold w63; omega⟩
theorem w63_add_k (n k : Int) : w63 (n + 9223372036854775808 * k) = w63 n := by unfold w63; omega
theorem w63_add_l (a b : Int) : w63 (w63 a + b) = w63 (a + b) := by unfold w63; omega
theorem w63_add_r (a b : Int) : w63 (a + w63 b) = w63 (a + b) := by unfold w63; omega
theorem w63_sub_l (a b : Int) : w63 (w63 a - b) = w63 (a - b) := by unfold w63; omega
theorem w63_sub_r (a b : Int) : w63 (a - w63 b) = w63 (a - b) := by unfold w63; omega
theorem w63_neg (a : Int) : w63 (-(w63 a)) = w63 (-a) := by unfold w63; omega
theorem w63_mul_l (a b : Int) : w63 (w63 a * b) = w63 (a * b) := by
  obtain ⟨k, hk⟩ := w63_spec a
  rw [hk, Int.add_mul, Int.mul_assoc, w63_add_k]
theorem w63_mul_r (a b : Int) : w63 (a * w63 b) = w63 (a * b) := by
  rw [Int.mul_comm, w63_mul_l, Int.mul_comm]
theorem w63_wrap64 (n : Int) : w63 (wrap64 n) = w63 n := by unfold w63 wrap64; omega
theorem w63_code (n : Int) : wrap64 (n * 2) / 2 = w63 n := by unfold wrap64 w63; omega
theorem wrap64_lo (n : Int) : -9223372036854775808 ≤ wrap64 n := by unfold wrap64; omega
theorem wrap64_hi (n : Int) : wrap64 n ≤ 9223372036854775807 := by unfold wrap64; omega

/-- Division towards nought, for a number of either sign. -/
theorem tdiv_neg_l (a b : Int) : (-a).tdiv b = -(a.tdiv b) := Int.neg_tdiv a b
theorem tmod_neg_l (a b : Int) : (-a).tmod b = -(a.tmod b) := Int.neg_tmod a b
theorem tdiv_pos (a b : Int) (ha : 0 ≤ a) : a.tdiv b = a / b := Int.tdiv_eq_ediv_of_nonneg ha
theorem tmod_pos (a b : Int) (ha : 0 ≤ a) : a.tmod b = a % b := Int.tmod_eq_emod_of_nonneg ha
theorem tdiv_le (a b : Int) : -(a.natAbs : Int) ≤ a.tdiv b ∧ a.tdiv b ≤ a.natAbs := by
  have h := Int.natAbs_tdiv_le_natAbs a b
  omega
theorem tmod_le (a b : Int) : -(a.natAbs : Int) ≤ a.tmod b ∧ a.tmod b ≤ a.natAbs := by
  have h := Int.natAbs_tmod a b
  have h2 := Nat.mod_le a.natAbs b.natAbs
  omega
/-- What is left, said by the quotient. -/
theorem rem_code (a b : Int) (ha0 : -4611686018427387904 ≤ a) (ha1 : a ≤ 4611686018427387903) :
    wrap64 (a - wrap64 (wrap64 (a.tdiv b) * b)) = a.tmod b := by
  have d := tdiv_le a b
  have m := tmod_le a b
  have k := Int.mul_tdiv_add_tmod a b
  have w1 : wrap64 (a.tdiv b) = a.tdiv b := by unfold wrap64; omega
  have e : a.tdiv b * b = a - a.tmod b := by rw [Int.mul_comm]; omega
  rw [w1, e]
  unfold wrap64
  omega
theorem tmod2 (n : Int) : (n.tmod 2 = 0 ↔ n % 2 = 0) := by
  rcases Int.le_total 0 n with h | h
  · rw [tmod_pos n 2 h]
  · have e : n = -(-n) := by omega
    have p := tmod_pos (-n) 2 (by omega)
    have q := tmod_neg_l (-n) 2
    rw [← e] at q
    omega
end Go.Proofs.YtphebogjmbaboaaDoor.M

/- What each function of the layer gives: wrapping, words. -/
namespace Go.Proofs.YtphebogjmbaboaaDoor.K1
open Go.ChangeShapes Go.WideShapes Go.ChangeAt Go.RowKit
open Go.Proofs.YtphebogjmbaboaaDoor.M
set_option linter.unusedVariables false
set_option maxRecDepth 100000

theorem ret_int {k : IntKind} {a b : Int} (h : a = b) : Ending.returned (.int k a) = .returned (.int k b) := by rw [h]
theorem ret_bool {a b : Bool} (h : a = b) : Ending.returned (.bool a) = .returned (.bool b) := by rw [h]

/-- An int's bounds. -/
theorem bd {n : Int} (h : (Lit.int .i64 n).wf = true) : -9223372036854775808 ≤ n ∧ n ≤ 9223372036854775807 := bounds_i64 h

theorem wrap_any (n : Int) (w : World) (h0 : -9223372036854775808 ≤ n) (h1 : n ≤ 9223372036854775807) :
    Calls Tryd.prog 72 #[.int .i64 n] w fun e w' => e = .returned (.int .i64 (w63 n)) ∧ w = w' := by
  go_enter Tryd.func72, Tryd.ntmps72
  go_wp2
  go_ret
  exact ⟨ret_int (w63_code n), rfl⟩

theorem rwrap_any (n : Int) (w : World) (h0 : -9223372036854775808 ≤ n) (h1 : n ≤ 9223372036854775807) :
    Calls Tryd.prog 32 #[.int .i64 n] w fun e w' => e = .returned (.int .i64 (w63 n)) ∧ w = w' := by
  go_enter Tryd.func32, Tryd.ntmps32
  go_wp2
  all_goals (go_ret; exact ⟨ret_int (by unfold w63; omega), rfl⟩)

theorem is_yes (n : Int) (w : World) (h0 : -4611686018427387904 ≤ n) (h1 : n ≤ 4611686018427387903) :
    Calls Tryd.prog 57 #[.int .i64 n] w fun e w' => e = .returned (.bool true) ∧ w = w' := by
  go_enter Tryd.func57, Tryd.ntmps57
  go_wp2
  go_ret
  exact ⟨rfl, rfl⟩

theorem is_no (n : Int) (w : World) (h : n < -4611686018427387904 ∨ 4611686018427387903 < n) :
    Calls Tryd.prog 57 #[.int .i64 n] w fun e w' => e = .returned (.bool false) ∧ w = w' := by
  rcases h with h | h
  · go_enter Tryd.func57, Tryd.ntmps57
    go_wp2
    go_ret
    exact ⟨rfl, rfl⟩
  · have h2 : -4611686018427387904 ≤ n := by omega
    go_enter Tryd.func57, Tryd.ntmps57
    go_wp2
    go_ret
    exact ⟨ret_bool (by simpa using h), rfl⟩

theorem int_yes (n : Int) (w : World) (h0 : -4611686018427387904 ≤ n) (h1 : n ≤ 4611686018427387903) :
    Calls Tryd.prog 71 #[.int .i64 n] w fun e w' => e = .returned (.bool true) ∧ w = w' := by
  have hb : (w63 n == n) = true := by rw [w63_id n h0 h1]; simp
  go_enter Tryd.func71, Tryd.ntmps71
  go_wp2_with (go_at_call 72; refine (wrap_any _ _ (by omega) (by omega)).mono ?_; rintro e w' ⟨rfl, rfl⟩)
  go_ret
  exact ⟨rfl, rfl⟩

theorem int_no (n : Int) (w : World) (hl : -9223372036854775808 ≤ n) (hh : n ≤ 9223372036854775807) (h : n < -4611686018427387904 ∨ 4611686018427387903 < n) :
    Calls Tryd.prog 71 #[.int .i64 n] w fun e w' => e = .returned (.bool false) ∧ w = w' := by
  have hb : (w63 n == n) = false := beq_eq_false_iff_ne.2 (w63_ne n h)
  clear h
  go_enter Tryd.func71, Tryd.ntmps71
  go_wp2_with (go_at_call 72; refine (wrap_any _ _ (by omega) (by omega)).mono ?_; rintro e w' ⟨rfl, rfl⟩)
  go_ret
  exact ⟨rfl, rfl⟩

theorem tag_any (n : Int) (w : World) (h0 : -9223372036854775808 ≤ n) (h1 : n ≤ 9223372036854775807) :
    Calls Tryd.prog 52 #[.int .i64 n] w fun e w' => e = .returned (.int .i64 (2 * w63 n + 1)) ∧ w = w' := by
  have l := w63_lo n
  have u := w63_hi n
  go_enter Tryd.func52, Tryd.ntmps52
  go_wp2_with (go_at_call 72; refine (wrap_any _ _ (by omega) (by omega)).mono ?_; rintro e w' ⟨rfl, rfl⟩)
  go_ret
  exact ⟨rfl, rfl⟩

theorem point_yes (n : Int) (w : World) (h0 : 1 ≤ n) (h1 : n ≤ 2305843009213693952) :
    Calls Tryd.prog 63 #[.int .i64 n] w fun e w' => e = .returned (.int .i64 (2 * n)) ∧ w = w' := by
  go_enter Tryd.func63, Tryd.ntmps63
  go_wp2
  go_ret
  exact ⟨ret_int (by first | omega | (unfold wrap64; omega)), rfl⟩

theorem point_no (n : Int) (w : World) (h : n < 1 ∨ 2305843009213693952 < n) :
    Calls Tryd.prog 63 #[.int .i64 n] w fun e w' => e = .returned (.int .i64 0) ∧ w = w' := by
  rcases h with h | h
  · go_enter Tryd.func63, Tryd.ntmps63
    go_wp2
    go_ret
    exact ⟨rfl, rfl⟩
  · have h2 : 1 ≤ n := by omega
    go_enter Tryd.func63, Tryd.ntmps63
    go_wp2
    go_ret
    exact ⟨rfl, rfl⟩

theorem i64_and1 (n : Int) : bits .and .i64 n 1 = n % 2 := by
  have h1 : (BitVec.ofInt 64 1).toNat = 2 ^ 1 - 1 := by decide
  have key : (BitVec.ofInt 64 n &&& BitVec.ofInt 64 1).toNat = (n % ((2 ^ 64 : Nat) : Int)).toNat % 2 ^ 1 := by
    rw [BitVec.toNat_and, BitVec.toNat_ofInt, h1, Nat.and_two_pow_sub_one_eq_mod]
  show IntKind.i64.wrap ((BitVec.ofInt 64 n &&& BitVec.ofInt 64 1).toNat : Nat) = n % 2
  rw [key, IntKind.wrap_i64]
  omega

theorem ret2 {k : IntKind} {a b : Int} {v : Value} (h : a = b) : Ending.returned (.tuple #[.int k a, v]) = .returned (.tuple #[.int k b, v]) := by rw [h]

theorem untag_odd (n : Int) (w : World) (h : n % 2 = 1) :
    Calls Tryd.prog 48 #[.int .i64 n] w fun e w' => e = .returned (.tuple #[.int .i64 (n / 2), .bool true]) ∧ w = w' := by
  have hb : (bits .and .i64 n 1 == 0) = false := by rw [i64_and1, h]; rfl
  clear h
  go_enter Tryd.func48, Tryd.ntmps48
  go_wp2
  go_ret2
  exact ⟨rfl, rfl⟩

theorem untag_even (n : Int) (w : World) (h : n % 2 = 0) :
    Calls Tryd.prog 48 #[.int .i64 n] w fun e w' => e = .returned (.tuple #[.int .i64 0, .bool false]) ∧ w = w' := by
  have hb : (bits .and .i64 n 1 == 0) = true := by rw [i64_and1, h]; rfl
  clear h
  go_enter Tryd.func48, Tryd.ntmps48
  go_wp2
  go_ret2
  exact ⟨rfl, rfl⟩

theorem at_yes (n : Int) (w : World) (h0 : 0 < n) (h : n % 2 = 0) :
    Calls Tryd.prog 67 #[.int .i64 n] w fun e w' => e = .returned (.tuple #[.int .i64 (n / 2), .bool true]) ∧ w = w' := by
  have hb : (bits .and .i64 n 1 == 1) = false := by rw [i64_and1, h]; rfl
  clear h
  go_enter Tryd.func67, Tryd.ntmps67
  go_wp2
  go_ret2
  exact ⟨rfl, rfl⟩

theorem at_below (n : Int) (w : World) (h0 : n ≤ 0) :
    Calls Tryd.prog 67 #[.int .i64 n] w fun e w' => e = .returned (.tuple #[.int .i64 0, .bool false]) ∧ w = w' := by
  go_enter Tryd.func67, Tryd.ntmps67
  go_wp2
  go_ret2
  exact ⟨rfl, rfl⟩

theorem at_odd (n : Int) (w : World) (h : n % 2 = 1) :
    Calls Tryd.prog 67 #[.int .i64 n] w fun e w' => e = .returned (.tuple #[.int .i64 0, .bool false]) ∧ w = w' := by
  by_cases h0 : n ≤ 0
  · exact at_below n w h0
  · have h1 : 0 < n := by omega
    have hb : (bits .and .i64 n 1 == 1) = true := by rw [i64_and1, h]; rfl
    clear h h0
    go_enter Tryd.func67, Tryd.ntmps67
    go_wp2
    go_ret2
    exact ⟨rfl, rfl⟩

/-- A truth as a number. -/
def tr (b : Bool) : Int := if b then 1 else 0
theorem tr_le (b : Bool) : 0 ≤ tr b ∧ tr b ≤ 1 := by cases b <;> decide
theorem truth_any (b : Bool) (w : World) :
    Calls Tryd.prog 73 #[.bool b] w fun e w' => e = .returned (.int .i64 (tr b)) ∧ w = w' := by
  cases b
  · go_enter Tryd.func73, Tryd.ntmps73
    go_wp2
    go_ret
    exact ⟨rfl, rfl⟩
  · go_enter Tryd.func73, Tryd.ntmps73
    go_wp2
    go_ret
    exact ⟨rfl, rfl⟩

end Go.Proofs.YtphebogjmbaboaaDoor.K1

/- The digits of a number, as lists and as a buffer that is filled from its end on. Nothing of the program is in sight. -/
namespace Go.Proofs.YtphebogjmbaboaaDoor.S

/-- The digit of place i, from the lowest on, as a byte. -/
def dig (m i : Nat) : Nat := 48 + m / 10 ^ i % 10
theorem dig_lt (m i : Nat) : dig m i < 58 := by unfold dig; omega
/-- The last k digits. -/
def digs (m k : Nat) : List UInt8 := (List.range k).map fun j => UInt8.ofNat (dig m (k - 1 - j))
theorem digs_length (m k : Nat) : (digs m k).length = k := by simp [digs]
theorem digs_zero (m : Nat) : digs m 0 = [] := rfl
theorem digs_succ (m k : Nat) : digs m (k + 1) = UInt8.ofNat (dig m k) :: digs m k := by
  unfold digs
  rw [List.range_succ_eq_map, List.map_cons, List.map_map]
  refine congr (congrArg _ ?_) ?_
  · simp
  · apply List.map_congr_left
    intro j hj
    have : k + 1 - 1 - (j + 1) = k - 1 - j := by omega
    simp only [Function.comp, Nat.succ_eq_add_one, this]
theorem digs_getElem (m k j : Nat) (h : j < k) : (digs m k)[j]'(by rw [digs_length]; exact h) = UInt8.ofNat (dig m (k - 1 - j)) := by
  simp [digs]

/-- k digits are all that there are, and none ahead is a nought. -/
structure IsLen (m k : Nat) : Prop where
  pos : 1 ≤ k
  all : m / 10 ^ k = 0
  head : k = 1 ∨ 0 < m / 10 ^ (k - 1)

theorem IsLen.unique {m k l : Nat} (h : IsLen m k) (g : IsLen m l) : k = l := by
  have mono : ∀ a b : Nat, a ≤ b → m / 10 ^ a = 0 → m / 10 ^ b = 0 := by
    intro a b hab hz
    have e : 10 ^ b = 10 ^ a * 10 ^ (b - a) := by rw [← Nat.pow_add]; congr 1; omega
    rw [e, ← Nat.div_div_eq_div_mul, hz, Nat.zero_div]
  obtain ⟨h1, h2, h3⟩ := h
  obtain ⟨g1, g2, g3⟩ := g
  rcases Nat.lt_trichotomy k l with c | c | c
  · have := mono k (l - 1) (by omega) h2
    omega
  · exact c
  · have := mono l (k - 1) (by omega) g2
    omega

def ndF : Nat → Nat → Nat
  | 0, _ => 1
  | f + 1, m => if m < 10 then 1 else ndF f (m / 10) + 1
/-- How many digits a number has. -/
def nd (m : Nat) : Nat := ndF 30 m
theorem ndF_isLen : ∀ f m, m < 10 ^ (f + 1) → IsLen m (ndF f m)
  | 0, m, h => ⟨Nat.le_refl _, by simp [ndF]; omega, .inl rfl⟩
  | f + 1, m, h => by
    unfold ndF
    by_cases c : m < 10
    · rw [if_pos c]; exact ⟨Nat.le_refl _, by omega, .inl rfl⟩
    · rw [if_neg c]
      obtain ⟨h1, h2, h3⟩ := ndF_isLen f (m / 10) (by rw [Nat.pow_succ] at h; omega)
      refine ⟨by omega, ?_, .inr ?_⟩
      · rw [Nat.pow_succ, Nat.mul_comm, ← Nat.div_div_eq_div_mul]; exact h2
      · rw [Nat.add_sub_cancel]
        rcases h3 with h3 | h3
        · rw [h3]; omega
        · have e : 10 ^ (ndF f (m / 10)) = 10 * 10 ^ (ndF f (m / 10) - 1) := by
            rw [Nat.mul_comm, ← Nat.pow_succ]; congr 1; omega
          rw [e, ← Nat.div_div_eq_div_mul]; exact h3
theorem nd_isLen (m : Nat) (h : m < 10 ^ 31) : IsLen m (nd m) := ndF_isLen 30 m h
theorem nd_of {m k : Nat} (h : IsLen m k) (hm : m < 10 ^ 31) : nd m = k := (nd_isLen m hm).unique h

/-- The text of a number, with its sign. -/
def showL (v : Int) : List UInt8 := if v < 0 then 45 :: digs v.natAbs (nd v.natAbs) else digs v.natAbs (nd v.natAbs)

theorem div_step (m k : Nat) : m / 10 ^ k / 10 = m / 10 ^ (k + 1) := by
  rw [Nat.div_div_eq_div_mul, Nat.pow_succ]
theorem div19 (m : Nat) (h : m ≤ 4611686018427387904) : m / 10 ^ 19 = 0 := Nat.div_eq_of_lt (by omega)
theorem k_lt (m k : Nat) (h : m ≤ 4611686018427387904) (hk : 0 < m / 10 ^ k) : k ≤ 18 := by
  rcases Nat.lt_or_ge 18 k with c | c
  · have e : 10 ^ k = 10 ^ 19 * 10 ^ (k - 19) := by rw [← Nat.pow_add]; congr 1; omega
    rw [e, ← Nat.div_div_eq_div_mul, div19 m h, Nat.zero_div] at hk
    omega
  · exact c

/-- Twenty bytes, of which the last k hold the last k digits. -/
def buf (m k : Nat) : Array Value := ((List.range 20).map fun i => Value.int .u8 (if 20 ≤ i + k then (dig m (19 - i) : Int) else 0)).toArray
theorem buf_size (m k : Nat) : (buf m k).size = 20 := by simp [buf]
theorem buf_zero (m : Nat) : buf m 0 = #[.int .u8 0, .int .u8 0, .int .u8 0, .int .u8 0, .int .u8 0, .int .u8 0, .int .u8 0, .int .u8 0, .int .u8 0, .int .u8 0, .int .u8 0, .int .u8 0, .int .u8 0, .int .u8 0, .int .u8 0, .int .u8 0, .int .u8 0, .int .u8 0, .int .u8 0, .int .u8 0] := rfl
theorem buf_get (m k i : Nat) (h : i < 20) : (buf m k)[i]? = some (.int .u8 (if 20 ≤ i + k then (dig m (19 - i) : Int) else 0)) := by
  simp [buf, h]
theorem buf_set (m k : Nat) (h : k ≤ 19) : (buf m k).setIfInBounds (19 - k) (.int .u8 (dig m k : Int)) = buf m (k + 1) := by
  apply Array.ext_getElem?
  intro i
  rw [Array.getElem?_setIfInBounds]
  by_cases hi : i < 20
  · rw [buf_get m (k + 1) i hi]
    by_cases e : 19 - k = i
    · subst e
      rw [if_pos rfl, if_pos (by rw [buf_size]; omega), if_pos (by omega)]
      have : 19 - (19 - k) = k := by omega
      rw [this]
    · rw [if_neg e, buf_get m k i hi]
      by_cases c : 20 ≤ i + k
      · rw [if_pos c, if_pos (by omega)]
      · rw [if_neg c, if_neg (by omega)]
  · have a : (buf m k)[i]? = none := Array.getElem?_eq_none (by rw [buf_size]; omega)
    have b : (buf m (k + 1))[i]? = none := Array.getElem?_eq_none (by rw [buf_size]; omega)
    rw [a, b, if_neg (by omega)]
/-- What stands behind place 20 - k is the number's last k digits. -/
theorem buf_tail (m k j : Nat) (hk : k ≤ 20) (hj : j < k) : (buf m k)[20 - k + j]? = some (.int .u8 (((digs m k)[j]'(by rw [digs_length]; exact hj)).toNat : Int)) := by
  rw [buf_get m k _ (by omega), if_pos (by omega), digs_getElem m k j hj]
  have h := dig_lt m (k - 1 - j)
  have e : 19 - (20 - k + j) = k - 1 - j := by omega
  rw [e]
  have : (UInt8.ofNat (dig m (k - 1 - j))).toNat = dig m (k - 1 - j) := by simp; omega
  rw [this]
end Go.Proofs.YtphebogjmbaboaaDoor.S

/- What the operations on integers give, one operation after the other: the program's, and the document's own answer. -/
namespace Go.Proofs.YtphebogjmbaboaaDoor.K2
open Go.ChangeShapes Go.WideShapes Go.ChangeAt Go.RowKit
open Go.Proofs.YtphebogjmbaboaaDoor.M Go.Proofs.YtphebogjmbaboaaDoor.K1
set_option linter.unusedVariables false
set_option maxRecDepth 100000

/-- A number that is an integer of 63 bits. -/
structure In (n : Int) : Prop where
  lo : -4611686018427387904 ≤ n
  hi : n ≤ 4611686018427387903
theorem In.w63 (n : Int) : In (w63 n) := ⟨w63_lo n, w63_hi n⟩

theorem do_add (a b : Int) (w : World) (ha : In a) (hb : In b) :
    Calls Tryd.prog 51 #[.string ⟨#[43]⟩, .int .i64 a, .int .i64 b] w fun e w' => e = .returned (.tuple #[.int .i64 (w63 (a + b)), .int .i64 0]) ∧ w = w' := by
  obtain ⟨a0, a1⟩ := ha
  obtain ⟨b0, b1⟩ := hb
  go_enter Tryd.func51, Tryd.ntmps51
  go_wp2_with (first | (go_at_call 71; refine (int_yes _ _ (by omega) (by omega)).mono ?_; rintro e w' ⟨rfl, rfl⟩) | (go_at_call 72; refine (wrap_any _ _ (by omega) (by omega)).mono ?_; rintro e w' ⟨rfl, rfl⟩))
  go_ret2
  exact ⟨rfl, rfl⟩

theorem do_sub (a b : Int) (w : World) (ha : In a) (hb : In b) :
    Calls Tryd.prog 51 #[.string ⟨#[45]⟩, .int .i64 a, .int .i64 b] w fun e w' => e = .returned (.tuple #[.int .i64 (w63 (a - b)), .int .i64 0]) ∧ w = w' := by
  obtain ⟨a0, a1⟩ := ha
  obtain ⟨b0, b1⟩ := hb
  go_enter Tryd.func51, Tryd.ntmps51
  go_wp2_with (first | (go_at_call 71; refine (int_yes _ _ (by omega) (by omega)).mono ?_; rintro e w' ⟨rfl, rfl⟩) | (go_at_call 72; refine (wrap_any _ _ (by omega) (by omega)).mono ?_; rintro e w' ⟨rfl, rfl⟩))
  go_ret2
  exact ⟨rfl, rfl⟩

theorem do_mul (a b : Int) (w : World) (ha : In a) (hb : In b) :
    Calls Tryd.prog 51 #[.string ⟨#[42]⟩, .int .i64 a, .int .i64 b] w fun e w' => e = .returned (.tuple #[.int .i64 (w63 (a * b)), .int .i64 0]) ∧ w = w' := by
  obtain ⟨a0, a1⟩ := ha
  obtain ⟨b0, b1⟩ := hb
  go_enter Tryd.func51, Tryd.ntmps51
  go_wp2_with (first | (go_at_call 71; refine (int_yes _ _ (by omega) (by omega)).mono ?_; rintro e w' ⟨rfl, rfl⟩) | (go_at_call 72; refine (wrap_any _ _ (wrap64_lo _) (wrap64_hi _)).mono ?_; rintro e w' ⟨rfl, rfl⟩))
  go_ret2
  exact ⟨ret2 (w63_wrap64 _), rfl⟩

theorem do_quo (a b : Int) (w : World) (ha : In a) (hb : In b) (h : b ≠ 0) :
    Calls Tryd.prog 51 #[.string ⟨#[47]⟩, .int .i64 a, .int .i64 b] w fun e w' => e = .returned (.tuple #[.int .i64 (w63 (a.tdiv b)), .int .i64 0]) ∧ w = w' := by
  obtain ⟨a0, a1⟩ := ha
  obtain ⟨b0, b1⟩ := hb
  have e1 : (b != 0) = true := by rw [bne_iff_ne]; exact h
  have e2 : ¬ b = 0 := h
  clear h
  go_enter Tryd.func51, Tryd.ntmps51
  go_wp2_with (first | (go_at_call 71; refine (int_yes _ _ (by omega) (by omega)).mono ?_; rintro e w' ⟨rfl, rfl⟩) | (go_at_call 72; refine (wrap_any _ _ (wrap64_lo _) (wrap64_hi _)).mono ?_; rintro e w' ⟨rfl, rfl⟩))
  go_ret2
  exact ⟨ret2 (w63_wrap64 _), rfl⟩

theorem do_rem (a b : Int) (w : World) (ha : In a) (hb : In b) (h : b ≠ 0) :
    Calls Tryd.prog 51 #[.string ⟨#[37]⟩, .int .i64 a, .int .i64 b] w fun e w' => e = .returned (.tuple #[.int .i64 (a.tmod b), .int .i64 0]) ∧ w = w' := by
  obtain ⟨a0, a1⟩ := ha
  obtain ⟨b0, b1⟩ := hb
  have e1 : (b == 0) = false := beq_eq_false_iff_ne.2 h
  have e2 : ¬ b = 0 := h
  clear h
  go_enter Tryd.func51, Tryd.ntmps51
  go_wp2_with (go_at_call 71; refine (int_yes _ _ (by omega) (by omega)).mono ?_; rintro e w' ⟨rfl, rfl⟩)
  go_ret2
  exact ⟨rfl, rfl⟩

theorem do_quo0 (a : Int) (w : World) (ha : In a) :
    Calls Tryd.prog 51 #[.string ⟨#[47]⟩, .int .i64 a, .int .i64 0] w fun e w' => e = .returned (.tuple #[.int .i64 0, .int .i64 3]) ∧ w = w' := by
  obtain ⟨a0, a1⟩ := ha
  go_enter Tryd.func51, Tryd.ntmps51
  go_wp2_with (go_at_call 71; refine (int_yes _ _ (by omega) (by omega)).mono ?_; rintro e w' ⟨rfl, rfl⟩)
  go_ret2
  exact ⟨rfl, rfl⟩

theorem do_rem0 (a : Int) (w : World) (ha : In a) :
    Calls Tryd.prog 51 #[.string ⟨#[37]⟩, .int .i64 a, .int .i64 0] w fun e w' => e = .returned (.tuple #[.int .i64 0, .int .i64 3]) ∧ w = w' := by
  obtain ⟨a0, a1⟩ := ha
  go_enter Tryd.func51, Tryd.ntmps51
  go_wp2_with (go_at_call 71; refine (int_yes _ _ (by omega) (by omega)).mono ?_; rintro e w' ⟨rfl, rfl⟩)
  go_ret2
  exact ⟨rfl, rfl⟩

theorem do_eq (a b : Int) (w : World) (ha : In a) (hb : In b) :
    Calls Tryd.prog 51 #[.string ⟨#[61]⟩, .int .i64 a, .int .i64 b] w fun e w' => e = .returned (.tuple #[.int .i64 (tr (a == b)), .int .i64 0]) ∧ w = w' := by
  obtain ⟨a0, a1⟩ := ha
  obtain ⟨b0, b1⟩ := hb
  go_enter Tryd.func51, Tryd.ntmps51
  go_wp2_with (first | (go_at_call 71; refine (int_yes _ _ (by omega) (by omega)).mono ?_; rintro e w' ⟨rfl, rfl⟩) | (go_at_call 73; refine (truth_any _ _).mono ?_; rintro e w' ⟨rfl, rfl⟩))
  go_ret2
  exact ⟨rfl, rfl⟩

theorem do_lt (a b : Int) (w : World) (ha : In a) (hb : In b) :
    Calls Tryd.prog 51 #[.string ⟨#[60]⟩, .int .i64 a, .int .i64 b] w fun e w' => e = .returned (.tuple #[.int .i64 (tr (decide (a < b))), .int .i64 0]) ∧ w = w' := by
  obtain ⟨a0, a1⟩ := ha
  obtain ⟨b0, b1⟩ := hb
  go_enter Tryd.func51, Tryd.ntmps51
  go_wp2_with (first | (go_at_call 71; refine (int_yes _ _ (by omega) (by omega)).mono ?_; rintro e w' ⟨rfl, rfl⟩) | (go_at_call 73; refine (truth_any _ _).mono ?_; rintro e w' ⟨rfl, rfl⟩))
  go_ret2
  exact ⟨rfl, rfl⟩

/-! The same, each with its answer named by the caller. -/
theorem rwrap_as (n c : Int) (w : World) (h0 : -9223372036854775808 ≤ n) (h1 : n ≤ 9223372036854775807) (h : w63 n = c) :
    Calls Tryd.prog 32 #[.int .i64 n] w fun e w' => e = .returned (.int .i64 c) ∧ w = w' := by
  subst h; exact rwrap_any n w h0 h1
theorem do_add_as (a b c : Int) (w : World) (ha : In a) (hb : In b) (h : w63 (a + b) = c) :
    Calls Tryd.prog 51 #[.string ⟨#[43]⟩, .int .i64 a, .int .i64 b] w fun e w' => e = .returned (.tuple #[.int .i64 c, .int .i64 0]) ∧ w = w' := by
  subst h; exact do_add a b w ha hb
theorem do_sub_as (a b c : Int) (w : World) (ha : In a) (hb : In b) (h : w63 (a - b) = c) :
    Calls Tryd.prog 51 #[.string ⟨#[45]⟩, .int .i64 a, .int .i64 b] w fun e w' => e = .returned (.tuple #[.int .i64 c, .int .i64 0]) ∧ w = w' := by
  subst h; exact do_sub a b w ha hb
theorem do_mul_as (a b c : Int) (w : World) (ha : In a) (hb : In b) (h : w63 (a * b) = c) :
    Calls Tryd.prog 51 #[.string ⟨#[42]⟩, .int .i64 a, .int .i64 b] w fun e w' => e = .returned (.tuple #[.int .i64 c, .int .i64 0]) ∧ w = w' := by
  subst h; exact do_mul a b w ha hb
theorem do_quo_as (a b c : Int) (w : World) (ha : In a) (hb : In b) (h0 : b ≠ 0) (h : w63 (a.tdiv b) = c) :
    Calls Tryd.prog 51 #[.string ⟨#[47]⟩, .int .i64 a, .int .i64 b] w fun e w' => e = .returned (.tuple #[.int .i64 c, .int .i64 0]) ∧ w = w' := by
  subst h; exact do_quo a b w ha hb h0
theorem do_rem_as (a b c : Int) (w : World) (ha : In a) (hb : In b) (h0 : b ≠ 0) (h : a.tmod b = c) :
    Calls Tryd.prog 51 #[.string ⟨#[37]⟩, .int .i64 a, .int .i64 b] w fun e w' => e = .returned (.tuple #[.int .i64 c, .int .i64 0]) ∧ w = w' := by
  subst h; exact do_rem a b w ha hb h0
theorem do_eq_as (a b c : Int) (w : World) (ha : In a) (hb : In b) (h : tr (a == b) = c) :
    Calls Tryd.prog 51 #[.string ⟨#[61]⟩, .int .i64 a, .int .i64 b] w fun e w' => e = .returned (.tuple #[.int .i64 c, .int .i64 0]) ∧ w = w' := by
  subst h; exact do_eq a b w ha hb
theorem do_lt_as (a b c : Int) (w : World) (ha : In a) (hb : In b) (h : tr (decide (a < b)) = c) :
    Calls Tryd.prog 51 #[.string ⟨#[60]⟩, .int .i64 a, .int .i64 b] w fun e w' => e = .returned (.tuple #[.int .i64 c, .int .i64 0]) ∧ w = w' := by
  subst h; exact do_lt a b w ha hb

end Go.Proofs.YtphebogjmbaboaaDoor.K2

/- What Show gives: the number's digits, put into an array from its end on. -/
namespace Go.Proofs.YtphebogjmbaboaaDoor.K3
open Go.ChangeShapes Go.WideShapes Go.ChangeAt Go.RowKit
open Go.Proofs.YtphebogjmbaboaaDoor.M Go.Proofs.YtphebogjmbaboaaDoor.K1 Go.Proofs.YtphebogjmbaboaaDoor.S
set_option linter.unusedVariables false
set_option maxRecDepth 100000

theorem add_plain (b o j : Nat) : (⟨b, o, none⟩ : Addr).add j = ⟨b, o + j, none⟩ := by unfold Addr.add; split <;> simp_all

theorem ret_str {a b : List UInt8} (h : a = b) : Ending.returned (.string ⟨a.toArray⟩) = .returned (.string ⟨b.toArray⟩) := by rw [h]

/-- The same with the sign ahead. -/
theorem neg_tail (m k o : Nat) (hk : k ≤ 19) (ho : o + k = 19) (j : Nat) (hj : j < (45 :: digs m k).length) :
    ((buf m k).setIfInBounds o (.int .u8 45))[o + j]? = some (.int .u8 (((45 :: digs m k)[j]).toNat : Int)) := by
  rw [Array.getElem?_setIfInBounds]
  cases j with
  | zero => rw [if_pos (by omega), if_pos (by rw [buf_size]; omega)]; rfl
  | succ j =>
    rw [List.length_cons, digs_length] at hj
    rw [if_neg (by omega), show o + (j + 1) = 20 - k + j from by omega, buf_tail m k j (by omega) (by omega)]
    rfl

end Go.Proofs.YtphebogjmbaboaaDoor.K3

/- The document's examples hold. -/
namespace Go.Proofs.YtphebogjmbaboaaDoor.K4
open Go.ChangeShapes Go.WideShapes Go.ChangeAt Go.RowKit
open Go.Proofs.YtphebogjmbaboaaDoor.M Go.Proofs.YtphebogjmbaboaaDoor.K1 Go.Proofs.YtphebogjmbaboaaDoor.K2 Go.Proofs.YtphebogjmbaboaaDoor.K3 Go.Proofs.YtphebogjmbaboaaDoor.S
set_option linter.unusedVariables false
set_option maxRecDepth 100000

theorem ex_add (w : World) : Calls Tryd.prog 51 #[.string ⟨#[43]⟩, .int .i64 4611686018427387903, .int .i64 1] w fun e w' => e = .returned (.tuple #[.int .i64 (-4611686018427387904), .int .i64 0]) ∧ w = w' :=
  do_add 4611686018427387903 1 w ⟨by omega, by omega⟩ ⟨by omega, by omega⟩
theorem ex_quo (w : World) : Calls Tryd.prog 51 #[.string ⟨#[47]⟩, .int .i64 (-7), .int .i64 2] w fun e w' => e = .returned (.tuple #[.int .i64 (-3), .int .i64 0]) ∧ w = w' :=
  do_quo (-7) 2 w ⟨by omega, by omega⟩ ⟨by omega, by omega⟩ (by omega)
theorem ex_rem (w : World) : Calls Tryd.prog 51 #[.string ⟨#[37]⟩, .int .i64 (-7), .int .i64 2] w fun e w' => e = .returned (.tuple #[.int .i64 (-1), .int .i64 0]) ∧ w = w' :=
  do_rem (-7) 2 w ⟨by omega, by omega⟩ ⟨by omega, by omega⟩ (by omega)
theorem ex_tag (w : World) : Calls Tryd.prog 52 #[.int .i64 3] w fun e w' => e = .returned (.int .i64 7) ∧ w = w' :=
  tag_any 3 w (by omega) (by omega)
theorem ex_point (w : World) : Calls Tryd.prog 63 #[.int .i64 4] w fun e w' => e = .returned (.int .i64 8) ∧ w = w' :=
  point_yes 4 w (by omega) (by omega)
theorem min_text : showL (w63 (-4611686018427387904)) = [45, 52, 54, 49, 49, 54, 56, 54, 48, 49, 56, 52, 50, 55, 51, 56, 55, 57, 48, 52] := by decide +kernel
end Go.Proofs.YtphebogjmbaboaaDoor.K4

/- The document's own answer for sums, products and the like: what its parts give. -/
namespace Go.Proofs.YtphebogjmbaboaaDoor.K5
open Go.ChangeShapes Go.WideShapes Go.ChangeAt Go.RowKit
open Go.Proofs.YtphebogjmbaboaaDoor.M Go.Proofs.YtphebogjmbaboaaDoor.K1 Go.Proofs.YtphebogjmbaboaaDoor.K2
set_option linter.unusedVariables false
set_option maxRecDepth 100000

theorem radd_any (a b : Int) (w : World) (ha : In a) (hb : In b) :
    Calls Tryd.prog 58 #[.int .i64 a, .int .i64 b] w fun e w' => e = .returned (.int .i64 (w63 (a + b))) ∧ w = w' := by
  obtain ⟨a0, a1⟩ := ha
  obtain ⟨b0, b1⟩ := hb
  go_enter Tryd.func58, Tryd.ntmps58
  go_wp2_with (go_at_call 32; refine (rwrap_any _ _ (by omega) (by omega)).mono ?_; rintro e w' ⟨rfl, rfl⟩)
  go_ret
  exact ⟨rfl, rfl⟩

/-- What is out already, and what is left, come to the product. -/
def Left (T A O : Int) (m : Nat) : Prop := w63 (O + A * (m : Int)) = T
theorem left_even {T A O : Int} {m : Nat} (h : Left T A O m) (e : m % 2 = 0) : Left T (w63 (A + A)) O (m / 2) := by
  unfold Left at *
  rw [← h]
  have k : (m : Int) = 2 * ((m / 2 : Nat) : Int) := by omega
  rw [← w63_add_r, w63_mul_l, w63_add_r]
  congr 1
  rw [k, ← Int.mul_assoc, show A * 2 = A + A from by omega]
theorem left_odd {T A O : Int} {m : Nat} (h : Left T A O m) (e : m % 2 = 1) : Left T (w63 (A + A)) (w63 (O + A)) (m / 2) := by
  unfold Left at *
  rw [← h]
  have k : (m : Int) = 2 * ((m / 2 : Nat) : Int) + 1 := by omega
  rw [w63_add_l, ← w63_add_r, w63_mul_l, w63_add_r]
  congr 1
  rw [show A * (m : Int) = A * (2 * ((m / 2 : Nat) : Int) + 1) from by rw [← k], Int.mul_add, ← Int.mul_assoc, show A * 2 = A + A from by omega]
  omega
theorem half_lt {m i : Nat} (h : m < 2 ^ (63 - i)) (hi : i < 63) : m / 2 < 2 ^ (63 - (i + 1)) := by
  have e : 63 - i = (63 - (i + 1)) + 1 := by omega
  rw [e, Nat.pow_succ] at h
  omega

theorem rmul_pos (a : Int) (m : Nat) (w : World) (ha : In a) (hm : m ≤ 4611686018427387904) :
    Calls Tryd.prog 59 #[.int .i64 a, .int .i64 (m : Int)] w fun e w' => e = .returned (.int .i64 (w63 (a * m))) ∧ w = w' := by
  have ha' := ha
  obtain ⟨a0, a1⟩ := ha'
  have hm63 : m < 2 ^ (63 - 0) := by omega
  go_enter Tryd.func59, Tryd.ntmps59
  go_wp2
  go_loop [0, 1, 6, 7] (fun x y o t => ∃ (i n : Nat) (A O : Int), i ≤ 63 ∧ n < 2 ^ (63 - i) ∧ In A ∧ In O ∧ Left (w63 (a * m)) A O n ∧ x = .int .i64 A ∧ y = .int .i64 (n : Int) ∧ o = .int .i64 O ∧ t = .int .i64 (i : Int)) (fun _ _ _ t => 63 - (intOf t).toNat)
  case atStart => exact ⟨0, m, a, 0, by omega, hm63, ha, ⟨by omega, by omega⟩, by unfold Left; rw [Int.zero_add], rfl, rfl, rfl, rfl⟩
  case round =>
    obtain ⟨i, n, A, O, hi, hn, iA, iO, hL, rfl, rfl, rfl, rfl⟩ := hrel
    obtain ⟨A0, A1⟩ := iA
    obtain ⟨O0, O1⟩ := iO
    have hn63 : n < 2 ^ 63 := Nat.lt_of_lt_of_le hn (Nat.pow_le_pow_right (by omega) (by omega))
    have HN := Lib.hid hn
    clear hn hm63 ha
    by_cases hlt : i < 63
    · by_cases hp : n % 2 = 0
      · have hb : ((n : Int) % 2 != 0) = false := by rw [bne_eq_false_iff_eq]; omega
        have HL := Lib.hid (left_even hL hp)
        clear hL hp
        go_wp2_with (go_at_call 32; refine (rwrap_any _ _ (by omega) (by omega)).mono ?_; rintro e w' ⟨rfl, rfl⟩)
        go_round
        case rel => exact ⟨i + 1, n / 2, w63 (A + A), O, by omega, half_lt HN.out hlt, In.w63 _, ⟨O0, O1⟩, HL.out, rfl, by go_num, rfl, by go_num⟩
        case measure => simp [intOf]; omega
      · have hb : ((n : Int) % 2 != 0) = true := by rw [bne_iff_ne]; omega
        have HL := Lib.hid (left_odd hL (by omega))
        clear hL hp
        go_wp2_with (go_at_call 32; refine (rwrap_any _ _ (by omega) (by omega)).mono ?_; rintro e w' ⟨rfl, rfl⟩)
        go_round
        case rel => exact ⟨i + 1, n / 2, w63 (A + A), w63 (O + A), by omega, half_lt HN.out hlt, In.w63 _, In.w63 _, HL.out, rfl, by go_num, rfl, by go_num⟩
        case measure => simp [intOf]; omega
    · have h63 : i = 63 := by omega
      have hO : O = w63 (a * m) := by
        have hz := HN.out
        rw [h63] at hz
        have hz0 : n = 0 := by omega
        unfold Left at hL
        rw [← hL, hz0]
        simp only [Int.natCast_zero, Int.mul_zero, Int.add_zero]
        exact (w63_id O O0 O1).symm
      have HO := Lib.hid hO
      clear hO hL h63
      go_wp2
      go_ret
      exact ⟨ret_int HO.out, rfl⟩
theorem rmul_neg (a : Int) (m : Nat) (w : World) (ha : In a) (hm : m ≤ 4611686018427387904) (hm1 : 1 ≤ m) :
    Calls Tryd.prog 59 #[.int .i64 a, .int .i64 (-(m : Int))] w fun e w' => e = .returned (.int .i64 (w63 (a * -(m : Int)))) ∧ w = w' := by
  have ha' := ha
  obtain ⟨a0, a1⟩ := ha'
  have hm63 : m < 2 ^ (63 - 0) := by omega
  go_enter Tryd.func59, Tryd.ntmps59
  go_wp2
  go_loop [0, 1, 6, 7] (fun x y o t => ∃ (i n : Nat) (A O : Int), i ≤ 63 ∧ n < 2 ^ (63 - i) ∧ In A ∧ In O ∧ Left (w63 (a * m)) A O n ∧ x = .int .i64 A ∧ y = .int .i64 (-(n : Int)) ∧ o = .int .i64 O ∧ t = .int .i64 (i : Int)) (fun _ _ _ t => 63 - (intOf t).toNat)
  case atStart => exact ⟨0, m, a, 0, by omega, hm63, ha, ⟨by omega, by omega⟩, by unfold Left; rw [Int.zero_add], rfl, rfl, rfl, rfl⟩
  case round =>
    obtain ⟨i, n, A, O, hi, hn, iA, iO, hL, rfl, rfl, rfl, rfl⟩ := hrel
    obtain ⟨A0, A1⟩ := iA
    obtain ⟨O0, O1⟩ := iO
    have hn63 : n < 2 ^ 63 := Nat.lt_of_lt_of_le hn (Nat.pow_le_pow_right (by omega) (by omega))
    have HN := Lib.hid hn
    have ht : (-(n : Int)).tmod 2 = -((n : Int) % 2) := by rw [tmod_neg_l, tmod_pos _ _ (by omega)]
    have hq : (-(n : Int)).tdiv 2 = -((n : Int) / 2) := by rw [tdiv_neg_l, tdiv_pos _ _ (by omega)]
    clear hn hm63 ha
    by_cases hlt : i < 63
    · by_cases hp : n % 2 = 0
      · have hb : (-((n : Int) % 2) != 0) = false := by rw [bne_eq_false_iff_eq]; omega
        have HL := Lib.hid (left_even hL hp)
        clear hL hp
        go_wp2_with (go_at_call 32; refine (rwrap_any _ _ (by omega) (by omega)).mono ?_; rintro e w' ⟨rfl, rfl⟩)
        go_round
        case rel => exact ⟨i + 1, n / 2, w63 (A + A), O, by omega, half_lt HN.out hlt, In.w63 _, ⟨O0, O1⟩, HL.out, rfl, by go_num, rfl, by go_num⟩
        case measure => simp [intOf]; omega
      · have hb : (-((n : Int) % 2) != 0) = true := by rw [bne_iff_ne]; omega
        have HL := Lib.hid (left_odd hL (by omega))
        clear hL hp
        go_wp2_with (go_at_call 32; refine (rwrap_any _ _ (by omega) (by omega)).mono ?_; rintro e w' ⟨rfl, rfl⟩)
        go_round
        case rel => exact ⟨i + 1, n / 2, w63 (A + A), w63 (O + A), by omega, half_lt HN.out hlt, In.w63 _, In.w63 _, HL.out, rfl, by go_num, rfl, by go_num⟩
        case measure => simp [intOf]; omega
    · have h63 : i = 63 := by omega
      have hO : O = w63 (a * m) := by
        have hz := HN.out
        rw [h63] at hz
        have hz0 : n = 0 := by omega
        unfold Left at hL
        rw [← hL, hz0]
        simp only [Int.natCast_zero, Int.mul_zero, Int.add_zero]
        exact (w63_id O O0 O1).symm
      have HO := Lib.hid hO
      clear hO hL h63
      go_wp2_with (go_at_call 32; refine (rwrap_any _ _ (by omega) (by omega)).mono ?_; rintro e w' ⟨rfl, rfl⟩)
      go_ret
      exact ⟨ret_int (by rw [HO.out, w63_neg, Int.mul_neg]), rfl⟩
theorem rmul_any (a b : Int) (w : World) (ha : In a) (hb : In b) :
    Calls Tryd.prog 59 #[.int .i64 a, .int .i64 b] w fun e w' => e = .returned (.int .i64 (w63 (a * b))) ∧ w = w' := by
  obtain ⟨b0, b1⟩ := hb
  by_cases h : 0 ≤ b
  · obtain ⟨m, rfl⟩ := Int.eq_ofNat_of_zero_le h
    exact rmul_pos a m w ha (by omega)
  · obtain ⟨m, hm⟩ := Int.eq_ofNat_of_zero_le (show 0 ≤ -b by omega)
    obtain rfl : b = -(m : Int) := by omega
    exact rmul_neg a m w ha (by omega) (by omega)

theorem rdo_add (a b : Int) (w : World) (ia : In a) (ib : In b) :
    Calls Tryd.prog 33 #[.string ⟨#[43]⟩, .int .i64 a, .int .i64 b] w fun e w' => e = .returned (.tuple #[.int .i64 (w63 (a + b)), .int .i64 0]) ∧ w = w' := by
  have ia' := ia
  obtain ⟨a0, a1⟩ := ia'
  have ib' := ib
  obtain ⟨b0, b1⟩ := ib'
  go_enter Tryd.func33, Tryd.ntmps33
  go_wp2_with (first | (go_at_call 57; refine (is_yes _ _ (by omega) (by omega)).mono ?_; rintro e w' ⟨rfl, rfl⟩) | (go_at_call 58; refine (radd_any _ _ _ ia ib).mono ?_; rintro e w' ⟨rfl, rfl⟩))
  go_ret2
  exact ⟨rfl, rfl⟩

theorem rdo_sub (a b : Int) (w : World) (ia : In a) (ib : In b) :
    Calls Tryd.prog 33 #[.string ⟨#[45]⟩, .int .i64 a, .int .i64 b] w fun e w' => e = .returned (.tuple #[.int .i64 (w63 (a - b)), .int .i64 0]) ∧ w = w' := by
  have ia' := ia
  obtain ⟨a0, a1⟩ := ia'
  have ib' := ib
  obtain ⟨b0, b1⟩ := ib'
  go_enter Tryd.func33, Tryd.ntmps33
  go_wp2_with (first | (go_at_call 57; refine (is_yes _ _ (by omega) (by omega)).mono ?_; rintro e w' ⟨rfl, rfl⟩) | (go_at_call 32; refine (rwrap_any _ _ (by omega) (by omega)).mono ?_; rintro e w' ⟨rfl, rfl⟩))
  go_ret2
  exact ⟨rfl, rfl⟩

theorem rdo_mul (a b : Int) (w : World) (ia : In a) (ib : In b) :
    Calls Tryd.prog 33 #[.string ⟨#[42]⟩, .int .i64 a, .int .i64 b] w fun e w' => e = .returned (.tuple #[.int .i64 (w63 (a * b)), .int .i64 0]) ∧ w = w' := by
  have ia' := ia
  obtain ⟨a0, a1⟩ := ia'
  have ib' := ib
  obtain ⟨b0, b1⟩ := ib'
  go_enter Tryd.func33, Tryd.ntmps33
  go_wp2_with (first | (go_at_call 57; refine (is_yes _ _ (by omega) (by omega)).mono ?_; rintro e w' ⟨rfl, rfl⟩) | (go_at_call 59; refine (rmul_any _ _ _ ia ib).mono ?_; rintro e w' ⟨rfl, rfl⟩))
  go_ret2
  exact ⟨rfl, rfl⟩

theorem rdo_quo (a b : Int) (w : World) (ia : In a) (ib : In b) (h : b ≠ 0) :
    Calls Tryd.prog 33 #[.string ⟨#[47]⟩, .int .i64 a, .int .i64 b] w fun e w' => e = .returned (.tuple #[.int .i64 (w63 (a.tdiv b)), .int .i64 0]) ∧ w = w' := by
  have ia' := ia
  obtain ⟨a0, a1⟩ := ia'
  have ib' := ib
  obtain ⟨b0, b1⟩ := ib'
  have e1 : (b == 0) = false := beq_eq_false_iff_ne.2 h
  have e2 : ¬ b = 0 := h
  clear h
  go_enter Tryd.func33, Tryd.ntmps33
  go_wp2_with (first | (go_at_call 57; refine (is_yes _ _ (by omega) (by omega)).mono ?_; rintro e w' ⟨rfl, rfl⟩) | (go_at_call 32; refine (rwrap_any _ _ (wrap64_lo _) (wrap64_hi _)).mono ?_; rintro e w' ⟨rfl, rfl⟩))
  go_ret2
  exact ⟨ret2 (w63_wrap64 _), rfl⟩

theorem rdo_rem (a b : Int) (w : World) (ia : In a) (ib : In b) (h : b ≠ 0) :
    Calls Tryd.prog 33 #[.string ⟨#[37]⟩, .int .i64 a, .int .i64 b] w fun e w' => e = .returned (.tuple #[.int .i64 (a.tmod b), .int .i64 0]) ∧ w = w' := by
  have ia' := ia
  obtain ⟨a0, a1⟩ := ia'
  have ib' := ib
  obtain ⟨b0, b1⟩ := ib'
  have e1 : (b == 0) = false := beq_eq_false_iff_ne.2 h
  have e2 : ¬ b = 0 := h
  clear h
  go_enter Tryd.func33, Tryd.ntmps33
  go_wp2_with (first | (go_at_call 57; refine (is_yes _ _ (by omega) (by omega)).mono ?_; rintro e w' ⟨rfl, rfl⟩))
  go_ret2
  exact ⟨ret2 (rem_code a b a0 a1), rfl⟩

theorem rdo_quo0 (a : Int) (w : World) (ia : In a) :
    Calls Tryd.prog 33 #[.string ⟨#[47]⟩, .int .i64 a, .int .i64 0] w fun e w' => e = .returned (.tuple #[.int .i64 0, .int .i64 3]) ∧ w = w' := by
  have ia' := ia
  obtain ⟨a0, a1⟩ := ia'
  go_enter Tryd.func33, Tryd.ntmps33
  go_wp2_with (first | (go_at_call 57; refine (is_yes _ _ (by omega) (by omega)).mono ?_; rintro e w' ⟨rfl, rfl⟩))
  go_ret2
  exact ⟨rfl, rfl⟩

theorem rdo_rem0 (a : Int) (w : World) (ia : In a) :
    Calls Tryd.prog 33 #[.string ⟨#[37]⟩, .int .i64 a, .int .i64 0] w fun e w' => e = .returned (.tuple #[.int .i64 0, .int .i64 3]) ∧ w = w' := by
  have ia' := ia
  obtain ⟨a0, a1⟩ := ia'
  go_enter Tryd.func33, Tryd.ntmps33
  go_wp2_with (first | (go_at_call 57; refine (is_yes _ _ (by omega) (by omega)).mono ?_; rintro e w' ⟨rfl, rfl⟩))
  go_ret2
  exact ⟨rfl, rfl⟩

theorem rdo_eq (a b : Int) (w : World) (ia : In a) (ib : In b) :
    Calls Tryd.prog 33 #[.string ⟨#[61]⟩, .int .i64 a, .int .i64 b] w fun e w' => e = .returned (.tuple #[.int .i64 (tr ((a == b))), .int .i64 0]) ∧ w = w' := by
  obtain ⟨a0, a1⟩ := ia
  obtain ⟨b0, b1⟩ := ib
  by_cases h : a = b
  · have g : (a == b) = true := by simp [h]
    rw [show tr ((a == b)) = 1 from by rw [g]; rfl]
    clear h
    go_enter Tryd.func33, Tryd.ntmps33
    go_wp2_with (first | (go_at_call 57; refine (is_yes _ _ (by omega) (by omega)).mono ?_; rintro e w' ⟨rfl, rfl⟩))
    go_ret2
    exact ⟨rfl, rfl⟩
  · have g : (a == b) = false := by simp [h]
    rw [show tr ((a == b)) = 0 from by rw [g]; rfl]
    clear h
    go_enter Tryd.func33, Tryd.ntmps33
    go_wp2_with (first | (go_at_call 57; refine (is_yes _ _ (by omega) (by omega)).mono ?_; rintro e w' ⟨rfl, rfl⟩))
    go_ret2
    exact ⟨rfl, rfl⟩

theorem rdo_lt (a b : Int) (w : World) (ia : In a) (ib : In b) :
    Calls Tryd.prog 33 #[.string ⟨#[60]⟩, .int .i64 a, .int .i64 b] w fun e w' => e = .returned (.tuple #[.int .i64 (tr (decide (a < b))), .int .i64 0]) ∧ w = w' := by
  obtain ⟨a0, a1⟩ := ia
  obtain ⟨b0, b1⟩ := ib
  by_cases h : a < b
  · have g : decide (a < b) = true := by simp [h]
    rw [show tr (decide (a < b)) = 1 from by rw [g]; rfl]
    skip
    go_enter Tryd.func33, Tryd.ntmps33
    go_wp2_with (first | (go_at_call 57; refine (is_yes _ _ (by omega) (by omega)).mono ?_; rintro e w' ⟨rfl, rfl⟩))
    go_ret2
    exact ⟨rfl, rfl⟩
  · have g : decide (a < b) = false := by simp [h]
    rw [show tr (decide (a < b)) = 0 from by rw [g]; rfl]
    skip
    go_enter Tryd.func33, Tryd.ntmps33
    go_wp2_with (first | (go_at_call 57; refine (is_yes _ _ (by omega) (by omega)).mono ?_; rintro e w' ⟨rfl, rfl⟩))
    go_ret2
    exact ⟨rfl, rfl⟩

end Go.Proofs.YtphebogjmbaboaaDoor.K5
