/- The number of some bytes, by the program: the walk. -/
import Derived.Test.YtpommjmlenfknaaQD
import Derived.Laws.BitsLemmas
namespace Go.Proofs.Ytpommjmlenfknaa.QE
open Go.RowKit Go.Proofs.Ytpommjmlenfknaa.RG Go.Proofs.Ytpommjmlenfknaa.KA Go.Proofs.Ytpommjmlenfknaa.KB Go.Proofs.Ytpommjmlenfknaa.KD Go.Proofs.Ytpommjmlenfknaa.QA Go.Proofs.Ytpommjmlenfknaa.QB
set_option linter.unusedVariables false
set_option maxRecDepth 100000
set_option maxRecDepth 100000

theorem le_snoc : ∀ (l : By) (b : UInt8), le (l ++ [b]) = le l + b.toNat * 256 ^ l.length
  | [], b => by simp [le]
  | a :: l, b => by
    show a.toNat + 256 * le (l ++ [b]) = (a.toNat + 256 * le l) + b.toNat * 256 ^ (l.length + 1)
    rw [le_snoc l b, Nat.pow_succ, Nat.mul_add, ← Nat.add_assoc]
    congr 1
    rw [Nat.mul_comm 256, Nat.mul_assoc]
theorem wrap_sg (n : Nat) (h : n < 18446744073709551616) : IntKind.i64.wrap (n : Int) = sg n := by
  rw [IntKind.wrap_i64]
  unfold sg
  split <;> omega
theorem or_step (i n x : Nat) (hi : i ≤ 7) (hn : n < 256 ^ i) (hx : x < 256) : bits .or .i64 (n : Int) (IntKind.i64.wrap ((x : Int) * 2 ^ (8 * i))) = sg (n + x * 256 ^ i) := by
  have hp : (256 : Nat) ^ i = 2 ^ (8 * i) := by rw [show (256 : Nat) = 2 ^ 8 from rfl, ← Nat.pow_mul]
  have hq : (2 : Nat) ^ (8 * i) ≤ 2 ^ 56 := Nat.pow_le_pow_right (by decide) (by omega)
  rw [hp] at hn ⊢
  have hz : (x : Int) * 2 ^ (8 * i) = ((x * 2 ^ (8 * i) : Nat) : Int) := by push_cast; rfl
  obtain ⟨P, hP⟩ : ∃ P : Nat, 2 ^ (8 * i) = P := ⟨_, rfl⟩
  have hb : x * P < 18446744073709551616 := by
    rw [← hP]
    have h1 : x * 2 ^ (8 * i) ≤ 255 * 2 ^ 56 := Nat.mul_le_mul (by omega) hq
    exact Nat.lt_of_le_of_lt h1 (by decide)
  have hb2 : n + x * P < 18446744073709551616 := by
    rw [hP] at hn hq
    have h1 : (x + 1) * P ≤ 256 * 2 ^ 56 := Nat.mul_le_mul (by omega) hq
    rw [Nat.succ_mul] at h1
    have : (256 : Nat) * 2 ^ 56 = 18446744073709551616 := by decide
    omega
  have e1 : (BitVec.ofInt 64 (n : Int)).toNat = n := by
    rw [BitVec.toNat_ofInt]
    have : n < 18446744073709551616 := by omega
    omega
  have e2 : (BitVec.ofInt 64 (IntKind.i64.wrap ((x : Int) * 2 ^ (8 * i)))).toNat = x * 2 ^ (8 * i) := by
    rw [hz, hP, wrap_sg _ hb, BitVec.toNat_ofInt]
    unfold sg
    split <;> omega
  show IntKind.i64.wrap ((BitVec.ofInt 64 (n : Int) ||| BitVec.ofInt 64 _).toNat : Nat) = _
  rw [BitVec.toNat_or, e1, e2, Nat.or_comm, Nat.mul_comm x, ← Nat.two_pow_add_eq_or_of_lt hn x, hP, Nat.mul_comm P, Nat.add_comm, wrap_sg _ hb2]
set_option maxHeartbeats 4000000 in
theorem number_c (v : Value) (l : By) (w : World) (S : Nat → Prop) (h : RowR TB w S v l) (hl : l.length ≤ 8) : Calls Try.prog 37 #[v] w fun e w' => e = .returned (.int .i64 (num l)) ∧ w' = w := by
  obtain ⟨ao, cap, rfl, hcap⟩ := h.val
  have HH := Lib.hid h
  obtain ⟨N, hN⟩ : ∃ x, Hid (l.length = x) := ⟨_, Lib.hid rfl⟩
  obtain ⟨R, hR⟩ : ∃ R, Hid (num l = R) := ⟨_, Lib.hid rfl⟩
  rw [hN.out] at hcap hl HH ⊢
  rw [hR.out]
  clear h
  go_enter Try.func37, Try.ntmps37
  go_wp2_with fail
  go_loopg [3, 8] N (fun g nv iv wr => ∃ i : Nat, i + g = N ∧ iv = .int .i64 (i : Int) ∧ w = wr ∧ ∃ m : Int, nv = .int .i64 m ∧ Hid (m = num (l.take i)))
  case atStart => exact ⟨0, Nat.zero_add _, rfl, rfl, 0, rfl, Lib.hid rfl⟩
  case round =>
    obtain ⟨i, hi, rfl, rfl, m, rfl, HM⟩ := hrel
    by_cases hlt : i < N
    · obtain ⟨g, rfl⟩ : ∃ g, gk = g + 1 := ⟨gk - 1, by omega⟩
      have hne : l ≠ [] := by intro e; have := hN.out; rw [e] at this; simp at this; omega
      obtain ⟨b, off, cap, hve, _, hblt, hcells⟩ := HH.out.open_ hne
      rw [hN.out] at hve
      cases hve
      obtain ⟨x, hx⟩ := getElem?_of_lt (l := l) (k := i) (by rw [hN.out]; exact hlt)
      obtain ⟨q, hL, _⟩ := hcells i x hx
      have x0 : w.cell? ⟨b, off + i, none⟩ = some (.int .u8 (x.toNat : Int)) := by have := hL 0 _ rfl; simpa [TB, Ty.flat] using this
      have ht : (l.take i).length = i := by rw [List.length_take, hN.out]; omega
      have HST := Lib.hid (show num (l.take (i + 1)) = sg (le (l.take i) + x.toNat * 256 ^ i) from by
        have e : l.take (i + 1) = l.take i ++ [x] := by rw [List.take_add_one, hx]; rfl
        rw [e]
        show sg (le (l.take i ++ [x])) = _
        rw [le_snoc, ht])
      have hor := or_step i (le (l.take i)) x.toNat (by omega) (by have := le_lt (l.take i); rw [ht] at this; exact this) x.toNat_lt
      have hm : m = (le (l.take i) : Int) := by rw [HM.out]; exact num_le (by rw [ht]; omega)
      rw [← hm] at hor
      have hxr : 0 ≤ (x.toNat : Int) ∧ (x.toNat : Int) ≤ 255 := by have := x.toNat_lt; omega
      obtain ⟨z, hz⟩ : ∃ z, (x.toNat : Int) = z := ⟨_, rfl⟩
      rw [hz] at hor x0 hxr
      obtain ⟨M, hM⟩ : ∃ M, Hid (sg (le (l.take i) + x.toNat * 256 ^ i) = M) := ⟨_, Lib.hid rfl⟩
      rw [hM.out] at hor HST
      have i0 : (0 : Int) ≤ (i : Int) := by omega
      have i1 : (i : Int) < (N : Int) := by omega
      have i7 : (8 : Int) * (i : Int) ≤ 64 := by omega
      have i8 : (0 : Int) ≤ 8 * (i : Int) := by omega
      have it : (8 * (i : Int)).toNat = 8 * i := by omega
      have HOR := Lib.hid hor
      rw [← it] at hor
      clear hcells hL hx hne hz hm it
      go_wp2_with fail
      go_roundg g
      case rel => exact ⟨i + 1, by omega, by go_num, rfl, M, by rw [← HOR.out]; congr 2; rw [IntKind.wrap_i64]; first | rfl | (unfold wrap64; omega), Lib.hid HST.out.symm⟩
      case measure => omega
    · have HE := Lib.hid (show m = R from by rw [HM.out, List.take_of_length_le (by rw [hN.out]; omega), hR.out])
      go_wp2_with fail
      go_ret
      exact ⟨ret_int HE.out, rfl⟩
end Go.Proofs.Ytpommjmlenfknaa.QE
