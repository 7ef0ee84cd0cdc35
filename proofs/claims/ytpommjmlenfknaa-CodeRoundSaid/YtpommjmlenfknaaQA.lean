/- Bytes read as a code, plainly: by the program's way and by the document's; what is read is what was written. -/
import Derived.Test.YtpommjmlenfknaaKF
namespace Go.Proofs.Ytpommjmlenfknaa.QA
open Go.Proofs.Ytpommjmlenfknaa.KA Go.Proofs.Ytpommjmlenfknaa.KD Go.Proofs.Ytpommjmlenfknaa.KF
set_option linter.unusedVariables false
set_option maxRecDepth 100000
set_option maxRecDepth 100000

structure St where
  rest : By
  short : Bool
/-- A reader that is good for what 'ok' tells: what is told short stays short; what was read was written there; what was written is read. -/
structure Rd {α : Type} (p : St → α × St) (e : α → By) (ok : α → Prop) : Prop where
  mono : ∀ s, (p s).2.short = false → s.short = false
  sound : ∀ s, (p s).2.short = false → ok (p s).1 → s.rest = e (p s).1 ++ (p s).2.rest
  full : ∀ x t, ok x → p ⟨e x ++ t, false⟩ = (x, ⟨t, false⟩)
def many {α : Type} (p : St → α × St) : Nat → St → List α × St
  | 0, s => ([], s)
  | n + 1, s => ((p s).1 :: (many p n (p s).2).1, (many p n (p s).2).2)
theorem many_len {α : Type} {p : St → α × St} : ∀ (n : Nat) (s : St), (many p n s).1.length = n
  | 0, _ => rfl
  | n + 1, s => by show ((p s).1 :: (many p n (p s).2).1).length = _; rw [List.length_cons, many_len n]
theorem many_mono {α : Type} {p : St → α × St} {e : α → By} {ok : α → Prop} (h : Rd p e ok) : ∀ (n : Nat) (s : St), (many p n s).2.short = false → s.short = false
  | 0, _, hs => hs
  | n + 1, s, hs => h.mono s (many_mono h n _ hs)
theorem many_sound {α : Type} {p : St → α × St} {e : α → By} {ok : α → Prop} (h : Rd p e ok) : ∀ (n : Nat) (s : St), (many p n s).2.short = false → (∀ x, x ∈ (many p n s).1 → ok x) → s.rest = (many p n s).1.flatMap e ++ (many p n s).2.rest
  | 0, _, _, _ => rfl
  | n + 1, s, hs, hk => by
    have h1 := many_mono h n _ (show (many p n (p s).2).2.short = false from hs)
    have h2 := h.sound s h1 (hk _ List.mem_cons_self)
    have h3 := many_sound h n (p s).2 hs (fun x hx => hk x (List.mem_cons_of_mem _ hx))
    show s.rest = ((p s).1 :: (many p n (p s).2).1).flatMap e ++ (many p n (p s).2).2.rest
    rw [List.flatMap_cons, List.append_assoc, ← h3]
    exact h2
theorem many_full {α : Type} {p : St → α × St} {e : α → By} {ok : α → Prop} (h : Rd p e ok) : ∀ (l : List α) (t : By), (∀ x, x ∈ l → ok x) → many p l.length ⟨l.flatMap e ++ t, false⟩ = (l, ⟨t, false⟩)
  | [], t, _ => rfl
  | a :: l, t, hk => by
    have h1 := h.full a (l.flatMap e ++ t) (hk a List.mem_cons_self)
    have h2 := many_full h l t (fun x hx => hk x (List.mem_cons_of_mem _ hx))
    show many p (l.length + 1) ⟨_, false⟩ = _
    rw [List.flatMap_cons, List.append_assoc]
    unfold many
    rw [h1, h2]

/-! ## The program's way -/
/-- So many bytes; none, where there are fewer. -/
def nx (k : Nat) (s : St) : By × St := if s.rest.length < k then ([], ⟨s.rest, true⟩) else (s.rest.take k, ⟨s.rest.drop k, s.short⟩)
def le : By → Nat
  | [] => 0
  | b :: t => b.toNat + 256 * le t
def sg (n : Nat) : Int := if n < 9223372036854775808 then (n : Int) else (n : Int) - 18446744073709551616
def num (b : By) : Int := sg (le b)
theorem le_lt : ∀ (b : By), le b < 256 ^ b.length
  | [] => by simp [le]
  | b :: t => by
    have h1 := le_lt t
    have h2 := b.toNat_lt
    rw [List.length_cons, Nat.pow_succ]
    show b.toNat + 256 * le t < _
    omega
theorem nx_len (k : Nat) (s : St) : (nx k s).1.length ≤ k := by
  unfold nx
  split
  · simp
  · simp; omega
theorem nx_full (a t : By) : nx a.length ⟨a ++ t, false⟩ = (a, ⟨t, false⟩) := by
  unfold nx
  rw [if_neg (by simp)]
  simp
theorem nx_mono (k : Nat) (s : St) (h : (nx k s).2.short = false) : s.short = false ∧ (nx k s).1.length = k ∧ s.rest = (nx k s).1 ++ (nx k s).2.rest := by
  unfold nx at h ⊢
  split at h
  · cases h
  · rename_i hn
    rw [if_neg hn]
    refine ⟨h, ?_, (List.take_append_drop k s.rest).symm⟩
    rw [List.length_take]; omega
theorem by1_of (b : UInt8) : by1 (b.toNat : Int) = b := by unfold by1; simp
theorem leK_le : ∀ (b : By) (n : Int), (n - (le b : Int)) % (256 ^ b.length : Nat) = 0 → leK b.length n = b
  | [], n, _ => rfl
  | b :: t, n, h => by
    have h2 := b.toNat_lt
    rw [List.length_cons, Nat.pow_succ] at h
    have h3 : le (b :: t) = b.toNat + 256 * le t := rfl
    rw [h3] at h
    obtain ⟨P, hP⟩ : ∃ P : Nat, 256 ^ t.length = P := ⟨_, rfl⟩
    rw [hP] at h
    have h4 : n % 256 = (b.toNat : Int) ∧ (n / 256 - (le t : Int)) % (P : Int) = 0 := by
      have hd := Int.dvd_of_emod_eq_zero h
      obtain ⟨q, hq⟩ := hd
      have e : n = (b.toNat : Int) + 256 * ((le t : Int) + P * q) := by
        have : ((P * 256 : Nat) : Int) * q = 256 * ((P : Int) * q) := by push_cast; rw [Int.mul_comm (P : Int) 256, Int.mul_assoc]
        rw [this] at hq
        push_cast at hq
        omega
      obtain ⟨z, hz⟩ : ∃ z, (le t : Int) + P * q = z := ⟨_, rfl⟩
      rw [hz] at e
      refine ⟨by omega, ?_⟩
      have : n / 256 = z := by omega
      rw [this, ← hz]
      rw [show (le t : Int) + P * q - le t = P * q by omega]
      exact Int.mul_emod_right _ _
    show by1 (n % 256) :: leK t.length (n / 256) = _
    rw [h4.1, by1_of, leK_le t (n / 256) (by rw [hP]; exact h4.2)]
theorem le_leK : ∀ (k : Nat) (n : Int), (le (leK k n) : Int) = n % (256 ^ k : Nat)
  | 0, n => by simp [le, leK]
  | k + 1, n => by
    have h1 := le_leK k (n / 256)
    have h0 : ((by1 (n % 256)).toNat : Int) = n % 256 := by1_nat (by omega) (by omega)
    show (((by1 (n % 256)).toNat + 256 * le (leK k (n / 256)) : Nat) : Int) = _
    rw [Nat.pow_succ]
    push_cast at h1 ⊢
    rw [h0, h1]
    obtain ⟨P, hP⟩ : ∃ P : Int, (256 : Int) ^ k = P := ⟨_, rfl⟩
    rw [hP, Int.mul_comm P 256]
    have hp : 0 < P := by rw [← hP]; exact Int.pow_pos (by decide)
    have e1 : n = 256 * (n / 256) + n % 256 := by omega
    have e2 : n / 256 = P * (n / 256 / P) + n / 256 % P := (Int.mul_ediv_add_emod (n / 256) P).symm
    obtain ⟨q, hq⟩ : ∃ q, n / 256 / P = q := ⟨_, rfl⟩
    obtain ⟨r, hr⟩ : ∃ r, n / 256 % P = r := ⟨_, rfl⟩
    have r0 : 0 ≤ r := by rw [← hr]; exact Int.emod_nonneg _ (by omega)
    have r1 : r < P := by rw [← hr]; exact Int.emod_lt_of_pos _ hp
    rw [hq, hr] at e2
    rw [hr]
    have e3 : n = (n % 256 + 256 * r) + 256 * P * q := by rw [Int.mul_assoc]; omega
    have e4 : n % (256 * P) = (n % 256 + 256 * r) % (256 * P) := by
      conv => lhs; rw [e3]
      exact Int.add_mul_emod_self_left _ _ _
    rw [e4]
    have m0 : 0 ≤ n % 256 := by omega
    have m1 : n % 256 < 256 := by omega
    exact (Int.emod_eq_of_lt (by omega) (by omega)).symm
end Go.Proofs.Ytpommjmlenfknaa.QA
