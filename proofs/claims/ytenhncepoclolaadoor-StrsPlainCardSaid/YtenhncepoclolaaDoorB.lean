/- What is written is read, whatever stands behind it. Nothing of the program is in sight. -/
import Derived.Test.YtenhncepoclolaaDoorQ
namespace Go.Proofs.YtenhncepoclolaaDoor.B
open Go.Proofs.YtenhncepoclolaaDoor.P Go.Proofs.YtenhncepoclolaaDoor.Q

theorem dn_hx : ∀ n, n < 16 → dn (hx n) = n := by decide
theorem of_nat {b : UInt8} {n : Nat} (h : b.toNat = n) : b = UInt8.ofNat n := by rw [← h]; simp

theorem rl_cons {f i : Nat} {c : UInt8} {t acc : List UInt8} {r : UInt8 × Nat × Nat} (hc : c ≠ 34) (hr : fs (c :: t) = r) (he : r.2.2 = 0) :
    rl (f + 1) (c :: t) i acc = rl f (t.drop (r.2.1 - 1)) (i + r.2.1) (acc ++ [r.1]) := by
  show (if _ then _ else _) = _
  rw [if_neg hc, hr, if_pos he]

theorem rl_q1 (b : UInt8) (rest acc : List UInt8) (i f : Nat) : rl (f + 1) (q1 b ++ rest) i acc = rl f rest (i + (q1 b).length) (acc ++ [b]) := by
  unfold q1
  by_cases h1 : b.toNat = 10
  · rw [if_pos h1]
    have e : fs (92 :: 110 :: rest) = (10, 2, 0) := by rw [fs_cons, if_pos rfl, bh_cons]; rfl
    show rl (f + 1) (92 :: 110 :: rest) i acc = _
    rw [rl_cons (by decide) e rfl, of_nat h1]; rfl
  · rw [if_neg h1]
    by_cases h2 : b.toNat = 34
    · rw [if_pos h2]
      have e : fs (92 :: 34 :: rest) = (34, 2, 0) := by rw [fs_cons, if_pos rfl, bh_cons]; rfl
      show rl (f + 1) (92 :: 34 :: rest) i acc = _
      rw [rl_cons (by decide) e rfl, of_nat h2]; rfl
    · rw [if_neg h2]
      by_cases h3 : b.toNat = 92
      · rw [if_pos h3]
        have e : fs (92 :: 92 :: rest) = (92, 2, 0) := by rw [fs_cons, if_pos rfl, bh_cons]; rfl
        show rl (f + 1) (92 :: 92 :: rest) i acc = _
        rw [rl_cons (by decide) e rfl, of_nat h3]; rfl
      · rw [if_neg h3]
        by_cases h4 : 32 ≤ b.toNat ∧ b.toNat ≤ 126
        · rw [if_pos h4]
          have n1 : b ≠ 92 := fun e => h3 (by rw [e]; rfl)
          have n2 : b ≠ 10 := fun e => h1 (by rw [e]; rfl)
          have n3 : b ≠ 34 := fun e => h2 (by rw [e]; rfl)
          have e : fs (b :: rest) = (b, 1, 0) := by rw [fs_cons, if_neg n1, if_neg n2, if_pos h4]
          show rl (f + 1) (b :: rest) i acc = _
          rw [rl_cons n3 e rfl]; rfl
        · rw [if_neg h4]
          have hb := b.toNat_lt
          have d1 := dn_hx (b.toNat / 16) (by omega)
          have d2 := dn_hx (b.toNat % 16) (by omega)
          have et : td (hx (b.toNat / 16) :: hx (b.toNat % 16) :: rest) = (b, 0) := by
            show (if _ then if _ then _ else _ else _) = _
            rw [d1, d2, if_pos (by omega), if_pos (by omega)]
            have : 16 * (b.toNat / 16) + b.toNat % 16 = b.toNat := by omega
            rw [this, ← of_nat rfl]
          have e : fs (92 :: 120 :: hx (b.toNat / 16) :: hx (b.toNat % 16) :: rest) = (b, 4, 0) := by
            rw [fs_cons, if_pos rfl, bh_cons, if_pos rfl, et]
          show rl (f + 1) (92 :: 120 :: hx (b.toNat / 16) :: hx (b.toNat % 16) :: rest) i acc = _
          rw [rl_cons (by decide) e rfl]; rfl

theorem rl_qs (rest : List UInt8) : ∀ (l acc : List UInt8) (i f : Nat), rl (l.length + (f + 1)) (qs l ++ 34 :: rest) i acc = if (acc ++ l).length ≤ 60 then (acc ++ l, i + (qs l).length + 1, 0) else ([], 0, 12)
  | [], acc, i, f => by
    simp only [List.length_nil, Nat.zero_add, List.append_nil, qs, List.flatMap_nil, List.nil_append, Nat.add_zero]
    rfl
  | b :: l, acc, i, f => by
    have e : qs (b :: l) = q1 b ++ qs l := by simp [qs]
    have e2 : (b :: l).length + (f + 1) = (l.length + (f + 1)) + 1 := by simp only [List.length_cons]; omega
    rw [e, e2, List.append_assoc, rl_q1, rl_qs rest l]
    have e3 : acc ++ [b] ++ l = acc ++ b :: l := by simp
    rw [e3]
    have e4 : i + (q1 b).length + (qs l).length + 1 = i + (q1 b ++ qs l).length + 1 := by rw [List.length_append]; omega
    rw [e4]

theorem unq_quote (l rest : List UInt8) (h : l.length ≤ 60) : unq (quoteL l ++ rest) = (l, (quoteL l).length, 0) := by
  have hl := (qs_len l).1
  show (if (34 : UInt8) = 34 then rl ((qs l ++ [34] ++ rest).length + 1) (qs l ++ [34] ++ rest) 1 [] else ([], 0, 14)) = _
  rw [if_pos rfl]
  have e : qs l ++ [34] ++ rest = qs l ++ 34 :: rest := by simp
  rw [e]
  have e2 : (qs l ++ 34 :: rest).length + 1 = l.length + (((qs l).length - l.length + rest.length + 1) + 1) := by
    simp only [List.length_append, List.length_cons]; omega
  rw [e2, rl_qs, List.nil_append, if_pos h]
  unfold quoteL
  simp only [List.length_append, List.length_cons, List.length_nil]
  congr 2
  omega
theorem quote_len (l : List UInt8) : l.length + 2 ≤ (quoteL l).length ∧ (quoteL l).length ≤ 4 * l.length + 2 := by
  have := qs_len l
  unfold quoteL
  simp only [List.length_append, List.length_cons, List.length_nil]
  omega
end Go.Proofs.YtenhncepoclolaaDoor.B
