/- What is written has only bytes that may stand there. Nothing of the program is in sight. -/
import Derived.Test.YtenhncepoclolaaDoorB
namespace Go.Proofs.YtenhncepoclolaaDoor.B2
open Go.Proofs.YtenhncepoclolaaDoor.P Go.Proofs.YtenhncepoclolaaDoor.B

def chk : List UInt8 → Bool → Option Bool
  | [], b => some b
  | c :: t, b => if c.toNat < 32 ∨ 126 < c.toNat ∨ (c = 34 ∧ b = false) then none else chk t (decide (c = 92) && !b)
theorem hx_plain : ∀ n, n < 16 → ¬ ((hx n).toNat < 32 ∨ 126 < (hx n).toNat ∨ (hx n = 34 ∧ False)) ∧ hx n ≠ 92 ∧ hx n ≠ 34 := by decide
theorem chk_cons (c : UInt8) (t : List UInt8) (b : Bool) : chk (c :: t) b = if c.toNat < 32 ∨ 126 < c.toNat ∨ (c = 34 ∧ b = false) then none else chk t (decide (c = 92) && !b) := rfl
theorem chk_go {c : UInt8} {t : List UInt8} {b d : Bool} (h1 : 32 ≤ c.toNat) (h2 : c.toNat ≤ 126) (h3 : c = 34 → b = true) (hd : (decide (c = 92) && !b) = d) : chk (c :: t) b = chk t d := by
  rw [chk_cons, if_neg, hd]
  rintro (h | h | ⟨h, hb⟩)
  · omega
  · omega
  · rw [h3 h] at hb; cases hb
theorem chk_q1 (b : UInt8) (r : List UInt8) : chk (q1 b ++ r) false = chk r false := by
  unfold q1
  by_cases h1 : b.toNat = 10
  · rw [if_pos h1]
    show chk (92 :: 110 :: r) false = _
    rw [chk_go (d := true) (by decide) (by decide) (by decide) (by decide), chk_go (d := false) (by decide) (by decide) (by decide) (by decide)]
  · rw [if_neg h1]
    by_cases h2 : b.toNat = 34
    · rw [if_pos h2]
      show chk (92 :: 34 :: r) false = _
      rw [chk_go (d := true) (by decide) (by decide) (by decide) (by decide), chk_go (d := false) (by decide) (by decide) (by decide) (by decide)]
    · rw [if_neg h2]
      by_cases h3 : b.toNat = 92
      · rw [if_pos h3]
        show chk (92 :: 92 :: r) false = _
        rw [chk_go (d := true) (by decide) (by decide) (by decide) (by decide), chk_go (d := false) (by decide) (by decide) (by decide) (by decide)]
      · rw [if_neg h3]
        by_cases h4 : 32 ≤ b.toNat ∧ b.toNat ≤ 126
        · rw [if_pos h4]
          have n1 : b ≠ 92 := fun e => h3 (by rw [e]; rfl)
          have n2 : b ≠ 34 := fun e => h2 (by rw [e]; rfl)
          show chk (b :: r) false = _
          rw [chk_go (d := false) h4.1 h4.2 (fun e => absurd e n2) (by simp [n1])]
        · rw [if_neg h4]
          have hb := b.toNat_lt
          obtain ⟨p1, p2, p3⟩ := hx_plain (b.toNat / 16) (by omega)
          obtain ⟨r1, r2, r3⟩ := hx_plain (b.toNat % 16) (by omega)
          show chk (92 :: 120 :: hx (b.toNat / 16) :: hx (b.toNat % 16) :: r) false = _
          rw [chk_go (d := true) (by decide) (by decide) (by decide) (by decide), chk_go (d := false) (by decide) (by decide) (by decide) (by decide),
            chk_go (d := false) (by omega) (by omega) (fun e => absurd e p3) (by simp [p2]), chk_go (d := false) (by omega) (by omega) (fun e => absurd e r3) (by simp [r2])]
theorem chk_qs : ∀ l : List UInt8, chk (qs l) false = some false
  | [] => rfl
  | b :: l => by
    have e : qs (b :: l) = q1 b ++ qs l := by simp [qs]
    rw [e, chk_q1, chk_qs l]
/-- What a round tells. -/
theorem chk_step {c : UInt8} {t : List UInt8} {b : Bool} (h : chk (c :: t) b = some false) : 32 ≤ c.toNat ∧ c.toNat ≤ 126 ∧ (c = 34 → b = true) ∧ chk t (decide (c = 92) && !b) = some false := by
  rw [chk_cons] at h
  by_cases hc : c.toNat < 32 ∨ 126 < c.toNat ∨ (c = 34 ∧ b = false)
  · rw [if_pos hc] at h; cases h
  · rw [if_neg hc] at h
    refine ⟨by omega, by omega, fun e => ?_, h⟩
    cases b
    · exact absurd (.inr (.inr ⟨e, rfl⟩)) hc
    · rfl
/-- At place k of the written text. -/
theorem chk_at {q : ByteArray} {l : List UInt8} (hq : q.data.toList = quoteL l) {k : Nat} {b : Bool} (h1 : 1 ≤ k) (h2 : k + 1 < q.size) (h : chk ((qs l).drop (k - 1)) b = some false) :
    32 ≤ q[k].toNat ∧ q[k].toNat ≤ 126 ∧ (q[k] = 34 → b = true) ∧ chk ((qs l).drop (k + 1 - 1)) (decide (q[k] = 92) && !b) = some false := by
  have hs : q.size = (qs l).length + 2 := by
    have : q.data.toList.length = q.size := by simp
    rw [← this, hq]; simp [quoteL]
  have hk : k - 1 < (qs l).length := by omega
  have hg : q[k] = (qs l)[k - 1] := by
    have e1 : q.data.toList[k]'(by simp; omega) = q[k] := rfl
    rw [← e1]
    have : ∀ (L : List UInt8) (hL : L = 34 :: (qs l ++ [34])) (hk' : k < L.length), L[k] = (qs l)[k - 1] := by
      intro L hL hk'
      subst hL
      obtain ⟨j, rfl⟩ : ∃ j, k = j + 1 := ⟨k - 1, by omega⟩
      rw [List.getElem_cons_succ, List.getElem_append_left (by omega)]
      rfl
    exact this _ hq _
  rw [List.drop_eq_getElem_cons hk, ← hg] at h
  have := chk_step h
  have e2 : k - 1 + 1 = k + 1 - 1 := by omega
  rw [e2] at this
  exact this
theorem ends {q : ByteArray} {l : List UInt8} (hq : q.data.toList = quoteL l) : q.size = (qs l).length + 2 ∧ (∀ h : 0 < q.size, q[0] = 34) ∧ (∀ h : q.size - 1 < q.size, q[q.size - 1] = 34) := by
  have hs : q.size = (qs l).length + 2 := by
    have : q.data.toList.length = q.size := by simp
    rw [← this, hq]; simp [quoteL]
  have g : ∀ (L : List UInt8) (hL : L = 34 :: (qs l ++ [34])) (k : Nat) (hk' : k < L.length), (k = 0 ∨ k = (qs l).length + 1) → L[k] = 34 := by
    intro L hL k hk' hk
    subst hL
    rcases hk with rfl | rfl
    · rfl
    · rw [List.getElem_cons_succ, List.getElem_append_right (by omega)]
      simp
  refine ⟨hs, fun h => ?_, fun h => ?_⟩
  · exact g _ hq 0 (by simp; omega) (.inl rfl)
  · exact g _ hq (q.size - 1) (by simp; omega) (.inr (by omega))
end Go.Proofs.YtenhncepoclolaaDoor.B2
