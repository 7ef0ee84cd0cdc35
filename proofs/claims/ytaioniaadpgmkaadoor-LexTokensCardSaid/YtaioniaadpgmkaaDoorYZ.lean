/- The document's token, whatever stands there. -/
import Derived.Test.YtaioniaadpgmkaaDoorYU
import Derived.Test.YtaioniaadpgmkaaDoorTP
namespace Go.Proofs.YtaioniaadpgmkaaDoor.YZ
open Go.RowKit Go.Proofs.YtaioniaadpgmkaaDoor.P Go.Proofs.YtaioniaadpgmkaaDoor.A Go.Proofs.YtaioniaadpgmkaaDoor.Q Go.Proofs.YtaioniaadpgmkaaDoor.V Go.Proofs.YtaioniaadpgmkaaDoor.TK Go.Proofs.YtaioniaadpgmkaaDoor.TP Go.Proofs.YtaioniaadpgmkaaDoor.YC Go.Proofs.YtaioniaadpgmkaaDoor.YK Go.Proofs.YtaioniaadpgmkaaDoor.YL Go.Proofs.YtaioniaadpgmkaaDoor.YW Go.Proofs.YtaioniaadpgmkaaDoor.YG Go.Proofs.YtaioniaadpgmkaaDoor.YH Go.Proofs.YtaioniaadpgmkaaDoor.YO Go.Proofs.YtaioniaadpgmkaaDoor.YU Go.Proofs.YtaioniaadpgmkaaDoor.U
set_option linter.unusedVariables false

theorem rtoken_any (s : ByteArray) (w : World) (h0 : 0 < s.size) (hs : s.size ≤ 2000) :
    Calls Tryd.prog 20 #[.string s] w fun e w' => e = .returned (tokr (tk s.data.toList)) ∧ Below w.heap.size w w' := by
  have hL := list_head h0
  cases hD : isD s[0] with
  | true =>
    refine rtok_digits s w h0 hs hD _ ?_
    conv => rhs; rw [hL, tk_cons, if_pos hD]
    rw [← hL]
  | false =>
    have nD : ¬ isD s[0] = true := by rw [hD]; decide
    by_cases hQ : s[0] = 34
    · have ht : tk s.data.toList = ((2, (unq s.data.toList).1, 0), (unq s.data.toList).2.1, (unq s.data.toList).2.2) := by
        conv => lhs; rw [hL, tk_cons, if_neg nD, if_pos hQ]
        rw [← hL]
      rw [ht]
      exact rtok_text s w h0 hs hD hQ _ rfl
    · cases hS : isS s[0] with
      | true =>
        have hL' : isL s[0] = false := by
          unfold isS at hS; unfold isL
          simp at hS ⊢
          omega
        refine rtok_name s w h0 hs hD hQ true false hS hL' (.inl ⟨rfl, rfl⟩) _ ?_
        conv => rhs; rw [hL, tk_cons, if_neg nD, if_neg hQ, if_pos (by rw [hS]; rfl), hL']
        rw [← hL]
      | false =>
        cases hLb : isL s[0] with
        | true =>
          refine rtok_name s w h0 hs hD hQ false true hS hLb (.inr ⟨rfl, rfl⟩) _ ?_
          conv => rhs; rw [hL, tk_cons, if_neg nD, if_neg hQ, if_pos (by rw [hS, hLb]; rfl), hLb]
          rw [← hL]
        | false =>
          have nSL : ¬ (isS s[0] || isL s[0]) = true := by rw [hS, hLb]; decide
          have hsec : ∀ c, (s.data.toList.drop 1).head? = some c ↔ ∃ h : 1 < s.size, s[1] = c := by
            intro c
            by_cases h1 : 1 < s.size
            · rw [drop_at h1]; simp [h1]
            · rw [drop_out (by omega)]; simp; intro h; omega
          by_cases h2 : s[0] = 45 ∧ (s.data.toList.drop 1).head? = some 62
          · have ht : tk s.data.toList = ((5, [45, 62], 0), 2, 0) := by
              rw [hL, tk_cons, if_neg nD, if_neg hQ, if_neg nSL, if_pos h2]
            obtain ⟨h1, h62⟩ := (hsec 62).1 h2.2
            rw [ht]
            exact rtok_two s w h0 hs hD hQ hS hLb h1 h2.1 h62
          · by_cases hI : s[0] ∈ signs
            · have ht : tk s.data.toList = ((5, [s[0]], 0), 1, 0) := by
                rw [hL, tk_cons, if_neg nD, if_neg hQ, if_neg nSL, if_neg h2, if_pos hI]
              rw [ht]
              exact rtok_one s w h0 hs hD hQ hS hLb hI (fun ⟨a, b⟩ => h2 ⟨a, (hsec 62).2 b⟩)
            · have ht : tk s.data.toList = ((0, [], 0), 0, 10) := by
                rw [hL, tk_cons, if_neg nD, if_neg hQ, if_neg nSL, if_neg h2, if_neg hI]
              rw [ht]
              exact rtok_nothing s w h0 hs hD hQ hS hLb hI

/-- Step by step: what is left behind a blank, a remark, a token. -/
theorem glue_blank {s : ByteArray} {k : Nat} {ts : List Tok} (h : k < s.size) (hb : bl s[k] = true) : glue ts (from_ s k) = glue ts (from_ s (k + 1)) := by
  rw [from_gap s k, from_gap s (k + 1), ge_blank h hb, Nat.add_assoc]
theorem glue_remark {s : ByteArray} {k : Nat} {ts : List Tok} (h : k < s.size) (hb : bl s[k] = false) (h35 : s[k] = 35) : glue ts (from_ s k) = glue ts (from_ s (k + lasts nb s k)) := by
  rw [from_gap s k, from_gap s (k + lasts nb s k), ge_remark h hb h35, Nat.add_assoc]
theorem glue_next {s : ByteArray} {k : Nat} {ts : List Tok} {q : (Nat × List UInt8 × Nat) × Nat × Nat} (hq : tk (s.data.toList.drop k) = q) (h : k < s.size) (hb : bl s[k] = false) (h35 : s[k] ≠ 35) (ht : q.2.2 = 0) :
    glue ts (from_ s k) = glue (ts ++ [⟨q.1.1, q.1.2.1, q.1.2.2, k⟩]) (from_ s (k + q.2.1)) := by
  subst hq
  rw [glue_tok h (ge_stop h hb h35) ht, ← from_gap]
theorem glue_bad {s : ByteArray} {k : Nat} {ts : List Tok} {q : (Nat × List UInt8 × Nat) × Nat × Nat} (hq : tk (s.data.toList.drop k) = q) (h : k < s.size) (hb : bl s[k] = false) (h35 : s[k] ≠ 35) (ht : q.2.2 ≠ 0) :
    glue ts (from_ s k) = ([], k, q.2.2) := by
  subst hq
  exact glue_err h (ge_stop h hb h35) ht
theorem toks_from (s : ByteArray) (h : s.size ≤ 2000) : toks s.data.toList = glue [] (from_ s 0) := by
  rw [toks_glue s h, ← from_gap]
end Go.Proofs.YtaioniaadpgmkaaDoor.YZ
