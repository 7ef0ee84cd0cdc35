/- The document's reading, plainly, step by step: what its loops hold. -/
import Derived.Test.YtpommjmlenfknaaQM
namespace Go.Proofs.Ytpommjmlenfknaa.QN
open Go.Proofs.Ytpommjmlenfknaa.KA Go.Proofs.Ytpommjmlenfknaa.KD Go.Proofs.Ytpommjmlenfknaa.QA Go.Proofs.Ytpommjmlenfknaa.QB Go.Proofs.Ytpommjmlenfknaa.QC Go.Proofs.Ytpommjmlenfknaa.QD Go.Proofs.Ytpommjmlenfknaa.QE Go.Proofs.Ytpommjmlenfknaa.QG
set_option linter.unusedVariables false
set_option maxRecDepth 100000
set_option maxRecDepth 100000

theorem bys_snoc (k : Nat) (s : St) : bys (k + 1) s = ((bys k s).1 ++ [by1 (one (bys k s).2).1], (one (bys k s).2).2) := by
  unfold bys
  rw [many_snoc k s]
  dsimp only
  rw [List.map_append]
  rfl
theorem bys_length (k : Nat) (s : St) : (bys k s).1.length = k := by unfold bys; rw [List.length_map, many_len]
theorem le_bys (k : Nat) (s : St) : (le (bys (k + 1) s).1 : Int) = (le (bys k s).1 : Int) + (one (bys k s).2).1 * (256 ^ k : Nat) := by
  rw [bys_snoc]
  dsimp only
  rw [le_snoc, bys_length]
  have h := one_range (bys k s).2
  have hb := by1_nat h.1 h.2
  push_cast
  rw [hb]
/-- The eighth byte, as an integer's top. -/
def top (t : Int) : Int := if t > 127 then t - 256 else t
theorem dint_val (s : St) : num (bys 8 s).1 = (le (bys 7 s).1 : Int) + top (one (bys 7 s).2).1 * 72057594037927936 := by
  have h := le_bys 7 s
  have h7 := le_lt (bys 7 s).1
  rw [bys_length] at h7
  have hr := one_range (bys 7 s).2
  have e7 : ((256 ^ 7 : Nat) : Int) = 72057594037927936 := rfl
  have e7' : (256 : Nat) ^ 7 = 72057594037927936 := rfl
  rw [e7] at h
  rw [e7'] at h7
  have hn : num (bys 8 s).1 = sg (le (bys 8 s).1) := rfl
  rw [hn]
  generalize bys 8 s = u at h ⊢
  generalize (one (bys 7 s).2).1 = t at h hr ⊢
  generalize le (bys 7 s).1 = a at h h7 ⊢
  generalize le u.1 = z at h ⊢
  unfold sg top
  split <;> split <;> omega
theorem manyS_snoc {α : Type} {p : St → α × St} : ∀ (n : Nat) (s : St), manyS p (n + 1) s = if (manyS p n s).2.short = true then manyS p n s else ((manyS p n s).1 ++ [(p (manyS p n s).2).1], (p (manyS p n s).2).2)
  | 0, s => by
    show (if s.short = true then ([], s) else ((p s).1 :: [], (p s).2)) = _
    rfl
  | n + 1, s => by
    have ih := manyS_snoc (p := p) n (p s).2
    by_cases hs : s.short = true
    · have e1 : ∀ m, manyS p (m + 1) s = ([], s) := fun m => by unfold manyS; rw [if_pos hs]
      rw [e1, e1, if_pos hs]
    · have e1 : ∀ m, manyS p (m + 1) s = ((p s).1 :: (manyS p m (p s).2).1, (manyS p m (p s).2).2) := fun m => by
        conv => lhs; unfold manyS
        rw [if_neg hs]
      rw [e1 (n + 1), e1 n, ih]
      dsimp only
      by_cases ht : (manyS p n (p s).2).2.short = true
      · rw [if_pos ht, if_pos ht]
      · rw [if_neg ht, if_neg ht]
        rfl
/-- Behind one byte too few nothing more is read. -/
theorem manyS_stop {α : Type} {p : St → α × St} {k : Nat} {s : St} (h : (manyS p k s).2.short = true) : ∀ d, manyS p (k + d) s = manyS p k s
  | 0 => rfl
  | d + 1 => by
    show manyS p ((k + d) + 1) s = _
    rw [manyS_snoc, manyS_stop h d, if_pos h]
theorem manyS_le {α : Type} {p : St → α × St} : ∀ (n : Nat) (s : St), (manyS p n s).1.length ≤ n
  | 0, s => Nat.le_refl _
  | n + 1, s => by
    unfold manyS
    split
    · simp
    · show ((p s).1 :: (manyS p n (p s).2).1).length ≤ _
      rw [List.length_cons]
      have := manyS_le (p := p) n (p s).2
      omega
end Go.Proofs.Ytpommjmlenfknaa.QN
