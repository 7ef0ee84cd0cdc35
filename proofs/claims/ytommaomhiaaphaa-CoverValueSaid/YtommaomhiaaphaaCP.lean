/- What may be handed in: the walks. -/
import Derived.Test.YtommaomhiaaphaaCO
namespace Go.Proofs.Ytommaomhiaaphaa.CP
open Go.RowKit Go.Proofs.Ytommaomhiaaphaa.CA Go.Proofs.Ytommaomhiaaphaa.CB Go.Proofs.Ytommaomhiaaphaa.CC Go.Proofs.Ytommaomhiaaphaa.CD Go.Proofs.Ytommaomhiaaphaa.CE Go.Proofs.Ytommaomhiaaphaa.CF Go.Proofs.Ytommaomhiaaphaa.CG Go.Proofs.Ytommaomhiaaphaa.CH Go.Proofs.Ytommaomhiaaphaa.CK Go.Proofs.Ytommaomhiaaphaa.CI Go.Proofs.Ytommaomhiaaphaa.CL Go.Proofs.Ytommaomhiaaphaa.CO
set_option linter.unusedVariables false
set_option maxRecDepth 100000
variable {S : Nat → Prop}

theorem numOk_not {k n : Int} {s : By} {l : List Nd} (h1 : k ≠ 1) : numOk (.mk k n s l) = (n == 0) := by
  simp [numOk, Nd.n, Nd.k, h1]
set_option maxRecDepth 100000 in
set_option maxHeartbeats 2000000 in
theorem formed_any (C : List Cn) (fv : Value) (n : Int) (s : By) (l : List Nd) (ao : Option Addr) (cap : Nat) (w : World) (hl : l.length ≤ 1000000) :
    Calls Try.prog 66 #[fv, .agg #[.int .i64 24, .string ⟨s.toArray⟩, .int .i64 n, .int .i64 0, .slice none 0 0, .slice ao l.length cap]] w fun e w' => e = .returned (.bool (formedB C (.mk 24 n s l))) ∧ Below w.heap.size w w' := by
  obtain ⟨R, HR⟩ : ∃ R, Hid (formedB C (.mk 24 n s l) = R) := ⟨_, Lib.hid rfl⟩
  rw [HR.out]
  obtain ⟨kl, hkl⟩ : ∃ kl, Hid (l.length = kl) := ⟨_, Lib.hid rfl⟩
  rw [hkl.out] at hl ⊢
  have HB := Lib.hid (show ((kl : Int) == 0) = (l.length == 0) from by rw [hkl.out, Bool.eq_iff_iff]; simp)
  by_cases hs : s = []
  · subst hs
    cases h7 : (n == 0)
    · go_enter Try.func66, Try.ntmps66
      go_wp2
      go_ret
      refine ⟨ret_bool ?_, balloc _ _⟩
      rw [← HR.out]
      simp only [formedB, Nd.k, Nd.s, Nd.kids, numOk, Nd.n, h7]
      simp
    · cases h6 : ((kl : Int) == 0)
      all_goals
        go_enter Try.func66, Try.ntmps66
        go_wp2
        go_ret
        refine ⟨ret_bool ?_, balloc _ _⟩
        rw [← HR.out]
        have hb := HB.out
        rw [h6] at hb
        simp only [formedB, Nd.k, Nd.s, Nd.kids, numOk, Nd.n, h7, ← hb]
        simp
  · obtain ⟨x, xs, rfl⟩ : ∃ x xs, s = x :: xs := by
      cases s with
      | nil => exact absurd rfl hs
      | cons x xs => exact ⟨x, xs, rfl⟩
    go_enter Try.func66, Try.ntmps66
    go_wp2
    go_ret
    refine ⟨ret_bool ?_, balloc _ _⟩
    rw [← HR.out]
    simp [formedB, Nd.k, Nd.s]
set_option maxRecDepth 100000 in
set_option maxHeartbeats 2000000 in
theorem formed_int (C : List Cn) (fv : Value) (n : Int) (s : By) (l : List Nd) (ao : Option Addr) (cap : Nat) (w : World) (hl : l.length ≤ 1000000) :
    Calls Try.prog 66 #[fv, .agg #[.int .i64 1, .string ⟨s.toArray⟩, .int .i64 n, .int .i64 0, .slice none 0 0, .slice ao l.length cap]] w fun e w' => e = .returned (.bool (formedB C (.mk 1 n s l))) ∧ Below w.heap.size w w' := by
  obtain ⟨R, HR⟩ : ∃ R, Hid (formedB C (.mk 1 n s l) = R) := ⟨_, Lib.hid rfl⟩
  rw [HR.out]
  obtain ⟨kl, hkl⟩ : ∃ kl, Hid (l.length = kl) := ⟨_, Lib.hid rfl⟩
  rw [hkl.out] at hl ⊢
  have HB := Lib.hid (show ((kl : Int) == 0) = (l.length == 0) from by rw [hkl.out, Bool.eq_iff_iff]; simp)
  by_cases hs : s = []
  · subst hs
    cases h7 : (n == 0)
    · by_cases hg : 0 < n
      · cases h6 : ((kl : Int) == 0)
        all_goals
          go_enter Try.func66, Try.ntmps66
          go_wp2
          go_ret
          refine ⟨ret_bool ?_, balloc _ _⟩
          rw [← HR.out]
          have hb := HB.out
          rw [h6] at hb
          simp only [formedB, Nd.k, Nd.s, Nd.kids, numOk, Nd.n, ← hb]
          simp [hg]
      · have hg2 : ¬ n > 0 := hg
        go_enter Try.func66, Try.ntmps66
        go_wp2
        go_ret
        refine ⟨ret_bool ?_, balloc _ _⟩
        rw [← HR.out]
        simp only [formedB, Nd.k, Nd.s, Nd.kids, numOk, Nd.n, h7]
        simp
        intro h; omega
    · cases h6 : ((kl : Int) == 0)
      all_goals
        go_enter Try.func66, Try.ntmps66
        go_wp2
        go_ret
        refine ⟨ret_bool ?_, balloc _ _⟩
        rw [← HR.out]
        have hb := HB.out
        rw [h6] at hb
        simp only [formedB, Nd.k, Nd.s, Nd.kids, numOk, Nd.n, h7, ← hb]
        simp
  · obtain ⟨x, xs, rfl⟩ : ∃ x xs, s = x :: xs := by
      cases s with
      | nil => exact absurd rfl hs
      | cons x xs => exact ⟨x, xs, rfl⟩
    go_enter Try.func66, Try.ntmps66
    go_wp2
    go_ret
    refine ⟨ret_bool ?_, balloc _ _⟩
    rw [← HR.out]
    simp [formedB, Nd.k, Nd.s]
set_option maxRecDepth 100000 in
set_option maxHeartbeats 2000000 in
theorem formed_name (C : List Cn) (fv : Value) (n : Int) (s : By) (l : List Nd) (ao : Option Addr) (cap : Nat) (w : World) (hl : l.length ≤ 1000000) :
    Calls Try.prog 66 #[fv, .agg #[.int .i64 4, .string ⟨s.toArray⟩, .int .i64 n, .int .i64 0, .slice none 0 0, .slice ao l.length cap]] w fun e w' => e = .returned (.bool (formedB C (.mk 4 n s l))) ∧ Below w.heap.size w w' := by
  obtain ⟨R, HR⟩ : ∃ R, Hid (formedB C (.mk 4 n s l) = R) := ⟨_, Lib.hid rfl⟩
  rw [HR.out]
  obtain ⟨kl, hkl⟩ : ∃ kl, Hid (l.length = kl) := ⟨_, Lib.hid rfl⟩
  rw [hkl.out] at hl ⊢
  have HB := Lib.hid (show ((kl : Int) == 0) = (l.length == 0) from by rw [hkl.out, Bool.eq_iff_iff]; simp)
  cases h7 : (n == 0)
  · go_enter Try.func66, Try.ntmps66
    go_wp2
    go_ret
    refine ⟨ret_bool ?_, balloc _ _⟩
    rw [← HR.out]
    simp only [formedB, Nd.k, Nd.s, Nd.kids, numOk, Nd.n, h7]
    simp
  · cases h6 : ((kl : Int) == 0)
    all_goals
      go_enter Try.func66, Try.ntmps66
      go_wp2
      go_ret
      refine ⟨ret_bool ?_, balloc _ _⟩
      rw [← HR.out]
      have hb := HB.out
      rw [h6] at hb
      simp only [formedB, Nd.k, Nd.s, Nd.kids, numOk, Nd.n, h7, ← hb]
      simp
set_option maxRecDepth 100000 in
set_option maxHeartbeats 2000000 in
theorem formed_bad (C : List Cn) (fv : Value) (k n : Int) (s : By) (l : List Nd) (ao : Option Addr) (cap : Nat) (w : World) (hl : l.length ≤ 1000000) (h5 : k ≠ 5) (h24 : k ≠ 24) (h1 : k ≠ 1) (h4 : k ≠ 4) :
    Calls Try.prog 66 #[fv, .agg #[.int .i64 k, .string ⟨s.toArray⟩, .int .i64 n, .int .i64 0, .slice none 0 0, .slice ao l.length cap]] w fun e w' => e = .returned (.bool (formedB C (.mk k n s l))) ∧ Below w.heap.size w w' := by
  obtain ⟨R, HR⟩ : ∃ R, Hid (formedB C (.mk k n s l) = R) := ⟨_, Lib.hid rfl⟩
  rw [HR.out]
  obtain ⟨kl, hkl⟩ : ∃ kl, Hid (l.length = kl) := ⟨_, Lib.hid rfl⟩
  rw [hkl.out] at hl ⊢
  have HB := Lib.hid (show ((kl : Int) == 0) = (l.length == 0) from by rw [hkl.out, Bool.eq_iff_iff]; simp)
  have t5 : (k == 5) = false := by simpa using h5
  have t24 : (k == 24) = false := by simpa using h24
  have t1 : (k == 1) = false := by simpa using h1
  have t4 : (k == 4) = false := by simpa using h4
  go_enter Try.func66, Try.ntmps66
  go_wp2
  go_ret
  refine ⟨ret_bool ?_, balloc _ _⟩
  rw [← HR.out]
  simp [formedB, Nd.k, h5, h24, h1, h4]
theorem formed_other (C : List Cn) (fv : Value) (k n : Int) (s : By) (l : List Nd) (ao : Option Addr) (cap : Nat) (w : World) (hl : l.length ≤ 1000000) (h5 : k ≠ 5) :
    Calls Try.prog 66 #[fv, .agg #[.int .i64 k, .string ⟨s.toArray⟩, .int .i64 n, .int .i64 0, .slice none 0 0, .slice ao l.length cap]] w fun e w' => e = .returned (.bool (formedB C (.mk k n s l))) ∧ Below w.heap.size w w' := by
  by_cases h24 : k = 24
  · subst h24; exact formed_any C fv n s l ao cap w hl
  · by_cases h1 : k = 1
    · subst h1; exact formed_int C fv n s l ao cap w hl
    · by_cases h4 : k = 4
      · subst h4; exact formed_name C fv n s l ao cap w hl
      · exact formed_bad C fv k n s l ao cap w hl h5 h24 h1 h4
set_option maxRecDepth 100000 in
set_option maxHeartbeats 2000000 in
theorem formed_c (C : List Cn) (c : Nat) (f : Value) (k n : Int) (s : By) (l : List Nd) (ao : Option Addr) (cap : Nat) (w : World) (hf : CK.Fd w f C c) (hl : l.length ≤ 1000000) :
    Calls Try.prog 66 #[f, .agg #[.int .i64 k, .string ⟨s.toArray⟩, .int .i64 n, .int .i64 0, .slice none 0 0, .slice ao l.length cap]] w fun e w' => e = .returned (.bool (formedB C (.mk k n s l))) ∧ Below w.heap.size w w' := by
  by_cases h5 : k = 5
  case neg => exact formed_other C f k n s l ao cap w hl h5
  obtain ⟨R, HR⟩ : ∃ R, Hid (formedB C (.mk k n s l) = R) := ⟨_, Lib.hid rfl⟩
  rw [HR.out]
  have HF := Lib.hid (hf.keep (balloc w (.cells #[.int .i64 k, .string ⟨s.toArray⟩, .int .i64 n, .int .i64 0, .slice none 0 0, .slice ao l.length cap] 38)))
  have hfv := hf.val
  subst hfv
  clear hf
  have C2 := fun (w' : World) (h : CK.Fd w' (.func (.func 38) #[] #[.pointer (some ⟨c, 0, none⟩)]) C c) => find_c C s c _ w' h
  obtain ⟨kl, hkl⟩ : ∃ kl, Hid (l.length = kl) := ⟨_, Lib.hid rfl⟩
  rw [hkl.out] at hl HF ⊢
  have hn0 : (n == 0) = true ∨ (n == 0) = false := by cases n == 0 <;> simp
  have HBX := Lib.hid (Bx.new w k n s (.slice ao kl cap) 38)
  · subst h5
    obtain ⟨X, hX⟩ : ∃ X, Hid ((conOf C s).isSome = X) := ⟨_, Lib.hid rfl⟩
    obtain ⟨⟨nm, of, tg, ar, mn⟩, hK⟩ : ∃ K, Hid ((conOf C s).getD zeroCn = K) := ⟨_, Lib.hid rfl⟩
    rw [hX.out, hK.out] at C2
    unfold cv at C2
    simp only at C2
    cases X
    · go_enter Try.func66, Try.ntmps66
      go_wp2_with (go_at_call 38; refine (C2 _ HF.out).mono ?_; rintro e w3 ⟨rfl, hb⟩; obtain ⟨hc, hfz⟩ := bcell hb)
      go_ret
      refine ⟨ret_bool ?_, b1 (bnext hb (balloc _ _))⟩
      rw [← HR.out]
      have := hX.out
      cases hcon : conOf C s with
      | none => simp [formedB, Nd.k, Nd.s, hcon]
      | some c => rw [hcon] at this; cases this
    · have HB : ((kl : Int) == (ar : Int)) = (kl == ar) := by rw [Bool.eq_iff_iff]; simp; omega
      have hcon : conOf C s = some ⟨nm, of, tg, ar, mn⟩ := by
        have h1 := hX.out
        have h2 := hK.out
        cases h : conOf C s with
        | none => rw [h] at h1; cases h1
        | some d => rw [h] at h2; rw [← h2]; rfl
      have HRR := Lib.hid (show (numOk (.mk 5 n s l) && kl == ar) = R from by rw [← HR.out, ← hkl.out]; simp [formedB, Nd.k, Nd.s, Nd.kids, hcon])
      cases h6 : ((kl : Int) == (ar : Int)) <;> rcases hn0 with h7 | h7
      all_goals
        rw [h6] at HB
        have HB' := Lib.hid HB
        clear HB hcon
        go_enter Try.func66, Try.ntmps66
        go_wp2_with (go_at_call 38; refine (C2 _ HF.out).mono ?_; rintro e w3 ⟨rfl, hb⟩; obtain ⟨hlz, y0, y1, y2, y3, y4, y5⟩ := HBX.out.keep hb)
        go_ret
        refine ⟨ret_bool ?_, b1 (bnext hb (balloc _ _))⟩
        rw [← HRR.out, ← HB'.out]
        simp [numOk, Nd.n, Nd.k, h7]
end Go.Proofs.Ytommaomhiaaphaa.CP
