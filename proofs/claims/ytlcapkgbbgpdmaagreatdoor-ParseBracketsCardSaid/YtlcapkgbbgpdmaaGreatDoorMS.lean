/- No part lengthens the tokens that are left. Nothing of the program is in sight. -/
import Derived.Test.YtlcapkgbbgpdmaaGreatDoorMP
namespace Go.Proofs.YtlcapkgbbgpdmaaGreatDoor.MS
open Go.Proofs.YtlcapkgbbgpdmaaGreatDoor.TK Go.Proofs.YtlcapkgbbgpdmaaGreatDoor.GR Go.Proofs.YtlcapkgbbgpdmaaGreatDoor.MP
set_option linter.unusedVariables false
set_option maxRecDepth 100000

def Sh (R : Part) : Prop := ∀ s, (R s).2.ts.length ≤ s.ts.length
theorem fail_le (s : St) (e : Nat) : (s.fail e).ts.length ≤ s.ts.length := by
  unfold St.fail; split
  · simp
  · exact Nat.le_refl _
theorem take_le (s : St) : s.take.ts.length ≤ s.ts.length := by show s.ts.tail.length ≤ _; simp
theorem take_lt {s : St} (h : s.k ≠ 0) : s.take.ts.length + 1 ≤ s.ts.length := by
  show s.ts.tail.length + 1 ≤ _
  have hs : s.ts ≠ [] := fun e => h (by unfold St.k; rw [e]; rfl)
  rw [List.length_tail]
  have := List.length_pos_iff.mpr hs
  omega
theorem is_k {s : St} {w : By} (h : s.is w = true) : s.k ≠ 0 := by
  unfold St.is isT at h
  intro e
  have e : (hd s.ts).k = 0 := e
  rw [e] at h; simp at h
theorem expect_le (w : By) (s : St) : (expect w s).ts.length ≤ s.ts.length := by
  unfold expect; split
  · exact take_le s
  · exact fail_le s 14
theorem expect_lt {w : By} {s : St} (h : s.is w = true) : (expect w s).ts.length + 1 ≤ s.ts.length := by
  unfold expect; rw [if_pos h]; exact take_lt (is_k h)
theorem accept_le (w : By) (s : St) : (accept w s).2.ts.length ≤ s.ts.length := by
  unfold accept; split
  · exact take_le s
  · exact Nat.le_refl _
theorem text_le (k : Nat) (s : St) : (text k s).2.ts.length ≤ s.ts.length := by
  unfold text; split
  · exact take_le s
  · exact fail_le s 14
theorem text_lt {k : Nat} {s : St} (h : s.k = k) (h0 : k ≠ 0) : (text k s).2.ts.length + 1 ≤ s.ts.length := by
  unfold text; rw [if_pos h]; exact take_lt (by omega)
theorem leaf_le : Sh leaf := fun s => take_le s
theorem failed_le (e : Nat) : Sh (failed e) := fun s => fail_le s e
theorem bracketed_le {R : Part} (h : Sh R) : Sh (bracketed R) := fun s => Nat.le_trans (expect_le _ _) (h s)

-- types
theorem tyatom_le {T : Part} (h : Sh T) : Sh (tyatom T) := by
  intro s; unfold tyatom; split
  · exact Nat.le_trans (bracketed_le h s.take) (take_le s)
  · exact text_le 3 s
theorem tyatom_lt {T : Part} (h : Sh T) (s : St) (hs : tyStops s = true) : (tyatom T s).2.ts.length + 1 ≤ s.ts.length := by
  unfold tyStops at hs
  unfold tyatom
  cases hi : s.is [40] with
  | true =>
    rw [if_pos rfl]
    exact Nat.le_trans (Nat.succ_le_succ (bracketed_le h s.take)) (take_lt (is_k hi))
  | false =>
    rw [hi] at hs
    have h3 : s.k = 3 := by simpa using hs
    rw [if_neg (by decide)]
    exact text_lt h3 (by decide)
theorem tyLoop_le {T : Part} (h : Sh T) : ∀ k n s, (tyLoop T k n s).2.ts.length ≤ s.ts.length
  | 0, n, s => Nat.le_refl _
  | k + 1, n, s => by
    unfold tyLoop; split
    · exact Nat.le_trans (tyLoop_le h k _ _) (tyatom_le h s)
    · exact Nat.le_refl _
theorem tyapp_le {T : Part} (h : Sh T) : Sh (tyappP T) := fun s => Nat.le_trans (tyLoop_le h _ _ _) (text_le 3 s)
theorem levT_le : ∀ g, Sh (levT g)
  | 0 => failed_le 15
  | g + 1 => tyapp_le (levT_le g)

-- constructors, patterns
theorem conLoop_le {more : St → Bool} {R : Part} (h : Sh R) : ∀ k n s, (conLoop more R k n s).2.ts.length ≤ s.ts.length
  | 0, n, s => Nat.le_refl _
  | k + 1, n, s => by
    unfold conLoop; split
    · split
      · exact fail_le s 16
      · exact Nat.le_trans (conLoop_le h k _ _) (h s)
    · exact Nat.le_refl _
theorem con_le {more : St → Bool} {R : Part} (h : Sh R) : Sh (conP more R) := fun s => Nat.le_trans (conLoop_le h _ _ _) (leaf_le s)
structure LSh (L : Lev) : Prop where
  x : ∀ j, Sh (L.x j)
  f : ∀ j, Sh (L.f j)
  y : Sh L.y
theorem patom_le {L : Lev} (h : LSh L) : Sh (patomP L) := by
  intro s; unfold patomP; split
  · exact fail_le s 14
  · split
    · exact Nat.le_trans (bracketed_le h.y s.take) (take_le s)
    · split
      · exact take_le s
      · exact leaf_le s
theorem pat_le {L : Lev} (h : LSh L) : Sh (patP L) := by
  intro s; unfold patP; split
  · exact con_le (patom_le h) s
  · exact patom_le h s

-- atoms
theorem rows_le {L : Lev} (h : LSh L) : ∀ n rows ks s, (rowsLoop L n rows ks s).2.ts.length ≤ s.ts.length
  | 0, rows, ks, s => Nat.le_refl _
  | n + 1, rows, ks, s => by
    unfold rowsLoop; split
    · split
      · exact fail_le s 16
      · have h1 := rows_le h n (rows + 1) (ks ++ [(L.y (expect [124] s)).1] ++ [(L.x true (expect wArrow (L.y (expect [124] s)).2)).1]) (L.x true (expect wArrow (L.y (expect [124] s)).2)).2
        have h2 := h.x true (expect wArrow (L.y (expect [124] s)).2)
        have h3 := expect_le wArrow (L.y (expect [124] s)).2
        have h4 := h.y (expect [124] s)
        have h5 := expect_le [124] s
        exact Nat.le_trans h1 (Nat.le_trans h2 (Nat.le_trans h3 (Nat.le_trans h4 h5)))
    · exact Nat.le_refl _
theorem match_at {L : Lev} (h : LSh L) (s : St) : (matchP L s).2.ts.length ≤ (expect wMatch s).ts.length := by
  have h1 := h.x true (expect wMatch s)
  have h2 := expect_le wWith (L.x true (expect wMatch s)).2
  have h3 := rows_le h 21 0 [(L.x true (expect wMatch s)).1] (expect wWith (L.x true (expect wMatch s)).2)
  have h4 := Nat.le_trans h3 (Nat.le_trans h2 h1)
  unfold matchP
  cases hr : rowsLoop L 21 0 [(L.x true (expect wMatch s)).1] (expect wWith (L.x true (expect wMatch s)).2) with
  | mk o r =>
    rw [hr] at h4
    cases o with
    | none => exact h4
    | some ks => exact Nat.le_trans (expect_le wEnd r) h4
theorem try_at {L : Lev} (h : LSh L) (s : St) : (tryP L s).2.ts.length ≤ (expect wTry s).ts.length :=
  Nat.le_trans (expect_le wEnd _) (Nat.le_trans (h.x true _) (Nat.le_trans (expect_le wArrow _) (Nat.le_trans (text_le 3 _) (Nat.le_trans (expect_le wWith _) (h.x true _)))))
theorem brackets_at {L : Lev} (h : LSh L) (s : St) : (bracketsP L s).2.ts.length ≤ (expect [40] s).ts.length := by
  unfold bracketsP; split
  · exact take_le _
  · exact bracketed_le (h.x true) _
theorem atom_le {L : Lev} (h : LSh L) : Sh (atomP L) := by
  intro s; unfold atomP; split
  · exact leaf_le s
  · split
    · exact Nat.le_trans (brackets_at h s) (expect_le _ s)
    · split
      · exact take_le s
      · split
        · exact Nat.le_trans (match_at h s) (expect_le _ s)
        · split
          · exact Nat.le_trans (try_at h s) (expect_le _ s)
          · exact fail_le s 14
theorem word_is {s : St} {w : By} (h : s.word = w) (hw : w ≠ []) : s.is w = true := by
  unfold St.word at h
  unfold St.is isT
  split at h
  · rename_i hk
    have hk : (hd s.ts).k = 6 ∨ (hd s.ts).k = 5 := hk
    rcases hk with hk | hk <;> simp [hk, h]
  · exact absurd h.symm hw
theorem atomWord_1 {w : By} (h : atomWord w = 1) : w = [40] := by
  unfold atomWord at h; repeat' (first | (split at h) | assumption | (exact absurd h (by decide)))
theorem atomWord_2 {w : By} (h : atomWord w = 2) : w = wRetry := by
  unfold atomWord at h; repeat' (first | (split at h) | assumption | (exact absurd h (by decide)))
theorem atomWord_3 {w : By} (h : atomWord w = 3) : w = wMatch := by
  unfold atomWord at h; repeat' (first | (split at h) | assumption | (exact absurd h (by decide)))
theorem atomWord_4 {w : By} (h : atomWord w = 4) : w = wTry := by
  unfold atomWord at h; repeat' (first | (split at h) | assumption | (exact absurd h (by decide)))
theorem leafKind_k {k : Nat} (h : leafKind k ≠ 0) : k ≠ 0 := by intro e; subst e; exact h rfl
theorem atom_lt {L : Lev} (h : LSh L) (s : St) (hs : atAtom s = true) : (atomP L s).2.ts.length + 1 ≤ s.ts.length := by
  unfold atAtom at hs
  unfold atomP
  by_cases h0 : leafKind s.k = 0
  · rw [if_neg (by omega)]
    by_cases h1 : atomWord s.word = 1
    · rw [if_pos h1]
      exact Nat.le_trans (Nat.succ_le_succ (brackets_at h s)) (expect_lt (word_is (atomWord_1 h1) (by decide)))
    · rw [if_neg h1]
      by_cases h2 : atomWord s.word = 2
      · rw [if_pos h2]
        exact take_lt (is_k (word_is (atomWord_2 h2) (by decide)))
      · rw [if_neg h2]
        by_cases h3 : atomWord s.word = 3
        · rw [if_pos h3]
          exact Nat.le_trans (Nat.succ_le_succ (match_at h s)) (expect_lt (word_is (atomWord_3 h3) (by decide)))
        · rw [if_neg h3]
          by_cases h4 : atomWord s.word = 4
          · rw [if_pos h4]
            exact Nat.le_trans (Nat.succ_le_succ (try_at h s)) (expect_lt (word_is (atomWord_4 h4) (by decide)))
          · exfalso
            have hw : atomWord s.word ≠ 0 := by simpa [h0] using hs
            unfold atomWord at hw h1 h2 h3 h4
            repeat' (first | (split at hw) | (exact hw rfl) | simp_all)
  · rw [if_pos h0]; exact take_lt (leafKind_k h0)

-- apps and up
theorem callLoop_le {L : Lev} (h : LSh L) : ∀ k n s, (callLoop L k n s).2.ts.length ≤ s.ts.length
  | 0, n, s => Nat.le_refl _
  | k + 1, n, s => by
    unfold callLoop; split
    · exact Nat.le_trans (callLoop_le h k _ _) (atom_le h s)
    · exact Nat.le_refl _
theorem app_le {L : Lev} (h : LSh L) : Sh (appP L) := by
  intro s; unfold appP; split
  · split
    · exact Nat.le_trans (atom_le h _) (Nat.le_trans (atom_le h _) (take_le s))
    · exact Nat.le_trans (atom_le h _) (take_le s)
  · split
    · exact con_le (atom_le h) s
    · exact Nat.le_trans (callLoop_le h _ _ _) (atom_le h s)
theorem op_le {R : Part} (h : Sh R) (n : Tree) (s : St) : (opP R n s).2.ts.length ≤ s.ts.length := Nat.le_trans (h s.take) (take_le s)
theorem opLoop_le {l : List By} {R : Part} (h : Sh R) : ∀ k n s, (opLoop l R k n s).2.ts.length ≤ s.ts.length
  | 0, n, s => Nat.le_refl _
  | k + 1, n, s => by
    unfold opLoop; split
    · exact Nat.le_trans (opLoop_le h k _ _) (op_le h n s)
    · exact Nat.le_refl _
theorem prod_le {L : Lev} (h : LSh L) : Sh (prodP L) := fun s => Nat.le_trans (opLoop_le (app_le h) _ _ _) (app_le h s)
theorem sum_le {L : Lev} (h : LSh L) : Sh (sumP L) := fun s => Nat.le_trans (opLoop_le (prod_le h) _ _ _) (prod_le h s)
theorem cmp_le {L : Lev} (h : LSh L) : Sh (cmpP L) := by
  intro s; unfold cmpP; split
  · exact Nat.le_trans (op_le (sum_le h) _ _) (sum_le h s)
  · exact sum_le h s
theorem seq_le {L : Lev} (h : LSh L) (j : Bool) : Sh (seqP L j) := by
  intro s; unfold seqP; split
  · exact Nat.le_trans (h.x j _) (Nat.le_trans (take_le _) (cmp_le h s))
  · exact cmp_le h s
theorem bind_le {L : Lev} (h : LSh L) (j : Bool) (a b : Nat) : Sh (bindP L j a b) := by
  intro s
  have h1 := Nat.le_trans (expect_le [61] (text 3 (accept wRec (expect wLet s)).2).2) (Nat.le_trans (text_le 3 _) (Nat.le_trans (accept_le wRec _) (expect_le wLet s)))
  show (if (accept wRec (expect wLet s)).1 = true then L.f j _ else L.x j _).2.ts.length ≤ _
  split
  · exact Nat.le_trans (h.f j _) h1
  · exact Nat.le_trans (h.x j _) h1
theorem let_le {L : Lev} (h : LSh L) (j : Bool) : Sh (letP L j) := fun s => Nat.le_trans (h.x j _) (Nat.le_trans (expect_le wIn _) (bind_le h j 8 9 s))
theorem fun_le {L : Lev} (h : LSh L) (j : Bool) : Sh (funP L j) := fun s => Nat.le_trans (h.x j _) (Nat.le_trans (expect_le wArrow _) (Nat.le_trans (text_le 3 _) (expect_le wFun s)))
theorem cond_le {L : Lev} (h : LSh L) (j : Bool) : Sh (condP L j) := fun s => Nat.le_trans (h.x j _) (Nat.le_trans (expect_le wElse _) (Nat.le_trans (h.x j _) (Nat.le_trans (expect_le wThen _) (Nat.le_trans (h.x j _) (expect_le wIf s)))))
theorem anyExp_le {L : Lev} (h : LSh L) (j : Bool) : Sh (anyExpP L j) := by
  intro s; unfold anyExpP; split
  · exact let_le h j s
  · split
    · exact fun_le h j s
    · split
      · exact cond_le h j s
      · exact seq_le h j s
theorem lev_le : ∀ g, LSh (lev g)
  | 0 => ⟨fun _ => failed_le 15, fun _ => failed_le 15, failed_le 15⟩
  | g + 1 => ⟨fun j => anyExp_le (lev_le g) j, fun j => fun_le (lev_le g) j, pat_le (lev_le g)⟩
end Go.Proofs.YtlcapkgbbgpdmaaGreatDoor.MS
