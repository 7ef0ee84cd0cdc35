/- From token to token: what is left, at each place. -/
import Derived.Test.YtlcapkgbbgpdmaaGreatDoorTJ
import Derived.Test.YtlcapkgbbgpdmaaGreatDoorYG
namespace Go.Proofs.YtlcapkgbbgpdmaaGreatDoor.TP
open Go.Proofs.YtlcapkgbbgpdmaaGreatDoor.P Go.Proofs.YtlcapkgbbgpdmaaGreatDoor.TK Go.Proofs.YtlcapkgbbgpdmaaGreatDoor.TJ Go.Proofs.YtlcapkgbbgpdmaaGreatDoor.YG Go.Proofs.YtlcapkgbbgpdmaaGreatDoor.YW

theorem drop_drop' (l : List UInt8) (a b : Nat) : (l.drop a).drop b = l.drop (a + b) := by rw [List.drop_drop]
theorem run_gp : ∀ (f : Nat) (l : List UInt8) (i : Nat), l.length < f → run f l i = run f (l.drop (gp f l)) (i + gp f l)
  | 0, _, _, h => by omega
  | f + 1, [], i, _ => rfl
  | f + 1, c :: r, i, h => by
    simp only [List.length_cons] at h
    rw [gp_cons]
    by_cases h1 : bl c = true
    · rw [if_pos h1, run_cons, if_pos h1, run_gp f r (i + 1) (by omega), Nat.add_comm 1, List.drop_succ_cons]
      rw [run_fuel f (f + 1) _ _ (by simp; omega) (by simp; omega)]
      congr 1; omega
    · rw [if_neg h1]
      by_cases h2 : c = 35
      · rw [if_pos h2, run_cons, if_neg h1, if_pos h2]
        have hl := (List.dropWhile_sublist nb (l := r)).length_le
        rw [run_gp f (r.dropWhile nb) _ (by omega)]
        have e : (c :: r).drop (1 + (r.takeWhile nb).length + gp f (r.dropWhile nb)) = (r.dropWhile nb).drop (gp f (r.dropWhile nb)) := by
          rw [show 1 + (r.takeWhile nb).length + gp f (r.dropWhile nb) = (r.takeWhile nb).length + gp f (r.dropWhile nb) + 1 from by omega, List.drop_succ_cons]
          conv => rhs; rw [dropWhile_drop]
          rw [List.drop_drop, dropWhile_drop]
        rw [e, run_fuel f (f + 1) _ _ (by simp; omega) (by simp; omega)]
        congr 1; omega
      · rw [if_neg h2]; rfl
theorem gp_idem : ∀ (f : Nat) (l : List UInt8), l.length < f → gp f (l.drop (gp f l)) = 0
  | 0, _, h => by omega
  | f + 1, [], _ => rfl
  | f + 1, c :: r, h => by
    simp only [List.length_cons] at h
    by_cases h1 : bl c = true
    · have e : gp (f + 1) (c :: r) = 1 + gp f r := by rw [gp_cons, if_pos h1]
      rw [e, Nat.add_comm 1, List.drop_succ_cons, gp_fuel (f + 1) f _ (by simp; omega) (by simp; omega)]
      exact gp_idem f r (by omega)
    · by_cases h2 : c = 35
      · have e : gp (f + 1) (c :: r) = 1 + (r.takeWhile nb).length + gp f (r.dropWhile nb) := by rw [gp_cons, if_neg h1, if_pos h2]
        have hl := (List.dropWhile_sublist nb (l := r)).length_le
        have e2 : (c :: r).drop (1 + (r.takeWhile nb).length + gp f (r.dropWhile nb)) = (r.dropWhile nb).drop (gp f (r.dropWhile nb)) := by
          rw [show 1 + (r.takeWhile nb).length + gp f (r.dropWhile nb) = (r.takeWhile nb).length + gp f (r.dropWhile nb) + 1 from by omega, List.drop_succ_cons]
          conv => rhs; rw [dropWhile_drop]
          rw [List.drop_drop, dropWhile_drop]
        rw [e, e2, gp_fuel (f + 1) f _ (by simp; omega) (by simp; omega)]
        exact gp_idem f (r.dropWhile nb) (by omega)
      · have e : gp (f + 1) (c :: r) = 0 := by rw [gp_cons, if_neg h1, if_neg h2]
        rw [e]; exact e

/-- The tokens from a place on. -/
def from_ (s : ByteArray) (k : Nat) : Except (Nat × Nat) (List Tok) := run ((s.data.toList.drop k).length + 1) (s.data.toList.drop k) k
theorem from_gap (s : ByteArray) (k : Nat) : from_ s k = from_ s (k + ge s k) := by
  unfold from_
  rw [run_gp _ _ _ (Nat.lt_succ_self _)]
  show run _ ((s.data.toList.drop k).drop (ge s k)) (k + ge s k) = _
  rw [List.drop_drop]
  exact run_fuel _ _ _ _ (by simp; omega) (by simp)
theorem ge_idem (s : ByteArray) (k : Nat) : ge s (k + ge s k) = 0 := by
  have h := gp_idem ((s.data.toList.drop k).length + 1) (s.data.toList.drop k) (Nat.lt_succ_self _)
  have h' : gp ((s.data.toList.drop k).length + 1) ((s.data.toList.drop k).drop (ge s k)) = 0 := h
  rw [List.drop_drop] at h'
  unfold ge at h' ⊢
  rw [← h']
  exact gp_fuel _ _ _ (by simp) (by simp; omega)
theorem ge_le {s : ByteArray} : ∀ (f : Nat) (l : List UInt8), gp f l ≤ l.length
  | 0, _ => Nat.zero_le _
  | f + 1, [] => Nat.le_refl _
  | f + 1, c :: r => by
    rw [gp_cons]
    have hl := take_drop_len nb r
    split
    · have := @ge_le s f r; simp; omega
    · split
      · have := @ge_le s f (r.dropWhile nb); simp; omega
      · simp
theorem ge_end {s : ByteArray} {k : Nat} (h : k ≤ s.size) : k + ge s k ≤ s.size := by
  have := @ge_le s ((s.data.toList.drop k).length + 1) (s.data.toList.drop k)
  unfold ge
  simp at this ⊢
  omega
theorem from_end {s : ByteArray} {k : Nat} (h : s.size ≤ k) : from_ s k = .ok [⟨0, [], 0, k⟩] := by
  unfold from_; rw [drop_out h]; rfl
theorem ge_zero {s : ByteArray} {k : Nat} (h : k < s.size) (h0 : ge s k = 0) : bl s[k] = false ∧ s[k] ≠ 35 := by
  cases hb : bl s[k] with
  | true => rw [ge_blank h hb] at h0; omega
  | false =>
    refine ⟨rfl, fun e => ?_⟩
    rw [ge_remark h hb e, lasts_yes h (by rw [e]; decide)] at h0
    omega
theorem from_tok {s : ByteArray} {k : Nat} (h : k < s.size) (h0 : ge s k = 0) (ht : (tk (s.data.toList.drop k)).2.2 = 0) :
    from_ s k = (match from_ s (k + (tk (s.data.toList.drop k)).2.1) with
      | .ok ts => .ok (⟨(tk (s.data.toList.drop k)).1.1, (tk (s.data.toList.drop k)).1.2.1, (tk (s.data.toList.drop k)).1.2.2, k⟩ :: ts)
      | .error e => .error e) := by
  obtain ⟨hb, h35⟩ := ge_zero h h0
  have hl := tk_len ht
  have e1 : from_ s k = run ((s.data.toList.drop (k + 1)).length + 1 + 1) (s[k] :: s.data.toList.drop (k + 1)) k := by
    unfold from_; rw [drop_at h]; rfl
  rw [e1, run_cons, if_neg (by rw [hb]; decide), if_neg h35, ← drop_at h, if_pos ht]
  have e2 : (s.data.toList.drop (k + 1)).drop ((tk (s.data.toList.drop k)).2.1 - 1) = s.data.toList.drop (k + (tk (s.data.toList.drop k)).2.1) := by
    rw [List.drop_drop]; congr 1; omega
  rw [e2]
  have e3 : run ((s.data.toList.drop (k + 1)).length + 1) (s.data.toList.drop (k + (tk (s.data.toList.drop k)).2.1)) (k + (tk (s.data.toList.drop k)).2.1) = from_ s (k + (tk (s.data.toList.drop k)).2.1) := by
    unfold from_
    exact run_fuel _ _ _ _ (by simp; omega) (by simp)
  rw [e3]
  cases from_ s (k + (tk (s.data.toList.drop k)).2.1) <;> rfl
theorem from_err {s : ByteArray} {k : Nat} (h : k < s.size) (h0 : ge s k = 0) (ht : (tk (s.data.toList.drop k)).2.2 ≠ 0) : from_ s k = .error (k, (tk (s.data.toList.drop k)).2.2) := by
  obtain ⟨hb, h35⟩ := ge_zero h h0
  have e1 : from_ s k = run ((s.data.toList.drop (k + 1)).length + 1 + 1) (s[k] :: s.data.toList.drop (k + 1)) k := by
    unfold from_; rw [drop_at h]; rfl
  rw [e1, run_cons, if_neg (by rw [hb]; decide), if_neg h35, ← drop_at h, if_neg ht]

/-- With tokens that have been read ahead. -/
def glue (ts : List Tok) : Except (Nat × Nat) (List Tok) → List Tok × Nat × Nat
  | .ok us => (ts ++ us, 0, 0)
  | .error e => ([], e.1, e.2)
theorem glue_tok {s : ByteArray} {k : Nat} {ts : List Tok} (h : k < s.size) (h0 : ge s k = 0) (ht : (tk (s.data.toList.drop k)).2.2 = 0) :
    glue ts (from_ s k) = glue (ts ++ [⟨(tk (s.data.toList.drop k)).1.1, (tk (s.data.toList.drop k)).1.2.1, (tk (s.data.toList.drop k)).1.2.2, k⟩]) (from_ s (k + (tk (s.data.toList.drop k)).2.1 + ge s (k + (tk (s.data.toList.drop k)).2.1))) := by
  rw [from_tok h h0 ht, ← from_gap]
  cases from_ s (k + (tk (s.data.toList.drop k)).2.1) with
  | ok us => simp [glue]
  | error e => rfl
theorem glue_err {s : ByteArray} {k : Nat} {ts : List Tok} (h : k < s.size) (h0 : ge s k = 0) (ht : (tk (s.data.toList.drop k)).2.2 ≠ 0) : glue ts (from_ s k) = ([], k, (tk (s.data.toList.drop k)).2.2) := by
  rw [from_err h h0 ht]; rfl
theorem glue_end {s : ByteArray} {k : Nat} {ts : List Tok} (h : k = s.size) : glue ts (from_ s k) = (ts ++ [⟨0, [], 0, s.size⟩], 0, 0) := by
  rw [from_end (by omega), h]; rfl
theorem toks_glue (s : ByteArray) (h : s.size ≤ 2000) : toks s.data.toList = glue [] (from_ s (0 + ge s 0)) := by
  rw [← from_gap]
  unfold toks from_
  rw [if_pos (by simpa using h), List.drop_zero]
  cases run (s.data.toList.length + 1) s.data.toList 0 <;> rfl
end Go.Proofs.YtlcapkgbbgpdmaaGreatDoor.TP
