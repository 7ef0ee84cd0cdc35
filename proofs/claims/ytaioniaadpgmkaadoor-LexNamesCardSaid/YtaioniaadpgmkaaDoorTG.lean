/- Sources of one token, of blanks, of signs. Nothing of the program is in sight. -/
import Derived.Test.YtaioniaadpgmkaaDoorTC
namespace Go.Proofs.YtaioniaadpgmkaaDoor.TG
open Go.Proofs.YtaioniaadpgmkaaDoor.P Go.Proofs.YtaioniaadpgmkaaDoor.Q Go.Proofs.YtaioniaadpgmkaaDoor.TK Go.Proofs.YtaioniaadpgmkaaDoor.TJ Go.Proofs.YtaioniaadpgmkaaDoor.TC

def gaps : List (List UInt8) := [[32], [10], [9, 10, 32], [10, 35, 32, 108, 101, 116, 10], [32, 35, 10]]
theorem run_blank (f : Nat) (c : UInt8) (r : List UInt8) (i : Nat) (h : bl c = true) : run (f + 1) (c :: r) i = run f r (i + 1) := by rw [run_cons, if_pos h]
theorem run_gap (g t : List UInt8) (i : Nat) (hg : g ∈ gaps) : run ((g ++ t).length + 1) (g ++ t) i = run (t.length + 1) t (i + g.length) := by
  have n10 : nb 10 = false := by decide
  simp only [gaps, List.mem_cons, List.not_mem_nil, or_false] at hg
  rcases hg with rfl | rfl | rfl | rfl | rfl
  · exact run_blank _ 32 t i (by decide)
  · exact run_blank _ 10 t i (by decide)
  · show run (t.length + 3 + 1) (9 :: 10 :: 32 :: t) i = _
    rw [run_blank _ _ _ _ (by decide), run_blank _ _ _ _ (by decide), run_blank _ _ _ _ (by decide)]
    exact run_fuel _ _ _ _ (by omega) (by omega)
  · show run (t.length + 7 + 1) (10 :: 35 :: ([32, 108, 101, 116] ++ 10 :: t)) i = _
    rw [run_blank _ _ _ _ (by decide), run_cons, if_neg (by decide), if_pos rfl, dropWhile_stop n10, takeWhile_stop n10]
    show run (t.length + 6) (10 :: t) (i + 1 + (1 + 4)) = _
    rw [run_blank _ _ _ _ (by decide), show i + 1 + (1 + 4) + 1 = i + 7 from by omega]
    exact run_fuel _ _ _ _ (by omega) (by omega)
  · show run (t.length + 3 + 1) (32 :: 35 :: ([] ++ 10 :: t)) i = _
    rw [run_blank _ _ _ _ (by decide), run_cons, if_neg (by decide), if_pos rfl, dropWhile_stop n10, takeWhile_stop n10]
    show run (t.length + 2) (10 :: t) (i + 1 + (1 + 0)) = _
    rw [run_blank _ _ _ _ (by decide), show i + 1 + (1 + 0) + 1 = i + 3 from by omega]
    exact run_fuel _ _ _ _ (by omega) (by omega)

/-- Two sources, with byte 10 and a gap between. -/
theorem joined {s t g : List UInt8} {a b : List Tok} (hg : g ∈ gaps) (hs : run ((s ++ [10]).length + 1) (s ++ [10]) 0 = .ok a) (ht : run (t.length + 1) t 0 = .ok b) :
    run ((s ++ 10 :: (g ++ t)).length + 1) (s ++ 10 :: (g ++ t)) 0 = .ok (a.dropLast ++ b.map (shiftT (s.length + 1 + g.length))) := by
  rw [run_join (g ++ t) _ _ s 0 a hs (by simp <;> omega), run_gap g t _ hg]
  have := run_shift (s.length + 1 + g.length) (t.length + 1) t 0
  rw [show 0 + (s.length + 1) + g.length = 0 + (s.length + 1 + g.length) from by omega, this, ht]

theorem all_take {p : UInt8 → Bool} : ∀ l : List UInt8, (∀ c ∈ l, p c = true) → l.takeWhile p = l
  | [], _ => rfl
  | c :: l, h => by
    rw [List.takeWhile_cons, if_pos (h c (by simp)), all_take l (fun d hd => h d (by simp [hd]))]
theorem one {c : UInt8} {r : List UInt8} (i : Nat) (hb : bl c = false) (h35 : c ≠ 35) {k n : Nat} {x : List UInt8} (h : tk (c :: r) = ((k, x, n), (c :: r).length, 0)) :
    run ((c :: r).length + 1) (c :: r) i = .ok [⟨k, x, n, i⟩, ⟨0, [], 0, i + (c :: r).length⟩] := by
  rw [run_cons, if_neg (by rw [hb]; decide), if_neg h35, h, if_pos rfl]
  simp only [List.length_cons, Nat.add_sub_cancel, List.drop_length]
  rfl
theorem none {c : UInt8} {r : List UInt8} (i : Nat) (hb : bl c = false) (h35 : c ≠ 35) {e : Nat} {x : Nat × List UInt8 × Nat} {m : Nat} (h : tk (c :: r) = (x, m, e)) (he : e ≠ 0) :
    run ((c :: r).length + 1) (c :: r) i = .error (i, e) := by
  rw [run_cons, if_neg (by rw [hb]; decide), if_neg h35, h, if_neg he]

theorem cls {c : UInt8} (h : (isS c || isL c) = true) : bl c = false ∧ c ≠ 35 ∧ isD c = false ∧ c ≠ 34 := by
  have key : ∀ n : Fin 256, (isS (UInt8.ofNat n.val) || isL (UInt8.ofNat n.val)) = true → bl (UInt8.ofNat n.val) = false ∧ UInt8.ofNat n.val ≠ 35 ∧ isD (UInt8.ofNat n.val) = false ∧ UInt8.ofNat n.val ≠ 34 := by decide +kernel
  have := key ⟨c.toNat, c.toNat_lt⟩
  rw [UInt8.ofNat_toNat] at this
  exact this h
theorem clsD {c : UInt8} (h : isD c = true) : bl c = false ∧ c ≠ 35 := by
  have key : ∀ n : Fin 256, isD (UInt8.ofNat n.val) = true → bl (UInt8.ofNat n.val) = false ∧ UInt8.ofNat n.val ≠ 35 := by decide +kernel
  have := key ⟨c.toNat, c.toNat_lt⟩
  rw [UInt8.ofNat_toNat] at this
  exact this h
def kindOf (l : List UInt8) : Nat := match l with
  | [] => 3
  | c :: r => if isL c = true then 4 else if isKey (c :: r) = true then 6 else 3
theorem toks_nil : toks [] = ([⟨0, [], 0, 0⟩], 0, 0) := rfl
theorem toks_name {c : UInt8} {r : List UInt8} (hc : (isS c || isL c) = true) (hr : ∀ d ∈ r, isN d = true) (hl : (c :: r).length ≤ 2000) :
    toks (c :: r) = if (c :: r).length ≤ 16 then ([⟨kindOf (c :: r), c :: r, 0, 0⟩, ⟨0, [], 0, (c :: r).length⟩], 0, 0) else ([], 0, 12) := by
  obtain ⟨h1, h2, h3, h4⟩ := cls hc
  have ht : (c :: r).takeWhile isN = c :: r := all_take _ (fun d hd => by
    rcases List.mem_cons.1 hd with rfl | hd
    · exact isN_of hc
    · exact hr d hd)
  unfold toks
  rw [if_pos hl]
  by_cases h16 : (c :: r).length ≤ 16
  · rw [if_pos h16]
    have e : tk (c :: r) = ((kindOf (c :: r), c :: r, 0), (c :: r).length, 0) := by
      rw [tk_cons, if_neg (by rw [h3]; decide), if_neg h4, if_pos hc, ht, if_pos h16]; rfl
    rw [one 0 h1 h2 e, Nat.zero_add]
  · rw [if_neg h16]
    have e : tk (c :: r) = ((0, [], 0), 0, 12) := by
      rw [tk_cons, if_neg (by rw [h3]; decide), if_neg h4, if_pos hc, ht, if_neg h16]
    rw [none 0 h1 h2 e (by decide)]
theorem toks_digits {c : UInt8} {r : List UInt8} (hr : ∀ d ∈ c :: r, isD d = true) (hl : (c :: r).length ≤ 2000) :
    toks (c :: r) = if val (c :: r) ≤ 4611686018427387903 then ([⟨1, [], val (c :: r), 0⟩, ⟨0, [], 0, (c :: r).length⟩], 0, 0) else ([], 0, 13) := by
  have hc := hr c (by simp)
  obtain ⟨h1, h2⟩ := clsD hc
  have ht : (c :: r).takeWhile isD = c :: r := all_take _ hr
  unfold toks
  rw [if_pos hl]
  by_cases hv : val (c :: r) ≤ 4611686018427387903
  · rw [if_pos hv]
    have e : tk (c :: r) = ((1, [], val (c :: r)), (c :: r).length, 0) := by rw [tk_cons, if_pos hc, ht, if_pos hv]
    rw [one 0 h1 h2 e, Nat.zero_add]
  · rw [if_neg hv]
    have e : tk (c :: r) = ((0, [], 0), 0, 13) := by rw [tk_cons, if_pos hc, ht, if_neg hv]
    rw [none 0 h1 h2 e (by decide)]

theorem val_fold (l : List UInt8) : ∀ v : Nat, l.foldl (fun v c => 10 * v + (c.toNat - 48)) v = v * 10 ^ l.length + val l := by
  induction l with
  | nil => intro v; simp [val]
  | cons c l ih =>
    intro v
    have e : val (c :: l) = l.foldl (fun v c => 10 * v + (c.toNat - 48)) (c.toNat - 48) := by simp [val]
    rw [e, List.foldl_cons, ih, ih, List.length_cons, Nat.pow_succ, Nat.add_mul]
    rw [Nat.mul_comm 10 v, Nat.mul_assoc, Nat.mul_comm 10 (10 ^ l.length)]
    omega
theorem val_append (a b : List UInt8) : val (a ++ b) = val a * 10 ^ b.length + val b := by
  have := val_fold b (val a)
  rw [← this]
  simp [val, List.foldl_append]
theorem val_noughts (k : Nat) : val (List.replicate k 48) = 0 := by
  induction k with
  | zero => rfl
  | succ k ih =>
    have e : List.replicate (k + 1) (48 : UInt8) = [48] ++ List.replicate k 48 := by simp [List.replicate_succ]
    rw [e, val_append, ih]
    have : val [48] = 0 := by decide
    rw [this]; simp
theorem val_ahead (k : Nat) (l : List UInt8) : val (List.replicate k 48 ++ l) = val l := by rw [val_append, val_noughts]; simp
theorem val_behind (l : List UInt8) (k : Nat) : val (l ++ List.replicate k 48) = val l * 10 ^ k := by rw [val_append, val_noughts]; simp

theorem run_signs : ∀ (n i f : Nat), n < f → ∃ ts, run f (List.replicate n 40) i = .ok ts ∧ ts.length = n + 1
  | 0, i, f, h => by
    obtain ⟨f, rfl⟩ : ∃ g, f = g + 1 := ⟨f - 1, by omega⟩
    exact ⟨_, rfl, rfl⟩
  | n + 1, i, f, h => by
    obtain ⟨f, rfl⟩ : ∃ g, f = g + 1 := ⟨f - 1, by omega⟩
    obtain ⟨ts, h1, h2⟩ := run_signs n (i + 1) f (by omega)
    have e : tk (40 :: List.replicate n 40) = ((5, [40], 0), 1, 0) := by
      rw [tk_cons, if_neg (by decide), if_neg (by decide), if_neg (by decide), if_neg (fun h => absurd h.1 (by decide)), if_pos (by decide)]
    rw [List.replicate_succ, run_cons, if_neg (by decide), if_neg (by decide), e, if_pos rfl]
    simp only [Nat.sub_self, List.drop_zero]
    rw [h1]
    exact ⟨_, rfl, by rw [List.length_cons, h2]⟩
theorem toks_signs (n : Nat) : if n ≤ 2000 then ∃ ts, toks (List.replicate n 40) = (ts, 0, 0) ∧ ts.length = n + 1 else toks (List.replicate n 40) = ([], 0, 12) := by
  have hl : (List.replicate n (40 : UInt8)).length = n := by simp
  by_cases h : n ≤ 2000
  · rw [if_pos h]
    unfold toks
    rw [hl, if_pos h]
    obtain ⟨ts, h1, h2⟩ := run_signs n 0 (n + 1) (by omega)
    rw [h1]
    exact ⟨ts, rfl, h2⟩
  · rw [if_neg h]
    unfold toks
    rw [hl, if_neg h]
end Go.Proofs.YtaioniaadpgmkaaDoor.TG
