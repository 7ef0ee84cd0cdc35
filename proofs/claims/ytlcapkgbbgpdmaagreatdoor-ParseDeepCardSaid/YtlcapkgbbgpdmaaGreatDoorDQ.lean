/- Brackets in one another, plainly: what the grammar makes of them. Nothing of the program is in sight. -/
import Derived.Test.YtlcapkgbbgpdmaaGreatDoorDP
namespace Go.Proofs.YtlcapkgbbgpdmaaGreatDoor.DQ
open Go.Proofs.YtlcapkgbbgpdmaaGreatDoor.TK Go.Proofs.YtlcapkgbbgpdmaaGreatDoor.TJ Go.Proofs.YtlcapkgbbgpdmaaGreatDoor.GR Go.Proofs.YtlcapkgbbgpdmaaGreatDoor.MB Go.Proofs.YtlcapkgbbgpdmaaGreatDoor.DP
set_option linter.unusedVariables false
set_option maxRecDepth 100000

/-- What ends an exp. -/
def Stop (t : Tok) : Prop := t.k = 0 ∨ (t.k = 5 ∧ t.t = [41]) ∨ (t.k = 6 ∧ (t.t = wEnd ∨ t.t = wWith))
theorem isT_t {ts : List Tok} {s : By} (h : (hd ts).t ≠ s) : isT s ts = false := by
  unfold isT; rw [decide_eq_false h, Bool.and_false]
theorem isT_1 {ts : List Tok} (h : (hd ts).k < 5) (s : By) : isT s ts = false := by
  unfold isT; rw [decide_eq_false (by omega : ¬ (hd ts).k = 5), decide_eq_false (by omega : ¬ (hd ts).k = 6)]; rfl
theorem isT_ck {k n p : Nat} {t s : By} {r : List Tok} (h : k < 5) : isT s (⟨k, t, n, p⟩ :: r) = false := isT_1 (ts := ⟨k, t, n, p⟩ :: r) h s
theorem isT_ct {k n p : Nat} {t s : By} {r : List Tok} (h : t ≠ s) : isT s (⟨k, t, n, p⟩ :: r) = false := isT_t (ts := ⟨k, t, n, p⟩ :: r) h
theorem stop_is {r : List Tok} (h : Stop (hd r)) {s : By} (h1 : [41] ≠ s) (h2 : wEnd ≠ s) (h3 : wWith ≠ s) : isT s r = false := by
  rcases h with h | ⟨h, e⟩ | ⟨h, e | e⟩
  · exact isT_1 (by omega) s
  · exact isT_t (by rw [e]; exact h1)
  · exact isT_t (by rw [e]; exact h2)
  · exact isT_t (by rw [e]; exact h3)
theorem stop_k {r : List Tok} (h : Stop (hd r)) : (hd r).k = 0 ∨ (hd r).k = 5 ∨ (hd r).k = 6 := by
  rcases h with h | ⟨h, e⟩ | ⟨h, e | e⟩ <;> simp [h]
theorem stop_begins {r : List Tok} (h : Stop (hd r)) : begins r = false := by
  unfold begins
  rw [stop_is h (s := [40]) (by decide) (by decide) (by decide), stop_is h (s := wRetry) (by decide) (by decide) (by decide), stop_is h (s := wMatch) (by decide) (by decide) (by decide), stop_is h (s := wTry) (by decide) (by decide) (by decide)]
  rcases stop_k h with h | h | h <;> simp [h]
theorem reps_none {α : Type} {f : α → List Tok → Option (GR.R α)} {a : α} {ts : List Tok} (h : f a ts = none) : reps f a ts = .ok (a, ts) := by
  simp only [reps, rep, h]
theorem ops_none {l : List By} {Z : List Tok → GR.R Tree} {n : Tree} {ts : List Tok} (h : ∀ s ∈ l, isT s ts = false) : opStep l Z n ts = none := by
  unfold opStep
  rw [List.find?_eq_none.2 (fun s hs => by rw [h s hs]; decide)]
theorem callOf_no {ts : List Tok} (h : ∀ c ∈ calls, isT c.1 ts = false) : callOf ts = none := by
  unfold callOf
  exact List.find?_eq_none.2 (fun c hc => by rw [h c hc]; decide)
theorem calls_no : ∀ c ∈ calls, [40] ≠ c.1 ∧ wMatch ≠ c.1 := by decide
variable {X : Bool → List Tok → GR.R Tree} {Y : List Tok → GR.R Tree} {room f : Bool}
/-- An exp that begins with an atom. -/
structure At1 (ts : List Tok) : Prop where
  l : isT wLet ts = false
  f : isT wFun ts = false
  i : isT wIf ts = false
  c : callOf ts = none
  k : (hd ts).k ≠ 4
theorem up {ts r : List Tok} {t : Tree} (h : At1 ts) (ha : atom X Y ts = .ok (t, r)) (hs : Stop (hd r)) : inner X Y room f ts = .ok (t, r) := by
  have h1 : app X Y ts = .ok (t, r) := by
    unfold app; rw [h.c]
    show bnd (atom X Y ts) (fun n r => if (hd ts).k = 4 then reps (moreStep X Y) n r else reps (callStep X Y) n r) = _
    rw [ha, bnd_ok, if_neg h.k]
    exact reps_none (by unfold callStep; rw [stop_begins hs]; rfl)
  have h2 : prod X Y ts = .ok (t, r) := by
    unfold prod; rw [h1, bnd_ok]
    refine reps_none (ops_none fun s hs' => ?_)
    simp only [List.mem_cons, List.not_mem_nil, or_false] at hs'
    rcases hs' with rfl | rfl | rfl <;> exact stop_is hs (by decide) (by decide) (by decide)
  have h3 : sum X Y ts = .ok (t, r) := by
    unfold sum; rw [h2, bnd_ok]
    refine reps_none (ops_none fun s hs' => ?_)
    simp only [List.mem_cons, List.not_mem_nil, or_false] at hs'
    rcases hs' with rfl | rfl | rfl <;> exact stop_is hs (by decide) (by decide) (by decide)
  have h4 : cmp X Y ts = .ok (t, r) := by
    unfold cmp; rw [h3, bnd_ok]
    rw [ops_none fun s hs' => by
      simp only [List.mem_cons, List.not_mem_nil, or_false] at hs'
      rcases hs' with rfl | rfl <;> exact stop_is hs (by decide) (by decide) (by decide)]
  unfold inner
  rw [h.l, h.f, h.i, if_neg (by decide), if_neg (by decide), if_neg (by decide), h4, bnd_ok, if_neg]
  rw [stop_is hs (by decide) (by decide) (by decide)]
  exact fun k => absurd k.1 (by decide)
theorem up_err {ts : List Tok} {e : Nat × Nat} (h : At1 ts) (ha : atom X Y ts = .error e) : inner X Y room f ts = .error e := by
  have h1 : app X Y ts = .error e := by
    unfold app; rw [h.c]
    show bnd (atom X Y ts) (fun n r => if (hd ts).k = 4 then reps (moreStep X Y) n r else reps (callStep X Y) n r) = _
    rw [ha, bnd_err]
  have h2 : prod X Y ts = .error e := by unfold prod; rw [h1, bnd_err]
  have h3 : sum X Y ts = .error e := by unfold sum; rw [h2, bnd_err]
  have h4 : cmp X Y ts = .error e := by unfold cmp; rw [h3, bnd_err]
  unfold inner
  rw [h.l, h.f, h.i, if_neg (by decide), if_neg (by decide), if_neg (by decide), h4, bnd_err]
theorem at_lit {x : By} {m p : Nat} {r : List Tok} : At1 (⟨1, x, m, p⟩ :: r) :=
  ⟨isT_ck (by decide), isT_ck (by decide), isT_ck (by decide), callOf_no fun c hc => isT_ck (by decide), by show ¬ (1 : Nat) = 4; decide⟩
theorem at_40 {p : Nat} {r : List Tok} : At1 (⟨5, [40], 0, p⟩ :: r) :=
  ⟨isT_ct (by decide), isT_ct (by decide), isT_ct (by decide), callOf_no fun c hc => isT_ct (calls_no c hc).1, by show ¬ (5 : Nat) = 4; decide⟩
theorem at_match {p : Nat} {r : List Tok} : At1 (⟨6, wMatch, 0, p⟩ :: r) :=
  ⟨isT_ct (by decide), isT_ct (by decide), isT_ct (by decide), callOf_no fun c hc => isT_ct (calls_no c hc).2, by show ¬ (6 : Nat) = 4; decide⟩
theorem exp_lit {g : Nat} {x : By} {m p : Nat} {r : List Tok} (h : Stop (hd r)) : exp (g + 1) f (⟨1, x, m, p⟩ :: r) = .ok (.node 1 x [] [] m p, r) :=
  up (X := exp g) (Y := pat g) at_lit (by unfold atom; rw [if_pos (show (hd (⟨1, x, m, p⟩ :: r)).k = 1 from rfl)]; rfl) h
/-- ( and what stands behind it. -/
theorem atom_40 {p : Nat} {r : List Tok} (h : isT [41] r = false) : atom X Y (⟨5, [40], 0, p⟩ :: r) = bnd (X false r) fun x r => bnd (want [41] r) fun _ r => .ok (x, r) := by
  unfold atom
  rw [if_neg (by show ¬ (5 : Nat) = 1; decide), if_neg (by show ¬ (5 : Nat) = 2; decide), if_neg (by show ¬ (5 : Nat) = 3; decide), if_neg (by show ¬ (5 : Nat) = 4; decide), isT_ct (s := wRetry) (by decide), if_neg (by decide), if_pos (show isT [40] (⟨5, [40], 0, p⟩ :: r) = true from rfl)]
  show (if isT [41] r = true then _ else _) = _
  rw [h, if_neg (by decide)]
  rfl
theorem atom_match {p : Nat} {r : List Tok} : atom X Y (⟨6, wMatch, 0, p⟩ :: r) =
    bnd (X false r) fun v r => bnd (want wWith r) fun _ r => bnd (row X Y [v] r) fun ks r => bnd (reps (rowStep X Y) ks r) fun ks r => bnd (want wEnd r) fun _ r => .ok (.node 11 [] [] ks 0 p, r) := by
  unfold atom
  rw [if_neg (by show ¬ (6 : Nat) = 1; decide), if_neg (by show ¬ (6 : Nat) = 2; decide), if_neg (by show ¬ (6 : Nat) = 3; decide), if_neg (by show ¬ (6 : Nat) = 4; decide), isT_ct (s := wRetry) (by decide), if_neg (by decide), isT_ct (s := [40]) (by decide), if_neg (by decide), isT_ct (s := wTry) (by decide), if_neg (by decide), if_pos (show isT wMatch (⟨6, wMatch, 0, p⟩ :: r) = true from rfl)]
  rfl
theorem want_yes {s : By} {ts : List Tok} (h : isT s ts = true) : want s ts = .ok ((), ts.tail) := by unfold want; rw [if_pos h]
theorem pat_any {g p : Nat} {r : List Tok} : pat (g + 1) (⟨5, [95], 0, p⟩ :: r) = .ok (.node 24 [] [] [] 0 p, r) := by
  show bnd (patom (pat g) (⟨5, [95], 0, p⟩ :: r)) (fun n s => if (5 : Nat) = 4 then reps (patStep (pat g)) n s else .ok (n, s)) = _
  have e : patom (pat g) (⟨5, [95], 0, p⟩ :: r) = .ok (.node 24 [] [] [] 0 p, r) := by
    unfold patom
    rw [if_neg (by show ¬ (5 : Nat) = 1; decide), if_neg (by show ¬ (5 : Nat) = 3; decide), if_neg (by show ¬ (5 : Nat) = 4; decide), if_pos (show isT [95] (⟨5, [95], 0, p⟩ :: r) = true from rfl)]
    rfl
  rw [e, bnd_ok, if_neg (by decide)]

-- too deep
theorem lit41 {n i m q : Nat} {x : By} {r : List Tok} : isT [41] (opT t40 1 n i ++ ⟨1, x, m, q⟩ :: r) = false := by
  cases n with
  | zero => exact isT_ck (by decide)
  | succ n => exact isT_ct (by decide)
theorem deep0 {x : By} {m q : Nat} {r : List Tok} (hq : 0 < q) : ∀ (n g : Nat) (f : Bool) (i : Nat), g ≤ n → 0 < i → ∃ p, 0 < p ∧ exp g f (opT t40 1 n i ++ ⟨1, x, m, q⟩ :: r) = .error (p, 15)
  | 0, 0, f, i, _, hi => ⟨q, hq, rfl⟩
  | n + 1, 0, f, i, _, hi => ⟨i, hi, rfl⟩
  | 0, g + 1, f, i, h, hi => absurd h (by omega)
  | n + 1, g + 1, f, i, h, hi => by
    obtain ⟨p, hp, he⟩ := deep0 hq n g false (i + 1) (by omega) (by omega)
    refine ⟨p, hp, up_err (X := exp g) (Y := pat g) (ts := ⟨5, [40], 0, i⟩ :: (opT t40 1 n (i + 1) ++ ⟨1, x, m, q⟩ :: r)) at_40 ?_⟩
    rw [atom_40 lit41, he, bnd_err]
theorem inner_fun {i : Nat} {r : List Tok} : inner X Y room f (tFun i ++ r) = bnd (X f r) fun b r => .ok (.node 6 [120] [] [b] 0 i, r) := by
  unfold inner
  rw [show tFun i ++ r = ⟨6, wFun, 0, i⟩ :: ⟨3, [120], 0, i + 4⟩ :: ⟨5, wArrow, 0, i + 6⟩ :: r from rfl]
  rw [isT_ct (s := wLet) (by decide), if_neg (by decide), if_pos (show isT wFun (⟨6, wFun, 0, i⟩ :: ⟨3, [120], 0, i + 4⟩ :: ⟨5, wArrow, 0, i + 6⟩ :: r) = true from rfl)]
  rfl
theorem deep1 {x : By} {m q : Nat} {r : List Tok} (hq : 0 < q) : ∀ (n g : Nat) (f : Bool) (i : Nat), g ≤ n → 0 < i → ∃ p, 0 < p ∧ exp g f (opT tFun 9 n i ++ ⟨1, x, m, q⟩ :: r) = .error (p, 15)
  | 0, 0, f, i, _, hi => ⟨q, hq, rfl⟩
  | n + 1, 0, f, i, _, hi => ⟨i, hi, rfl⟩
  | 0, g + 1, f, i, h, hi => absurd h (by omega)
  | n + 1, g + 1, f, i, h, hi => by
    obtain ⟨p, hp, he⟩ := deep1 hq n g f (i + 9) (by omega) (by omega)
    refine ⟨p, hp, ?_⟩
    show inner (exp g) (pat g) (decide (0 < g)) f ((tFun i ++ opT tFun 9 n (i + 9)) ++ ⟨1, x, m, q⟩ :: r) = _
    rw [List.append_assoc, inner_fun, he, bnd_err]
theorem match_row {g i : Nat} {r : List Tok} : atom (exp (g + 1)) (pat (g + 1)) (tMatch i ++ r) =
    bnd (exp (g + 1) false r) fun b r => bnd (reps (rowStep (exp (g + 1)) (pat (g + 1))) [.node 1 [] [] [] 1 (i + 6), .node 24 [] [] [] 0 (i + 15), b] r) fun ks r => bnd (want wEnd r) fun _ r => .ok (.node 11 [] [] ks 0 i, r) := by
  show atom (exp (g + 1)) (pat (g + 1)) (⟨6, wMatch, 0, i⟩ :: ⟨1, [], 1, i + 6⟩ :: ⟨6, wWith, 0, i + 8⟩ :: ⟨5, [124], 0, i + 13⟩ :: ⟨5, [95], 0, i + 15⟩ :: ⟨5, wArrow, 0, i + 17⟩ :: r) = _
  rw [atom_match, exp_lit (Or.inr (Or.inr ⟨rfl, Or.inr rfl⟩)), bnd_ok, want_yes rfl, bnd_ok]
  show bnd (row (exp (g + 1)) (pat (g + 1)) [.node 1 [] [] [] 1 (i + 6)] (⟨5, [124], 0, i + 13⟩ :: ⟨5, [95], 0, i + 15⟩ :: ⟨5, wArrow, 0, i + 17⟩ :: r)) _ = _
  have e : row (exp (g + 1)) (pat (g + 1)) [.node 1 [] [] [] 1 (i + 6)] (⟨5, [124], 0, i + 13⟩ :: ⟨5, [95], 0, i + 15⟩ :: ⟨5, wArrow, 0, i + 17⟩ :: r) = bnd (exp (g + 1) false r) fun b r => .ok ([.node 1 [] [] [] 1 (i + 6), .node 24 [] [] [] 0 (i + 15), b], r) := by
    unfold row
    rw [if_neg (by show ¬ 1 = 41; decide), want_yes rfl, bnd_ok]
    show bnd (pat (g + 1) (⟨5, [95], 0, i + 15⟩ :: ⟨5, wArrow, 0, i + 17⟩ :: r)) _ = _
    rw [pat_any, bnd_ok, want_yes rfl, bnd_ok]
    rfl
  rw [e]
  cases exp (g + 1) false r with
  | ok a => rfl
  | error d => rfl
theorem deep2 {x : By} {m q : Nat} {r : List Tok} (hq : 0 < q) : ∀ (n g : Nat) (f : Bool) (i : Nat), g ≤ n → 0 < i → ∃ p, 0 < p ∧ exp g f (opT tMatch 20 n i ++ ⟨1, x, m, q⟩ :: r) = .error (p, 15)
  | 0, 0, f, i, _, hi => ⟨q, hq, rfl⟩
  | n + 1, 0, f, i, _, hi => ⟨i, hi, rfl⟩
  | 0, g + 1, f, i, h, hi => absurd h (by omega)
  | n + 1, 1, f, i, h, hi => by
    refine ⟨i + 6, by omega, up_err (X := exp 0) (Y := pat 0) (ts := ⟨6, wMatch, 0, i⟩ :: ⟨1, [], 1, i + 6⟩ :: ⟨6, wWith, 0, i + 8⟩ :: ⟨5, [124], 0, i + 13⟩ :: ⟨5, [95], 0, i + 15⟩ :: ⟨5, wArrow, 0, i + 17⟩ :: (opT tMatch 20 n (i + 20) ++ ⟨1, x, m, q⟩ :: r)) at_match ?_⟩
    rw [atom_match]
    rfl
  | n + 1, g + 2, f, i, h, hi => by
    obtain ⟨p, hp, he⟩ := deep2 hq n (g + 1) false (i + 20) (by omega) (by omega)
    refine ⟨p, hp, up_err (X := exp (g + 1)) (Y := pat (g + 1)) (ts := ⟨6, wMatch, 0, i⟩ :: ⟨1, [], 1, i + 6⟩ :: ⟨6, wWith, 0, i + 8⟩ :: ⟨5, [124], 0, i + 13⟩ :: ⟨5, [95], 0, i + 15⟩ :: ⟨5, wArrow, 0, i + 17⟩ :: (opT tMatch 20 n (i + 20) ++ ⟨1, x, m, q⟩ :: r)) at_match ?_⟩
    have e := match_row (g := g) (i := i) (r := opT tMatch 20 n (i + 20) ++ ⟨1, x, m, q⟩ :: r)
    rw [he, bnd_err] at e
    exact e

-- deep enough
theorem opT_snoc (f : Nat → List Tok) (d : Nat) : ∀ (n i : Nat), opT f d (n + 1) i = opT f d n i ++ f (i + n * d)
  | 0, i => by show f i ++ [] = [] ++ f (i + 0 * d); simp
  | n + 1, i => by
    show f i ++ opT f d (n + 1) (i + d) = (f i ++ opT f d n (i + d)) ++ f (i + (n + 1) * d)
    rw [opT_snoc f d n (i + d), List.append_assoc, show i + d + n * d = i + (n + 1) * d by rw [Nat.succ_mul]; omega]
theorem fine0 {x : By} {m q j : Nat} : ∀ (n g : Nat) (f : Bool) (i : Nat) (r : List Tok), n < g → Stop (hd r) → ∃ t, exp g f (opT t40 1 n i ++ ⟨1, x, m, q⟩ :: (opT t41 1 n j ++ r)) = .ok (t, r)
  | n, 0, f, i, r, h, hs => absurd h (by omega)
  | 0, g + 1, f, i, r, h, hs => ⟨_, exp_lit hs⟩
  | n + 1, g + 1, f, i, r, h, hs => by
    obtain ⟨t, he⟩ := fine0 n g false (i + 1) (⟨5, [41], 0, j + n * 1⟩ :: r) (by omega) (Or.inr (Or.inl ⟨rfl, rfl⟩))
    refine ⟨t, up (X := exp g) (Y := pat g) (ts := ⟨5, [40], 0, i⟩ :: (opT t40 1 n (i + 1) ++ ⟨1, x, m, q⟩ :: (opT t41 1 (n + 1) j ++ r))) at_40 ?_ hs⟩
    rw [atom_40 lit41, opT_snoc, List.append_assoc]
    show bnd (exp g false (opT t40 1 n (i + 1) ++ ⟨1, x, m, q⟩ :: (opT t41 1 n j ++ (⟨5, [41], 0, j + n * 1⟩ :: r)))) _ = _
    rw [he, bnd_ok, want_yes rfl, bnd_ok]
    rfl
theorem fine1 {x : By} {m q : Nat} : ∀ (n g : Nat) (f : Bool) (i : Nat) (r : List Tok), n < g → Stop (hd r) → ∃ t, exp g f (opT tFun 9 n i ++ ⟨1, x, m, q⟩ :: r) = .ok (t, r)
  | n, 0, f, i, r, h, hs => absurd h (by omega)
  | 0, g + 1, f, i, r, h, hs => ⟨_, exp_lit hs⟩
  | n + 1, g + 1, f, i, r, h, hs => by
    obtain ⟨t, he⟩ := fine1 n g f (i + 9) r (by omega) hs
    refine ⟨.node 6 [120] [] [t] 0 i, ?_⟩
    show inner (exp g) (pat g) (decide (0 < g)) f ((tFun i ++ opT tFun 9 n (i + 9)) ++ ⟨1, x, m, q⟩ :: r) = _
    rw [List.append_assoc, inner_fun, he, bnd_ok]
theorem fine2 {x : By} {m q j : Nat} : ∀ (n g : Nat) (f : Bool) (i : Nat) (r : List Tok), n < g → Stop (hd r) → ∃ t, exp g f (opT tMatch 20 n i ++ ⟨1, x, m, q⟩ :: (opT tEnd 4 n j ++ r)) = .ok (t, r)
  | n, 0, f, i, r, h, hs => absurd h (by omega)
  | 0, g + 1, f, i, r, h, hs => ⟨_, exp_lit hs⟩
  | n + 1, 1, f, i, r, h, hs => absurd h (by omega)
  | n + 1, g + 2, f, i, r, h, hs => by
    obtain ⟨t, he⟩ := fine2 n (g + 1) false (i + 20) (⟨6, wEnd, 0, j + n * 4 + 1⟩ :: r) (by omega) (Or.inr (Or.inr ⟨rfl, Or.inl rfl⟩))
    refine ⟨.node 11 [] [] [.node 1 [] [] [] 1 (i + 6), .node 24 [] [] [] 0 (i + 15), t] 0 i, up (X := exp (g + 1)) (Y := pat (g + 1)) (ts := ⟨6, wMatch, 0, i⟩ :: ⟨1, [], 1, i + 6⟩ :: ⟨6, wWith, 0, i + 8⟩ :: ⟨5, [124], 0, i + 13⟩ :: ⟨5, [95], 0, i + 15⟩ :: ⟨5, wArrow, 0, i + 17⟩ :: (opT tMatch 20 n (i + 20) ++ ⟨1, x, m, q⟩ :: (opT tEnd 4 (n + 1) j ++ r))) at_match ?_ hs⟩
    have e := match_row (g := g) (i := i) (r := opT tMatch 20 n (i + 20) ++ ⟨1, x, m, q⟩ :: (opT tEnd 4 (n + 1) j ++ r))
    rw [show opT tEnd 4 (n + 1) j ++ r = opT tEnd 4 n j ++ (⟨6, wEnd, 0, j + n * 4 + 1⟩ :: r) by rw [opT_snoc, List.append_assoc]; rfl, he, bnd_ok] at e
    rw [reps_none (by unfold rowStep; rw [isT_ct (s := [124]) (by decide)]; rfl), bnd_ok, want_yes rfl, bnd_ok] at e
    rw [show opT tEnd 4 (n + 1) j ++ r = opT tEnd 4 n j ++ (⟨6, wEnd, 0, j + n * 4 + 1⟩ :: r) by rw [opT_snoc, List.append_assoc]; rfl]
    exact e

-- the whole
theorem rl_7nil (i : Nat) : RL [55] i = glue [⟨1, [], 7, i⟩] (RL [] (i + 1)) := rl_tok (c := 55) (r := []) i (k := 1) (x := []) (n := 7) (m := 1) (by decide) (by decide) (by rfl) (by decide)
theorem rl_741 (r : List UInt8) (i : Nat) : RL (55 :: 41 :: r) i = glue [⟨1, [], 7, i⟩] (RL (41 :: r) (i + 1)) := rl_tok (c := 55) (r := 41 :: r) i (k := 1) (x := []) (n := 7) (m := 1) (by decide) (by decide) (by rfl) (by decide)
theorem rl_732 (r : List UInt8) (i : Nat) : RL (55 :: 32 :: r) i = glue [⟨1, [], 7, i⟩] (RL (32 :: r) (i + 1)) := rl_tok (c := 55) (r := 32 :: r) i (k := 1) (x := []) (n := 7) (m := 1) (by decide) (by decide) (by rfl) (by decide)
theorem rl_do (r : List UInt8) : RL (ahead3 ++ r) 0 = glue [⟨6, wDo, 0, 0⟩] (RL r 3) := by
  show RL (100 :: 111 :: 32 :: r) 0 = _
  rw [rl_tok (c := 100) (r := 111 :: 32 :: r) 0 (k := 6) (x := wDo) (n := 0) (m := 2) (by decide) (by decide) (by rfl) (by decide)]
  show glue _ (RL (32 :: r) 2) = _
  rw [rl_blank _ _ (by decide)]
theorem toks_of {l : List UInt8} {ts : List Tok} (hl : l.length ≤ 2000) (h : RL l 0 = .ok ts) : toks l = (ts, 0, 0) := by
  unfold toks; rw [if_pos hl, show run (l.length + 1) l 0 = .ok ts from h]
theorem prog_ok {T r : List Tok} {t : Tree} (h : exp 40 false T = .ok (t, r)) (hr : (hd r).k = 0) : prog (⟨6, wDo, 0, 0⟩ :: T) = .ok (.node 30 [] [] [t] 0 0, r) := by
  unfold prog
  rw [reps_none (by unfold declStep; rw [isT_ct (s := wType) (by decide), isT_ct (s := wLet) (by decide)]; rfl), bnd_ok, want_yes rfl, bnd_ok]
  show bnd (exp 40 false T) _ = _
  rw [h, bnd_ok, if_pos hr]
  rfl
theorem prog_err {T : List Tok} {e : Nat × Nat} (h : exp 40 false T = .error e) : prog (⟨6, wDo, 0, 0⟩ :: T) = .error e := by
  unfold prog
  rw [reps_none (by unfold declStep; rw [isT_ct (s := wType) (by decide), isT_ct (s := wLet) (by decide)]; rfl), bnd_ok, want_yes rfl, bnd_ok]
  show bnd (exp 40 false T) _ = _
  rw [h, bnd_err]
theorem g_ok {l : List UInt8} {T r : List Tok} {t : Tree} (hl : l.length ≤ 2000) (h : RL l 0 = .ok (⟨6, wDo, 0, 0⟩ :: T)) (he : exp 40 false T = .ok (t, r)) (hr : (hd r).k = 0) : gparsed l = (.node 30 [] [] [t] 0 0, 0, 0) := by
  unfold gparsed
  rw [toks_of hl h, if_pos rfl, prog_ok he hr]; rfl
theorem g_err {l : List UInt8} {T : List Tok} {p e : Nat} (hl : l.length ≤ 2000) (h : RL l 0 = .ok (⟨6, wDo, 0, 0⟩ :: T)) (he : exp 40 false T = .error (p, e)) : gparsed l = (MP.zero, p, e) := by
  unfold gparsed
  rw [toks_of hl h, if_pos rfl, prog_err he]; rfl
theorem opens_len (o : List UInt8) : ∀ n, (opens o n).length = n * o.length
  | 0 => by simp [opens]
  | n + 1 => by show (o ++ opens o n).length = _; rw [List.length_append, opens_len o n, Nat.succ_mul, Nat.add_comm]
/-- What is opened and closed, of the three kinds. -/
def o3 (k : Nat) : List UInt8 := if k = 0 then [40] else if k = 1 then oFun else oMatch
def c3 (k : Nat) : List UInt8 := if k = 0 then [41] else if k = 1 then [] else cEnd
def src (k n : Nat) : List UInt8 := ahead3 ++ (opens (o3 k) n ++ 55 :: opens (c3 k) n)
theorem opens_nil : ∀ n, opens [] n = []
  | 0 => rfl
  | n + 1 => by show [] ++ opens [] n = []; rw [opens_nil n]; rfl
theorem src_len (k n : Nat) (hn : n ≤ 60) : (src k n).length ≤ 2000 := by
  unfold src
  have h1 : (o3 k).length ≤ 20 := by unfold o3; split; · decide
                                     split <;> decide
  have h2 : (c3 k).length ≤ 4 := by unfold c3; split; · decide
                                    split <;> decide
  have h3 : n * (o3 k).length ≤ 60 * 20 := Nat.mul_le_mul hn h1
  have h4 : n * (c3 k).length ≤ 60 * 4 := Nat.mul_le_mul hn h2
  simp only [List.length_append, List.length_cons, opens_len]
  have : ahead3.length = 3 := rfl
  omega
theorem rl_src0 (n : Nat) : RL (src 0 n) 0 = .ok (⟨6, wDo, 0, 0⟩ :: (opT t40 1 n 3 ++ ⟨1, [], 7, 3 + n * 1⟩ :: (opT t41 1 n (3 + n * 1 + 1) ++ [⟨0, [], 0, 3 + n * 1 + 1 + n * 1⟩]))) := by
  show RL (ahead3 ++ (opens [40] n ++ 55 :: opens [41] n)) 0 = _
  rw [rl_do, rl_opens (o := [40]) (f := t40) (d := 1) (fun r i => rl_40 r i)]
  have e := rl_opens (o := [41]) (f := t41) (d := 1) (fun r i => rl_41 r i) [] n (3 + n * 1 + 1)
  rw [List.append_nil] at e
  have e7 : RL (55 :: opens [41] n) (3 + n * 1) = glue [⟨1, [], 7, 3 + n * 1⟩] (RL (opens [41] n) (3 + n * 1 + 1)) := by
    cases n with
    | zero => exact rl_7nil _
    | succ n => exact rl_741 _ _
  rw [e7, e]
  rfl
theorem rl_src1 (n : Nat) : RL (src 1 n) 0 = .ok (⟨6, wDo, 0, 0⟩ :: (opT tFun 9 n 3 ++ ⟨1, [], 7, 3 + n * 9⟩ :: [⟨0, [], 0, 3 + n * 9 + 1⟩])) := by
  show RL (ahead3 ++ (opens oFun n ++ 55 :: opens [] n)) 0 = _
  rw [rl_do, rl_opens (o := oFun) (f := tFun) (d := 9) (fun r i => rl_fun r i), opens_nil, rl_7nil]
  rfl
theorem rl_src2 (n : Nat) : RL (src 2 n) 0 = .ok (⟨6, wDo, 0, 0⟩ :: (opT tMatch 20 n 3 ++ ⟨1, [], 7, 3 + n * 20⟩ :: (opT tEnd 4 n (3 + n * 20 + 1) ++ [⟨0, [], 0, 3 + n * 20 + 1 + n * 4⟩]))) := by
  show RL (ahead3 ++ (opens oMatch n ++ 55 :: opens cEnd n)) 0 = _
  rw [rl_do, rl_opens (o := oMatch) (f := tMatch) (d := 20) (fun r i => rl_match r i)]
  obtain ⟨ts, e1, e2⟩ := rl_ends n (3 + n * 20 + 1)
  have e7 : RL (55 :: opens cEnd n) (3 + n * 20) = glue [⟨1, [], 7, 3 + n * 20⟩] (RL (opens cEnd n) (3 + n * 20 + 1)) := by
    cases n with
    | zero => exact rl_7nil _
    | succ n => exact rl_732 _ _
  rw [e7, e1, e2]
  rfl
/-- Up to as deep as may be, and no deeper. -/
theorem src_fine (k n : Nat) (hk : k < 3) (hn : n < 40) : ∃ t, gparsed (src k n) = (t, 0, 0) := by
  have hl := src_len k n (by omega)
  match k, hk with
  | 0, _ =>
    obtain ⟨t, h⟩ := fine0 (x := []) (m := 7) (q := 3 + n * 1) (j := 3 + n * 1 + 1) n 40 false 3 [⟨0, [], 0, 3 + n * 1 + 1 + n * 1⟩] hn (Or.inl rfl)
    exact ⟨_, g_ok hl (rl_src0 n) h rfl⟩
  | 1, _ =>
    obtain ⟨t, h⟩ := fine1 (x := []) (m := 7) (q := 3 + n * 9) n 40 false 3 [⟨0, [], 0, 3 + n * 9 + 1⟩] hn (Or.inl rfl)
    exact ⟨_, g_ok hl (rl_src1 n) h rfl⟩
  | 2, _ =>
    obtain ⟨t, h⟩ := fine2 (x := []) (m := 7) (q := 3 + n * 20) (j := 3 + n * 20 + 1) n 40 false 3 [⟨0, [], 0, 3 + n * 20 + 1 + n * 4⟩] hn (Or.inl rfl)
    exact ⟨_, g_ok hl (rl_src2 n) h rfl⟩
theorem src_deep (k n : Nat) (hk : k < 3) (hn : 40 ≤ n) (h60 : n ≤ 60) : ∃ p, 0 < p ∧ gparsed (src k n) = (MP.zero, p, 15) := by
  have hl := src_len k n (by omega)
  match k, hk with
  | 0, _ =>
    obtain ⟨p, hp, h⟩ := deep0 (x := []) (m := 7) (q := 3 + n * 1) (r := opT t41 1 n (3 + n * 1 + 1) ++ [⟨0, [], 0, 3 + n * 1 + 1 + n * 1⟩]) (by omega) n 40 false 3 hn (by decide)
    exact ⟨p, hp, g_err hl (rl_src0 n) h⟩
  | 1, _ =>
    obtain ⟨p, hp, h⟩ := deep1 (x := []) (m := 7) (q := 3 + n * 9) (r := [⟨0, [], 0, 3 + n * 9 + 1⟩]) (by omega) n 40 false 3 hn (by decide)
    exact ⟨p, hp, g_err hl (rl_src1 n) h⟩
  | 2, _ =>
    obtain ⟨p, hp, h⟩ := deep2 (x := []) (m := 7) (q := 3 + n * 20) (r := opT tEnd 4 n (3 + n * 20 + 1) ++ [⟨0, [], 0, 3 + n * 20 + 1 + n * 4⟩]) (by omega) n 40 false 3 hn (by decide)
    exact ⟨p, hp, g_err hl (rl_src2 n) h⟩
end Go.Proofs.YtlcapkgbbgpdmaaGreatDoor.DQ
