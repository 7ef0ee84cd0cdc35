/- Plain words on sources and trees, and what the laws on parse share. -/
import Derived.Test.YtlcapkgbbgpdmaaGreatDoorZB
import Derived.Test.YtlcapkgbbgpdmaaGreatDoorTJ
import Derived.Test.YtlcapkgbbgpdmaaGreatDoorGR
import Derived.Test.YtlcapkgbbgpdmaaGreatDoorZA
import Derived.Test.YtlcapkgbbgpdmaaGreatDoorZF
import Derived.Deep.QuietTactic
import Derived.BigQuiet
import Derived.Deep.RegionHeld3
import Derived.Test.YtlcapkgbbgpdmaaGreatDoorZG

/- Brackets in one another, as deep as may be and deeper, plainly. Nothing of the program is in sight. -/
namespace Go.Proofs.YtlcapkgbbgpdmaaGreatDoor.DP
open Go.Proofs.YtlcapkgbbgpdmaaGreatDoor.TK Go.Proofs.YtlcapkgbbgpdmaaGreatDoor.TJ Go.Proofs.YtlcapkgbbgpdmaaGreatDoor.GR Go.Proofs.YtlcapkgbbgpdmaaGreatDoor.MB
set_option linter.unusedVariables false
set_option maxRecDepth 100000

-- reading
abbrev RL (l : List UInt8) (i : Nat) : Except (Nat × Nat) (List Tok) := run (l.length + 1) l i
def glue (t : List Tok) (r : Except (Nat × Nat) (List Tok)) : Except (Nat × Nat) (List Tok) :=
  match r with
  | .ok ts => .ok (t ++ ts)
  | .error e => .error e
theorem glue_glue (a b : List Tok) (r : Except (Nat × Nat) (List Tok)) : glue a (glue b r) = glue (a ++ b) r := by
  cases r <;> simp [glue]
theorem rl_blank {c : UInt8} (r : List UInt8) (i : Nat) (h : bl c = true) : RL (c :: r) i = RL r (i + 1) := by
  show run ((r.length + 1) + 1) (c :: r) i = _
  rw [run_cons, if_pos h]
theorem rl_tok {c : UInt8} {r : List UInt8} (i : Nat) {k n m : Nat} {x : List UInt8} (hb : bl c = false) (h35 : c ≠ 35) (h : tk (c :: r) = ((k, x, n), m, 0)) (hm : 1 ≤ m) :
    RL (c :: r) i = glue [⟨k, x, n, i⟩] (RL ((c :: r).drop m) (i + m)) := by
  show run ((r.length + 1) + 1) (c :: r) i = _
  have e : (c :: r).drop m = r.drop (m - 1) := by
    obtain ⟨m', rfl⟩ : ∃ m', m = m' + 1 := ⟨m - 1, by omega⟩
    rfl
  rw [run_cons, if_neg (by rw [hb]; decide), if_neg h35, h, if_pos rfl, e]
  show (match run (r.length + 1) (r.drop (m - 1)) (i + m) with | .ok ts => (Except.ok (⟨k, x, n, i⟩ :: ts) : Except (Nat × Nat) (List Tok)) | .error e => Except.error e) = _
  rw [run_fuel (r.length + 1) ((r.drop (m - 1)).length + 1) _ _ (by simp; omega) (by omega)]
  rfl
theorem rl_40 (r : List UInt8) (i : Nat) : RL (40 :: r) i = glue [⟨5, [40], 0, i⟩] (RL r (i + 1)) := rl_tok (c := 40) (r := r) i (k := 5) (x := [40]) (n := 0) (m := 1) (by decide) (by decide) (by rfl) (by decide)
theorem rl_41 (r : List UInt8) (i : Nat) : RL (41 :: r) i = glue [⟨5, [41], 0, i⟩] (RL r (i + 1)) := rl_tok (c := 41) (r := r) i (k := 5) (x := [41]) (n := 0) (m := 1) (by decide) (by decide) (by rfl) (by decide)
def oFun : List UInt8 := [102, 117, 110, 32, 120, 32, 45, 62, 32]
def oMatch : List UInt8 := [109, 97, 116, 99, 104, 32, 49, 32, 119, 105, 116, 104, 32, 124, 32, 95, 32, 45, 62, 32]
def cEnd : List UInt8 := [32, 101, 110, 100]
def tFun (i : Nat) : List Tok := [⟨6, wFun, 0, i⟩, ⟨3, [120], 0, i + 4⟩, ⟨5, wArrow, 0, i + 6⟩]
def tMatch (i : Nat) : List Tok := [⟨6, wMatch, 0, i⟩, ⟨1, [], 1, i + 6⟩, ⟨6, wWith, 0, i + 8⟩, ⟨5, [124], 0, i + 13⟩, ⟨5, [95], 0, i + 15⟩, ⟨5, wArrow, 0, i + 17⟩]
theorem rl_fun (r : List UInt8) (i : Nat) : RL (oFun ++ r) i = glue (tFun i) (RL r (i + 9)) := by
  show RL (102 :: 117 :: 110 :: 32 :: 120 :: 32 :: 45 :: 62 :: 32 :: r) i = _
  rw [rl_tok i (k := 6) (x := wFun) (n := 0) (m := 3) (by decide) (by decide) (by rfl) (by decide)]
  show glue _ (RL (32 :: 120 :: 32 :: 45 :: 62 :: 32 :: r) (i + 3)) = _
  rw [rl_blank _ _ (by decide)]
  rw [rl_tok (i + 3 + 1) (k := 3) (x := [120]) (n := 0) (m := 1) (by decide) (by decide) (by rfl) (by decide)]
  show glue _ (glue _ (RL (32 :: 45 :: 62 :: 32 :: r) (i + 3 + 1 + 1))) = _
  rw [rl_blank _ _ (by decide)]
  rw [rl_tok (i + 3 + 1 + 1 + 1) (k := 5) (x := wArrow) (n := 0) (m := 2) (by decide) (by decide) (by rfl) (by decide)]
  show glue _ (glue _ (glue _ (RL (32 :: r) (i + 3 + 1 + 1 + 1 + 2)))) = _
  rw [rl_blank _ _ (by decide), glue_glue, glue_glue]
  rfl
theorem rl_match (r : List UInt8) (i : Nat) : RL (oMatch ++ r) i = glue (tMatch i) (RL r (i + 20)) := by
  show RL (109 :: 97 :: 116 :: 99 :: 104 :: 32 :: 49 :: 32 :: 119 :: 105 :: 116 :: 104 :: 32 :: 124 :: 32 :: 95 :: 32 :: 45 :: 62 :: 32 :: r) i = _
  rw [rl_tok i (k := 6) (x := wMatch) (n := 0) (m := 5) (by decide) (by decide) (by rfl) (by decide)]
  show glue _ (RL (32 :: 49 :: 32 :: 119 :: 105 :: 116 :: 104 :: 32 :: 124 :: 32 :: 95 :: 32 :: 45 :: 62 :: 32 :: r) (i + 5)) = _
  rw [rl_blank _ _ (by decide)]
  rw [rl_tok (i + 5 + 1) (k := 1) (x := []) (n := 1) (m := 1) (by decide) (by decide) (by rfl) (by decide)]
  show glue _ (glue _ (RL (32 :: 119 :: 105 :: 116 :: 104 :: 32 :: 124 :: 32 :: 95 :: 32 :: 45 :: 62 :: 32 :: r) (i + 5 + 1 + 1))) = _
  rw [rl_blank _ _ (by decide)]
  rw [rl_tok (i + 5 + 1 + 1 + 1) (k := 6) (x := wWith) (n := 0) (m := 4) (by decide) (by decide) (by rfl) (by decide)]
  show glue _ (glue _ (glue _ (RL (32 :: 124 :: 32 :: 95 :: 32 :: 45 :: 62 :: 32 :: r) (i + 5 + 1 + 1 + 1 + 4)))) = _
  rw [rl_blank _ _ (by decide)]
  rw [rl_tok (i + 5 + 1 + 1 + 1 + 4 + 1) (k := 5) (x := [124]) (n := 0) (m := 1) (by decide) (by decide) (by rfl) (by decide)]
  show glue _ (glue _ (glue _ (glue _ (RL (32 :: 95 :: 32 :: 45 :: 62 :: 32 :: r) (i + 5 + 1 + 1 + 1 + 4 + 1 + 1))))) = _
  rw [rl_blank _ _ (by decide)]
  rw [rl_tok (i + 5 + 1 + 1 + 1 + 4 + 1 + 1 + 1) (k := 5) (x := [95]) (n := 0) (m := 1) (by decide) (by decide) (by rfl) (by decide)]
  show glue _ (glue _ (glue _ (glue _ (glue _ (RL (32 :: 45 :: 62 :: 32 :: r) (i + 5 + 1 + 1 + 1 + 4 + 1 + 1 + 1 + 1)))))) = _
  rw [rl_blank _ _ (by decide)]
  rw [rl_tok (i + 5 + 1 + 1 + 1 + 4 + 1 + 1 + 1 + 1 + 1) (k := 5) (x := wArrow) (n := 0) (m := 2) (by decide) (by decide) (by rfl) (by decide)]
  show glue _ (glue _ (glue _ (glue _ (glue _ (glue _ (RL (32 :: r) (i + 5 + 1 + 1 + 1 + 4 + 1 + 1 + 1 + 1 + 1 + 2))))))) = _
  rw [rl_blank _ _ (by decide)]
  rw [glue_glue, glue_glue, glue_glue, glue_glue, glue_glue]
  rfl

-- the source of n brackets of a kind
def ahead3 : List UInt8 := [100, 111, 32]
def opens (o : List UInt8) : Nat → List UInt8
  | 0 => []
  | n + 1 => o ++ opens o n
def opT (f : Nat → List Tok) (d : Nat) : Nat → Nat → List Tok
  | 0, _ => []
  | n + 1, i => f i ++ opT f d n (i + d)
theorem rl_opens {o : List UInt8} {f : Nat → List Tok} {d : Nat} (h : ∀ r i, RL (o ++ r) i = glue (f i) (RL r (i + d))) (r : List UInt8) : ∀ n i, RL (opens o n ++ r) i = glue (opT f d n i) (RL r (i + n * d))
  | 0, i => by
    show RL r i = glue [] (RL r (i + 0 * d))
    rw [Nat.zero_mul, Nat.add_zero]
    cases RL r i <;> rfl
  | n + 1, i => by
    show RL ((o ++ opens o n) ++ r) i = _
    rw [List.append_assoc, h, rl_opens h r n, glue_glue, Nat.add_assoc, show d + n * d = (n + 1) * d by rw [Nat.succ_mul, Nat.add_comm]]
    rfl
def t40 (i : Nat) : List Tok := [⟨5, [40], 0, i⟩]
def t41 (i : Nat) : List Tok := [⟨5, [41], 0, i⟩]
def tEnd (i : Nat) : List Tok := [⟨6, wEnd, 0, i + 1⟩]
theorem rl_ends : ∀ (n i : Nat), ∃ ts, RL (opens cEnd n) i = .ok ts ∧ ts = opT tEnd 4 n i ++ [⟨0, [], 0, i + n * 4⟩]
  | 0, i => ⟨[⟨0, [], 0, i⟩], rfl, by rw [Nat.zero_mul]; rfl⟩
  | n + 1, i => by
    obtain ⟨ts, h1, h2⟩ := rl_ends n (i + 4)
    refine ⟨tEnd i ++ ts, ?_, ?_⟩
    · cases n with
      | zero =>
        show RL (32 :: 101 :: 110 :: 100 :: []) i = _
        rw [rl_blank _ _ (by decide), rl_tok (c := 101) (r := [110, 100]) (i + 1) (k := 6) (x := wEnd) (n := 0) (m := 3) (by decide) (by decide) (by rfl) (by decide)]
        show glue _ (RL [] (i + 1 + 3)) = _
        rw [show i + 1 + 3 = i + 4 by omega]
        rw [show opens cEnd 0 = [] from rfl] at h1
        rw [h1]; rfl
      | succ n =>
        show RL (32 :: 101 :: 110 :: 100 :: 32 :: (101 :: 110 :: 100 :: opens cEnd n)) i = _
        rw [rl_blank _ _ (by decide), rl_tok (c := 101) (r := 110 :: 100 :: 32 :: (101 :: 110 :: 100 :: opens cEnd n)) (i + 1) (k := 6) (x := wEnd) (n := 0) (m := 3) (by decide) (by decide) (by rfl) (by decide)]
        show glue _ (RL (32 :: (101 :: 110 :: 100 :: opens cEnd n)) (i + 1 + 3)) = _
        rw [show i + 1 + 3 = i + 4 by omega]
        rw [show opens cEnd (n + 1) = 32 :: (101 :: 110 :: 100 :: opens cEnd n) from rfl] at h1
        rw [h1]; rfl
    · rw [h2, show i + 4 + n * 4 = i + (n + 1) * 4 by omega, ← List.append_assoc]
      rfl
end Go.Proofs.YtlcapkgbbgpdmaaGreatDoor.DP

/- Brackets in one another, plainly: what the grammar makes of them. Nothing of the program is in sight. -/
namespace Go.Proofs.YtlcapkgbbgpdmaaGreatDoor.DQ
open Go.Proofs.YtlcapkgbbgpdmaaGreatDoor.TK Go.Proofs.YtlcapkgbbgpdmaaGreatDoor.TJ Go.Proofs.YtlcapkgbbgpdmaaGreatDoor.GR Go.Proofs.YtlcapkgbbgpdmaaGreatDoor.MB Go.Proofs.YtlcapkgbbgpdmaaGreatDoor.DP
set_option linter.unusedVariables false
set_option maxRecDepth 100000

/-- What ends an exp. -/
def Stop (t : Tok) : Prop := t.k = 0 ∨ (t.k = 5 ∧ t.t = [41]) ∨ (t.k = 6 ∧ (t.t = wEnd ∨ t.t = wWith))
theorem isT_t {ts : List Tok} {s : By} (h : (hd ts).t ≠ s) : isT s ts = false := by
  unfold isT; rw [decide_eq_false h, Bool.and_false]
theorem isT_1 {ts : List Tok} (h : (hd ts).k < 5) (s : By) : isT s ts = false := by
  unfold isT; rw [decide_eq_false (by omega : ¬ (hd ts).k = 5), decide_eq_false (by omega : ¬ (hd ts).k = 6)]; rfl
theorem isT_ck {k n p : Nat} {t s : By} {r : List Tok} (h : k < 5) : isT s (⟨k, t, n, p⟩ :: r) = false := isT_1 (ts := ⟨k, t, n, p⟩ :: r) h s
theorem isT_ct {k n p : Nat} {t s : By} {r : List Tok} (h : t ≠ s) : isT s (⟨k, t, n, p⟩ :: r) = false := isT_t (ts := ⟨k, t, n, p⟩ :: r) h
theorem stop_is {r : List Tok} (h : Stop (hd r)) {s : By} (h1 : [41] ≠ s) (h2 : wEnd ≠ s) (h3 : wWith ≠ s) : isT s r = false := by
  rcases h with h | ⟨h, e⟩ | ⟨h, e | e⟩
  · exact isT_1 (by omega) s
  · exact isT_t (by rw [e]; exact h1)
  · exact isT_t (by rw [e]; exact h2)
  · exact isT_t (by rw [e]; exact h3)
theorem stop_k {r : List Tok} (h : Stop (hd r)) : (hd r).k = 0 ∨ (hd r).k = 5 ∨ (hd r).k = 6 := by
  rcases h with h | ⟨h, e⟩ | ⟨h, e | e⟩ <;> simp [h]
theorem stop_begins {r : List Tok} (h : Stop (hd r)) : begins r = false := by
  unfold begins
  rw [stop_is h (s := [40]) (by decide) (by decide) (by decide), stop_is h (s := wRetry) (by decide) (by decide) (by decide), stop_is h (s := wMatch) (by decide) (by decide) (by decide), stop_is h (s := wTry) (by decide) (by decide) (by decide)]
  rcases stop_k h with h | h | h <;> simp [h]
theorem reps_none {α : Type} {f : α → List Tok → Option (GR.R α)} {a : α} {ts : List Tok} (h : f a ts = none) : reps f a ts = .ok (a, ts) := by
  simp only [reps, rep, h]
theorem ops_none {l : List By} {Z : List Tok → GR.R Tree} {n : Tree} {ts : List Tok} (h : ∀ s ∈ l, isT s ts = false) : opStep l Z n ts = none := by
  unfold opStep
  rw [List.find?_eq_none.2 (fun s hs => by rw [h s hs]; decide)]
theorem callOf_no {ts : List Tok} (h : ∀ c ∈ calls, isT c.1 ts = false) : callOf ts = none := by
  unfold callOf
  exact List.find?_eq_none.2 (fun c hc => by rw [h c hc]; decide)
theorem calls_no : ∀ c ∈ calls, [40] ≠ c.1 ∧ wMatch ≠ c.1 := by decide
variable {X : Bool → List Tok → GR.R Tree} {Y : List Tok → GR.R Tree} {room f : Bool}
/-- An exp that begins with an atom. -/
structure At1 (ts : List Tok) : Prop where
  l : isT wLet ts = false
  f : isT wFun ts = false
  i : isT wIf ts = false
  c : callOf ts = none
  k : (hd ts).k ≠ 4
theorem up {ts r : List Tok} {t : Tree} (h : At1 ts) (ha : atom X Y ts = .ok (t, r)) (hs : Stop (hd r)) : inner X Y room f ts = .ok (t, r) := by
  have h1 : app X Y ts = .ok (t, r) := by
    unfold app; rw [h.c]
    show bnd (atom X Y ts) (fun n r => if (hd ts).k = 4 then reps (moreStep X Y) n r else reps (callStep X Y) n r) = _
    rw [ha, bnd_ok, if_neg h.k]
    exact reps_none (by unfold callStep; rw [stop_begins hs]; rfl)
  have h2 : prod X Y ts = .ok (t, r) := by
    unfold prod; rw [h1, bnd_ok]
    refine reps_none (ops_none fun s hs' => ?_)
    simp only [List.mem_cons, List.not_mem_nil, or_false] at hs'
    rcases hs' with rfl | rfl | rfl <;> exact stop_is hs (by decide) (by decide) (by decide)
  have h3 : sum X Y ts = .ok (t, r) := by
    unfold sum; rw [h2, bnd_ok]
    refine reps_none (ops_none fun s hs' => ?_)
    simp only [List.mem_cons, List.not_mem_nil, or_false] at hs'
    rcases hs' with rfl | rfl | rfl <;> exact stop_is hs (by decide) (by decide) (by decide)
  have h4 : cmp X Y ts = .ok (t, r) := by
    unfold cmp; rw [h3, bnd_ok]
    rw [ops_none fun s hs' => by
      simp only [List.mem_cons, List.not_mem_nil, or_false] at hs'
      rcases hs' with rfl | rfl <;> exact stop_is hs (by decide) (by decide) (by decide)]
  unfold inner
  rw [h.l, h.f, h.i, if_neg (by decide), if_neg (by decide), if_neg (by decide), h4, bnd_ok, if_neg]
  rw [stop_is hs (by decide) (by decide) (by decide)]
  exact fun k => absurd k.1 (by decide)
theorem up_err {ts : List Tok} {e : Nat × Nat} (h : At1 ts) (ha : atom X Y ts = .error e) : inner X Y room f ts = .error e := by
  have h1 : app X Y ts = .error e := by
    unfold app; rw [h.c]
    show bnd (atom X Y ts) (fun n r => if (hd ts).k = 4 then reps (moreStep X Y) n r else reps (callStep X Y) n r) = _
    rw [ha, bnd_err]
  have h2 : prod X Y ts = .error e := by unfold prod; rw [h1, bnd_err]
  have h3 : sum X Y ts = .error e := by unfold sum; rw [h2, bnd_err]
  have h4 : cmp X Y ts = .error e := by unfold cmp; rw [h3, bnd_err]
  unfold inner
  rw [h.l, h.f, h.i, if_neg (by decide), if_neg (by decide), if_neg (by decide), h4, bnd_err]
theorem at_lit {x : By} {m p : Nat} {r : List Tok} : At1 (⟨1, x, m, p⟩ :: r) :=
  ⟨isT_ck (by decide), isT_ck (by decide), isT_ck (by decide), callOf_no fun c hc => isT_ck (by decide), by show ¬ (1 : Nat) = 4; decide⟩
theorem at_40 {p : Nat} {r : List Tok} : At1 (⟨5, [40], 0, p⟩ :: r) :=
  ⟨isT_ct (by decide), isT_ct (by decide), isT_ct (by decide), callOf_no fun c hc => isT_ct (calls_no c hc).1, by show ¬ (5 : Nat) = 4; decide⟩
theorem at_match {p : Nat} {r : List Tok} : At1 (⟨6, wMatch, 0, p⟩ :: r) :=
  ⟨isT_ct (by decide), isT_ct (by decide), isT_ct (by decide), callOf_no fun c hc => isT_ct (calls_no c hc).2, by show ¬ (6 : Nat) = 4; decide⟩
theorem exp_lit {g : Nat} {x : By} {m p : Nat} {r : List Tok} (h : Stop (hd r)) : exp (g + 1) f (⟨1, x, m, p⟩ :: r) = .ok (.node 1 x [] [] m p, r) :=
  up (X := exp g) (Y := pat g) at_lit (by unfold atom; rw [if_pos (show (hd (⟨1, x, m, p⟩ :: r)).k = 1 from rfl)]; rfl) h
/-- ( and what stands behind it. -/
theorem atom_40 {p : Nat} {r : List Tok} (h : isT [41] r = false) : atom X Y (⟨5, [40], 0, p⟩ :: r) = bnd (X false r) fun x r => bnd (want [41] r) fun _ r => .ok (x, r) := by
  unfold atom
  rw [if_neg (by show ¬ (5 : Nat) = 1; decide), if_neg (by show ¬ (5 : Nat) = 2; decide), if_neg (by show ¬ (5 : Nat) = 3; decide), if_neg (by show ¬ (5 : Nat) = 4; decide), isT_ct (s := wRetry) (by decide), if_neg (by decide), if_pos (show isT [40] (⟨5, [40], 0, p⟩ :: r) = true from rfl)]
  show (if isT [41] r = true then _ else _) = _
  rw [h, if_neg (by decide)]
  rfl
theorem atom_match {p : Nat} {r : List Tok} : atom X Y (⟨6, wMatch, 0, p⟩ :: r) =
    bnd (X false r) fun v r => bnd (want wWith r) fun _ r => bnd (row X Y [v] r) fun ks r => bnd (reps (rowStep X Y) ks r) fun ks r => bnd (want wEnd r) fun _ r => .ok (.node 11 [] [] ks 0 p, r) := by
  unfold atom
  rw [if_neg (by show ¬ (6 : Nat) = 1; decide), if_neg (by show ¬ (6 : Nat) = 2; decide), if_neg (by show ¬ (6 : Nat) = 3; decide), if_neg (by show ¬ (6 : Nat) = 4; decide), isT_ct (s := wRetry) (by decide), if_neg (by decide), isT_ct (s := [40]) (by decide), if_neg (by decide), isT_ct (s := wTry) (by decide), if_neg (by decide), if_pos (show isT wMatch (⟨6, wMatch, 0, p⟩ :: r) = true from rfl)]
  rfl
theorem want_yes {s : By} {ts : List Tok} (h : isT s ts = true) : want s ts = .ok ((), ts.tail) := by unfold want; rw [if_pos h]
theorem pat_any {g p : Nat} {r : List Tok} : pat (g + 1) (⟨5, [95], 0, p⟩ :: r) = .ok (.node 24 [] [] [] 0 p, r) := by
  show bnd (patom (pat g) (⟨5, [95], 0, p⟩ :: r)) (fun n s => if (5 : Nat) = 4 then reps (patStep (pat g)) n s else .ok (n, s)) = _
  have e : patom (pat g) (⟨5, [95], 0, p⟩ :: r) = .ok (.node 24 [] [] [] 0 p, r) := by
    unfold patom
    rw [if_neg (by show ¬ (5 : Nat) = 1; decide), if_neg (by show ¬ (5 : Nat) = 3; decide), if_neg (by show ¬ (5 : Nat) = 4; decide), if_pos (show isT [95] (⟨5, [95], 0, p⟩ :: r) = true from rfl)]
    rfl
  rw [e, bnd_ok, if_neg (by decide)]

-- too deep
theorem lit41 {n i m q : Nat} {x : By} {r : List Tok} : isT [41] (opT t40 1 n i ++ ⟨1, x, m, q⟩ :: r) = false := by
  cases n with
  | zero => exact isT_ck (by decide)
  | succ n => exact isT_ct (by decide)
theorem deep0 {x : By} {m q : Nat} {r : List Tok} (hq : 0 < q) : ∀ (n g : Nat) (f : Bool) (i : Nat), g ≤ n → 0 < i → ∃ p, 0 < p ∧ exp g f (opT t40 1 n i ++ ⟨1, x, m, q⟩ :: r) = .error (p, 15)
  | 0, 0, f, i, _, hi => ⟨q, hq, rfl⟩
  | n + 1, 0, f, i, _, hi => ⟨i, hi, rfl⟩
  | 0, g + 1, f, i, h, hi => absurd h (by omega)
  | n + 1, g + 1, f, i, h, hi => by
    obtain ⟨p, hp, he⟩ := deep0 hq n g false (i + 1) (by omega) (by omega)
    refine ⟨p, hp, up_err (X := exp g) (Y := pat g) (ts := ⟨5, [40], 0, i⟩ :: (opT t40 1 n (i + 1) ++ ⟨1, x, m, q⟩ :: r)) at_40 ?_⟩
    rw [atom_40 lit41, he, bnd_err]
theorem inner_fun {i : Nat} {r : List Tok} : inner X Y room f (tFun i ++ r) = bnd (X f r) fun b r => .ok (.node 6 [120] [] [b] 0 i, r) := by
  unfold inner
  rw [show tFun i ++ r = ⟨6, wFun, 0, i⟩ :: ⟨3, [120], 0, i + 4⟩ :: ⟨5, wArrow, 0, i + 6⟩ :: r from rfl]
  rw [isT_ct (s := wLet) (by decide), if_neg (by decide), if_pos (show isT wFun (⟨6, wFun, 0, i⟩ :: ⟨3, [120], 0, i + 4⟩ :: ⟨5, wArrow, 0, i + 6⟩ :: r) = true from rfl)]
  rfl
theorem deep1 {x : By} {m q : Nat} {r : List Tok} (hq : 0 < q) : ∀ (n g : Nat) (f : Bool) (i : Nat), g ≤ n → 0 < i → ∃ p, 0 < p ∧ exp g f (opT tFun 9 n i ++ ⟨1, x, m, q⟩ :: r) = .error (p, 15)
  | 0, 0, f, i, _, hi => ⟨q, hq, rfl⟩
  | n + 1, 0, f, i, _, hi => ⟨i, hi, rfl⟩
  | 0, g + 1, f, i, h, hi => absurd h (by omega)
  | n + 1, g + 1, f, i, h, hi => by
    obtain ⟨p, hp, he⟩ := deep1 hq n g f (i + 9) (by omega) (by omega)
    refine ⟨p, hp, ?_⟩
    show inner (exp g) (pat g) (decide (0 < g)) f ((tFun i ++ opT tFun 9 n (i + 9)) ++ ⟨1, x, m, q⟩ :: r) = _
    rw [List.append_assoc, inner_fun, he, bnd_err]
theorem match_row {g i : Nat} {r : List Tok} : atom (exp (g + 1)) (pat (g + 1)) (tMatch i ++ r) =
    bnd (exp (g + 1) false r) fun b r => bnd (reps (rowStep (exp (g + 1)) (pat (g + 1))) [.node 1 [] [] [] 1 (i + 6), .node 24 [] [] [] 0 (i + 15), b] r) fun ks r => bnd (want wEnd r) fun _ r => .ok (.node 11 [] [] ks 0 i, r) := by
  show atom (exp (g + 1)) (pat (g + 1)) (⟨6, wMatch, 0, i⟩ :: ⟨1, [], 1, i + 6⟩ :: ⟨6, wWith, 0, i + 8⟩ :: ⟨5, [124], 0, i + 13⟩ :: ⟨5, [95], 0, i + 15⟩ :: ⟨5, wArrow, 0, i + 17⟩ :: r) = _
  rw [atom_match, exp_lit (Or.inr (Or.inr ⟨rfl, Or.inr rfl⟩)), bnd_ok, want_yes rfl, bnd_ok]
  show bnd (row (exp (g + 1)) (pat (g + 1)) [.node 1 [] [] [] 1 (i + 6)] (⟨5, [124], 0, i + 13⟩ :: ⟨5, [95], 0, i + 15⟩ :: ⟨5, wArrow, 0, i + 17⟩ :: r)) _ = _
  have e : row (exp (g + 1)) (pat (g + 1)) [.node 1 [] [] [] 1 (i + 6)] (⟨5, [124], 0, i + 13⟩ :: ⟨5, [95], 0, i + 15⟩ :: ⟨5, wArrow, 0, i + 17⟩ :: r) = bnd (exp (g + 1) false r) fun b r => .ok ([.node 1 [] [] [] 1 (i + 6), .node 24 [] [] [] 0 (i + 15), b], r) := by
    unfold row
    rw [if_neg (by show ¬ 1 = 41; decide), want_yes rfl, bnd_ok]
    show bnd (pat (g + 1) (⟨5, [95], 0, i + 15⟩ :: ⟨5, wArrow, 0, i + 17⟩ :: r)) _ = _
    rw [pat_any, bnd_ok, want_yes rfl, bnd_ok]
    rfl
  rw [e]
  cases exp (g + 1) false r with
  | ok a => rfl
  | error d => rfl
theorem deep2 {x : By} {m q : Nat} {r : List Tok} (hq : 0 < q) : ∀ (n g : Nat) (f : Bool) (i : Nat), g ≤ n → 0 < i → ∃ p, 0 < p ∧ exp g f (opT tMatch 20 n i ++ ⟨1, x, m, q⟩ :: r) = .error (p, 15)
  | 0, 0, f, i, _, hi => ⟨q, hq, rfl⟩
  | n + 1, 0, f, i, _, hi => ⟨i, hi, rfl⟩
  | 0, g + 1, f, i, h, hi => absurd h (by omega)
  | n + 1, 1, f, i, h, hi => by
    refine ⟨i + 6, by omega, up_err (X := exp 0) (Y := pat 0) (ts := ⟨6, wMatch, 0, i⟩ :: ⟨1, [], 1, i + 6⟩ :: ⟨6, wWith, 0, i + 8⟩ :: ⟨5, [124], 0, i + 13⟩ :: ⟨5, [95], 0, i + 15⟩ :: ⟨5, wArrow, 0, i + 17⟩ :: (opT tMatch 20 n (i + 20) ++ ⟨1, x, m, q⟩ :: r)) at_match ?_⟩
    rw [atom_match]
    rfl
  | n + 1, g + 2, f, i, h, hi => by
    obtain ⟨p, hp, he⟩ := deep2 hq n (g + 1) false (i + 20) (by omega) (by omega)
    refine ⟨p, hp, up_err (X := exp (g + 1)) (Y := pat (g + 1)) (ts := ⟨6, wMatch, 0, i⟩ :: ⟨1, [], 1, i + 6⟩ :: ⟨6, wWith, 0, i + 8⟩ :: ⟨5, [124], 0, i + 13⟩ :: ⟨5, [95], 0, i + 15⟩ :: ⟨5, wArrow, 0, i + 17⟩ :: (opT tMatch 20 n (i + 20) ++ ⟨1, x, m, q⟩ :: r)) at_match ?_⟩
    have e := match_row (g := g) (i := i) (r := opT tMatch 20 n (i + 20) ++ ⟨1, x, m, q⟩ :: r)
    rw [he, bnd_err] at e
    exact e

-- deep enough
theorem opT_snoc (f : Nat → List Tok) (d : Nat) : ∀ (n i : Nat), opT f d (n + 1) i = opT f d n i ++ f (i + n * d)
  | 0, i => by show f i ++ [] = [] ++ f (i + 0 * d); simp
  | n + 1, i => by
    show f i ++ opT f d (n + 1) (i + d) = (f i ++ opT f d n (i + d)) ++ f (i + (n + 1) * d)
    rw [opT_snoc f d n (i + d), List.append_assoc, show i + d + n * d = i + (n + 1) * d by rw [Nat.succ_mul]; omega]
theorem fine0 {x : By} {m q j : Nat} : ∀ (n g : Nat) (f : Bool) (i : Nat) (r : List Tok), n < g → Stop (hd r) → ∃ t, exp g f (opT t40 1 n i ++ ⟨1, x, m, q⟩ :: (opT t41 1 n j ++ r)) = .ok (t, r)
  | n, 0, f, i, r, h, hs => absurd h (by omega)
  | 0, g + 1, f, i, r, h, hs => ⟨_, exp_lit hs⟩
  | n + 1, g + 1, f, i, r, h, hs => by
    obtain ⟨t, he⟩ := fine0 n g false (i + 1) (⟨5, [41], 0, j + n * 1⟩ :: r) (by omega) (Or.inr (Or.inl ⟨rfl, rfl⟩))
    refine ⟨t, up (X := exp g) (Y := pat g) (ts := ⟨5, [40], 0, i⟩ :: (opT t40 1 n (i + 1) ++ ⟨1, x, m, q⟩ :: (opT t41 1 (n + 1) j ++ r))) at_40 ?_ hs⟩
    rw [atom_40 lit41, opT_snoc, List.append_assoc]
    show bnd (exp g false (opT t40 1 n (i + 1) ++ ⟨1, x, m, q⟩ :: (opT t41 1 n j ++ (⟨5, [41], 0, j + n * 1⟩ :: r)))) _ = _
    rw [he, bnd_ok, want_yes rfl, bnd_ok]
    rfl
theorem fine1 {x : By} {m q : Nat} : ∀ (n g : Nat) (f : Bool) (i : Nat) (r : List Tok), n < g → Stop (hd r) → ∃ t, exp g f (opT tFun 9 n i ++ ⟨1, x, m, q⟩ :: r) = .ok (t, r)
  | n, 0, f, i, r, h, hs => absurd h (by omega)
  | 0, g + 1, f, i, r, h, hs => ⟨_, exp_lit hs⟩
  | n + 1, g + 1, f, i, r, h, hs => by
    obtain ⟨t, he⟩ := fine1 n g f (i + 9) r (by omega) hs
    refine ⟨.node 6 [120] [] [t] 0 i, ?_⟩
    show inner (exp g) (pat g) (decide (0 < g)) f ((tFun i ++ opT tFun 9 n (i + 9)) ++ ⟨1, x, m, q⟩ :: r) = _
    rw [List.append_assoc, inner_fun, he, bnd_ok]
theorem fine2 {x : By} {m q j : Nat} : ∀ (n g : Nat) (f : Bool) (i : Nat) (r : List Tok), n < g → Stop (hd r) → ∃ t, exp g f (opT tMatch 20 n i ++ ⟨1, x, m, q⟩ :: (opT tEnd 4 n j ++ r)) = .ok (t, r)
  | n, 0, f, i, r, h, hs => absurd h (by omega)
  | 0, g + 1, f, i, r, h, hs => ⟨_, exp_lit hs⟩
  | n + 1, 1, f, i, r, h, hs => absurd h (by omega)
  | n + 1, g + 2, f, i, r, h, hs => by
    obtain ⟨t, he⟩ := fine2 n (g + 1) false (i + 20) (⟨6, wEnd, 0, j + n * 4 + 1⟩ :: r) (by omega) (Or.inr (Or.inr ⟨rfl, Or.inl rfl⟩))
    refine ⟨.node 11 [] [] [.node 1 [] [] [] 1 (i + 6), .node 24 [] [] [] 0 (i + 15), t] 0 i, up (X := exp (g + 1)) (Y := pat (g + 1)) (ts := ⟨6, wMatch, 0, i⟩ :: ⟨1, [], 1, i + 6⟩ :: ⟨6, wWith, 0, i + 8⟩ :: ⟨5, [124], 0, i + 13⟩ :: ⟨5, [95], 0, i + 15⟩ :: ⟨5, wArrow, 0, i + 17⟩ :: (opT tMatch 20 n (i + 20) ++ ⟨1, x, m, q⟩ :: (opT tEnd 4 (n + 1) j ++ r))) at_match ?_ hs⟩
    have e := match_row (g := g) (i := i) (r := opT tMatch 20 n (i + 20) ++ ⟨1, x, m, q⟩ :: (opT tEnd 4 (n + 1) j ++ r))
    rw [show opT tEnd 4 (n + 1) j ++ r = opT tEnd 4 n j ++ (⟨6, wEnd, 0, j + n * 4 + 1⟩ :: r) by rw [opT_snoc, List.append_assoc]; rfl, he, bnd_ok] at e
    rw [reps_none (by unfold rowStep; rw [isT_ct (s := [124]) (by decide)]; rfl), bnd_ok, want_yes rfl, bnd_ok] at e
    rw [show opT tEnd 4 (n + 1) j ++ r = opT tEnd 4 n j ++ (⟨6, wEnd, 0, j + n * 4 + 1⟩ :: r) by rw [opT_snoc, List.append_assoc]; rfl]
    exact e

-- the whole
theorem rl_7nil (i : Nat) : RL [55] i = glue [⟨1, [], 7, i⟩] (RL [] (i + 1)) := rl_tok (c := 55) (r := []) i (k := 1) (x := []) (n := 7) (m := 1) (by decide) (by decide) (by rfl) (by decide)
theorem rl_741 (r : List UInt8) (i : Nat) : RL (55 :: 41 :: r) i = glue [⟨1, [], 7, i⟩] (RL (41 :: r) (i + 1)) := rl_tok (c := 55) (r := 41 :: r) i (k := 1) (x := []) (n := 7) (m := 1) (by decide) (by decide) (by rfl) (by decide)
theorem rl_732 (r : List UInt8) (i : Nat) : RL (55 :: 32 :: r) i = glue [⟨1, [], 7, i⟩] (RL (32 :: r) (i + 1)) := rl_tok (c := 55) (r := 32 :: r) i (k := 1) (x := []) (n := 7) (m := 1) (by decide) (by decide) (by rfl) (by decide)
theorem rl_do (r : List UInt8) : RL (ahead3 ++ r) 0 = glue [⟨6, wDo, 0, 0⟩] (RL r 3) := by
  show RL (100 :: 111 :: 32 :: r) 0 = _
  rw [rl_tok (c := 100) (r := 111 :: 32 :: r) 0 (k := 6) (x := wDo) (n := 0) (m := 2) (by decide) (by decide) (by rfl) (by decide)]
  show glue _ (RL (32 :: r) 2) = _
  rw [rl_blank _ _ (by decide)]
theorem toks_of {l : List UInt8} {ts : List Tok} (hl : l.length ≤ 2000) (h : RL l 0 = .ok ts) : toks l = (ts, 0, 0) := by
  unfold toks; rw [if_pos hl, show run (l.length + 1) l 0 = .ok ts from h]
theorem prog_ok {T r : List Tok} {t : Tree} (h : exp 40 false T = .ok (t, r)) (hr : (hd r).k = 0) : prog (⟨6, wDo, 0, 0⟩ :: T) = .ok (.node 30 [] [] [t] 0 0, r) := by
  unfold prog
  rw [reps_none (by unfold declStep; rw [isT_ct (s := wType) (by decide), isT_ct (s := wLet) (by decide)]; rfl), bnd_ok, want_yes rfl, bnd_ok]
  show bnd (exp 40 false T) _ = _
  rw [h, bnd_ok, if_pos hr]
  rfl
theorem prog_err {T : List Tok} {e : Nat × Nat} (h : exp 40 false T = .error e) : prog (⟨6, wDo, 0, 0⟩ :: T) = .error e := by
  unfold prog
  rw [reps_none (by unfold declStep; rw [isT_ct (s := wType) (by decide), isT_ct (s := wLet) (by decide)]; rfl), bnd_ok, want_yes rfl, bnd_ok]
  show bnd (exp 40 false T) _ = _
  rw [h, bnd_err]
theorem g_ok {l : List UInt8} {T r : List Tok} {t : Tree} (hl : l.length ≤ 2000) (h : RL l 0 = .ok (⟨6, wDo, 0, 0⟩ :: T)) (he : exp 40 false T = .ok (t, r)) (hr : (hd r).k = 0) : gparsed l = (.node 30 [] [] [t] 0 0, 0, 0) := by
  unfold gparsed
  rw [toks_of hl h, if_pos rfl, prog_ok he hr]; rfl
theorem g_err {l : List UInt8} {T : List Tok} {p e : Nat} (hl : l.length ≤ 2000) (h : RL l 0 = .ok (⟨6, wDo, 0, 0⟩ :: T)) (he : exp 40 false T = .error (p, e)) : gparsed l = (MP.zero, p, e) := by
  unfold gparsed
  rw [toks_of hl h, if_pos rfl, prog_err he]; rfl
theorem opens_len (o : List UInt8) : ∀ n, (opens o n).length = n * o.length
  | 0 => by simp [opens]
  | n + 1 => by show (o ++ opens o n).length = _; rw [List.length_append, opens_len o n, Nat.succ_mul, Nat.add_comm]
/-- What is opened and closed, of the three kinds. -/
def o3 (k : Nat) : List UInt8 := if k = 0 then [40] else if k = 1 then oFun else oMatch
def c3 (k : Nat) : List UInt8 := if k = 0 then [41] else if k = 1 then [] else cEnd
def src (k n : Nat) : List UInt8 := ahead3 ++ (opens (o3 k) n ++ 55 :: opens (c3 k) n)
theorem opens_nil : ∀ n, opens [] n = []
  | 0 => rfl
  | n + 1 => by show [] ++ opens [] n = []; rw [opens_nil n]; rfl
theorem src_len (k n : Nat) (hn : n ≤ 60) : (src k n).length ≤ 2000 := by
  unfold src
  have h1 : (o3 k).length ≤ 20 := by unfold o3; split; · decide
                                     split <;> decide
  have h2 : (c3 k).length ≤ 4 := by unfold c3; split; · decide
                                    split <;> decide
  have h3 : n * (o3 k).length ≤ 60 * 20 := Nat.mul_le_mul hn h1
  have h4 : n * (c3 k).length ≤ 60 * 4 := Nat.mul_le_mul hn h2
  simp only [List.length_append, List.length_cons, opens_len]
  have : ahead3.length = 3 := rfl
  omega
theorem rl_src0 (n : Nat) : RL (src 0 n) 0 = .ok (⟨6, wDo, 0, 0⟩ :: (opT t40 1 n 3 ++ ⟨1, [], 7, 3 + n * 1⟩ :: (opT t41 1 n (3 + n * 1 + 1) ++ [⟨0, [], 0, 3 + n * 1 + 1 + n * 1⟩]))) := by
  show RL (ahead3 ++ (opens [40] n ++ 55 :: opens [41] n)) 0 = _
  rw [rl_do, rl_opens (o := [40]) (f := t40) (d := 1) (fun r i => rl_40 r i)]
  have e := rl_opens (o := [41]) (f := t41) (d := 1) (fun r i => rl_41 r i) [] n (3 + n * 1 + 1)
  rw [List.append_nil] at e
  have e7 : RL (55 :: opens [41] n) (3 + n * 1) = glue [⟨1, [], 7, 3 + n * 1⟩] (RL (opens [41] n) (3 + n * 1 + 1)) := by
    cases n with
    | zero => exact rl_7nil _
    | succ n => exact rl_741 _ _
  rw [e7, e]
  rfl
theorem rl_src1 (n : Nat) : RL (src 1 n) 0 = .ok (⟨6, wDo, 0, 0⟩ :: (opT tFun 9 n 3 ++ ⟨1, [], 7, 3 + n * 9⟩ :: [⟨0, [], 0, 3 + n * 9 + 1⟩])) := by
  show RL (ahead3 ++ (opens oFun n ++ 55 :: opens [] n)) 0 = _
  rw [rl_do, rl_opens (o := oFun) (f := tFun) (d := 9) (fun r i => rl_fun r i), opens_nil, rl_7nil]
  rfl
theorem rl_src2 (n : Nat) : RL (src 2 n) 0 = .ok (⟨6, wDo, 0, 0⟩ :: (opT tMatch 20 n 3 ++ ⟨1, [], 7, 3 + n * 20⟩ :: (opT tEnd 4 n (3 + n * 20 + 1) ++ [⟨0, [], 0, 3 + n * 20 + 1 + n * 4⟩]))) := by
  show RL (ahead3 ++ (opens oMatch n ++ 55 :: opens cEnd n)) 0 = _
  rw [rl_do, rl_opens (o := oMatch) (f := tMatch) (d := 20) (fun r i => rl_match r i)]
  obtain ⟨ts, e1, e2⟩ := rl_ends n (3 + n * 20 + 1)
  have e7 : RL (55 :: opens cEnd n) (3 + n * 20) = glue [⟨1, [], 7, 3 + n * 20⟩] (RL (opens cEnd n) (3 + n * 20 + 1)) := by
    cases n with
    | zero => exact rl_7nil _
    | succ n => exact rl_732 _ _
  rw [e7, e1, e2]
  rfl
/-- Up to as deep as may be, and no deeper. -/
theorem src_fine (k n : Nat) (hk : k < 3) (hn : n < 40) : ∃ t, gparsed (src k n) = (t, 0, 0) := by
  have hl := src_len k n (by omega)
  match k, hk with
  | 0, _ =>
    obtain ⟨t, h⟩ := fine0 (x := []) (m := 7) (q := 3 + n * 1) (j := 3 + n * 1 + 1) n 40 false 3 [⟨0, [], 0, 3 + n * 1 + 1 + n * 1⟩] hn (Or.inl rfl)
    exact ⟨_, g_ok hl (rl_src0 n) h rfl⟩
  | 1, _ =>
    obtain ⟨t, h⟩ := fine1 (x := []) (m := 7) (q := 3 + n * 9) n 40 false 3 [⟨0, [], 0, 3 + n * 9 + 1⟩] hn (Or.inl rfl)
    exact ⟨_, g_ok hl (rl_src1 n) h rfl⟩
  | 2, _ =>
    obtain ⟨t, h⟩ := fine2 (x := []) (m := 7) (q := 3 + n * 20) (j := 3 + n * 20 + 1) n 40 false 3 [⟨0, [], 0, 3 + n * 20 + 1 + n * 4⟩] hn (Or.inl rfl)
    exact ⟨_, g_ok hl (rl_src2 n) h rfl⟩
theorem src_deep (k n : Nat) (hk : k < 3) (hn : 40 ≤ n) (h60 : n ≤ 60) : ∃ p, 0 < p ∧ gparsed (src k n) = (MP.zero, p, 15) := by
  have hl := src_len k n (by omega)
  match k, hk with
  | 0, _ =>
    obtain ⟨p, hp, h⟩ := deep0 (x := []) (m := 7) (q := 3 + n * 1) (r := opT t41 1 n (3 + n * 1 + 1) ++ [⟨0, [], 0, 3 + n * 1 + 1 + n * 1⟩]) (by omega) n 40 false 3 hn (by decide)
    exact ⟨p, hp, g_err hl (rl_src0 n) h⟩
  | 1, _ =>
    obtain ⟨p, hp, h⟩ := deep1 (x := []) (m := 7) (q := 3 + n * 9) (r := [⟨0, [], 0, 3 + n * 9 + 1⟩]) (by omega) n 40 false 3 hn (by decide)
    exact ⟨p, hp, g_err hl (rl_src1 n) h⟩
  | 2, _ =>
    obtain ⟨p, hp, h⟩ := deep2 (x := []) (m := 7) (q := 3 + n * 20) (r := opT tEnd 4 n (3 + n * 20 + 1) ++ [⟨0, [], 0, 3 + n * 20 + 1 + n * 4⟩]) (by omega) n 40 false 3 hn (by decide)
    exact ⟨p, hp, g_err hl (rl_src2 n) h⟩
end Go.Proofs.YtlcapkgbbgpdmaaGreatDoor.DQ

/- The grammar on two rows of tokens that are alike: what comes of them is alike. -/
namespace Go.Proofs.YtlcapkgbbgpdmaaGreatDoor.GL
open Go.Proofs.YtlcapkgbbgpdmaaGreatDoor.TK Go.Proofs.YtlcapkgbbgpdmaaGreatDoor.GR
set_option linter.unusedVariables false
set_option maxRecDepth 100000

/-- Two tokens that are the same, but for their places. -/
def Alike (a b : Tok) : Prop := a.k = b.k ∧ a.t = b.t ∧ a.n = b.n
/-- Two rows of tokens, the same but for places; if 'w', at the end of the first one the second may go on with ')', and D tokens. -/
inductive L (w : Bool) (D : Nat) : List Tok → List Tok → Prop
  | nil : (w = true → D = 0) → L w D [] []
  | cons {a b : Tok} {az bs : List Tok} : Alike a b → L w D az bs → L w D (a :: az) (b :: bs)
  | stop {a b : Tok} {bs : List Tok} : w = true → a.k = 0 → b.k = 5 → b.t = [41] → bs.length = D → L w D [a] (b :: bs)

/-- Two answers that are alike; if 'w', behind a refusal of the first one the second may be any. -/
def RR (w : Bool) (D : Nat) {α β : Type} (A : α → β → Prop) (r : R α) (r' : R β) : Prop :=
  match r, r' with
  | .ok (a, ts), .ok (b, us) => A a b ∧ L w D ts us
  | .error e, .error f => w = true ∨ e.2 = f.2
  | .error _, .ok _ => w = true
  | .ok _, .error _ => False

variable {w : Bool} {D : Nat} {α β γ δ : Type}

theorem RR.weak {A : α → β → Prop} (hw : w = true) (e : Nat × Nat) (r' : R β) : RR w D A (.error e) r' := by
  cases r' <;> simp [RR, hw]
theorem RR.fail {A : α → β → Prop} (e : Nat) (ts us : List Tok) : RR w D A (fail e ts) (fail e us) := by simp [RR, GR.fail]
theorem RR.bnd {A : α → β → Prop} {B : γ → δ → Prop} {r : R α} {r' : R β} {f : α → List Tok → R γ} {f' : β → List Tok → R δ} (h : RR w D A r r')
    (hf : ∀ a b ts us, A a b → L w D ts us → RR w D B (f a ts) (f' b us)) : RR w D B (GR.bnd r f) (GR.bnd r' f') := by
  match r, r' with
  | .ok (a, ts), .ok (b, us) => exact hf _ _ _ _ h.1 h.2
  | .error e, .error f => exact h
  | .error e, .ok (b, us) => exact RR.weak h _ _
theorem RR.ite {A : α → β → Prop} {c c' : Prop} [Decidable c] [Decidable c'] {a b : R α} {a' b' : R β} (hc : c ↔ c') (h1 : c → c' → RR w D A a a') (h2 : ¬c → ¬c' → RR w D A b b') :
    RR w D A (if c then a else b) (if c' then a' else b') := by
  by_cases h : c
  · rw [if_pos h, if_pos (hc.1 h)]; exact h1 h (hc.1 h)
  · rw [if_neg h, if_neg (fun k => h (hc.2 k))]; exact h2 h (fun k => h (hc.2 k))

/-- Two steps that are alike. -/
def OR (w : Bool) (D : Nat) (A : α → β → Prop) (o : Option (R α)) (o' : Option (R β)) : Prop :=
  match o, o' with
  | none, none => True
  | some r, some r' => RR w D A r r'
  | _, _ => False
theorem OR.some {A : α → β → Prop} {r : R α} {r' : R β} (h : RR w D A r r') : OR w D A (some r) (some r') := h
theorem OR.none {A : α → β → Prop} : OR w D A (none : Option (R α)) (none : Option (R β)) := trivial
theorem OR.ite {A : α → β → Prop} {c c' : Prop} [Decidable c] [Decidable c'] {a b : Option (R α)} {a' b' : Option (R β)} (hc : c ↔ c') (h1 : c → c' → OR w D A a a') (h2 : ¬c → ¬c' → OR w D A b b') :
    OR w D A (if c then a else b) (if c' then a' else b') := by
  by_cases h : c
  · rw [if_pos h, if_pos (hc.1 h)]; exact h1 h (hc.1 h)
  · rw [if_neg h, if_neg (fun k => h (hc.2 k))]; exact h2 h (fun k => h (hc.2 k))

theorem RR.rep {A : α → β → Prop} {f : α → List Tok → Option (R α)} {f' : β → List Tok → Option (R β)} (hf : ∀ a b ts us, A a b → L w D ts us → OR w D A (f a ts) (f' b us)) :
    ∀ (n m : Nat) (a : α) (b : β) (ts us : List Tok), n ≤ m → (w = false → n = m) → A a b → L w D ts us → RR w D A (rep f n a ts) (rep f' m b us)
  | 0, m, a, b, ts, us, h1, h2, ha, hl => by
    cases hw : w with
    | true => exact RR.weak rfl _ _
    | false =>
      have := h2 hw
      subst this
      simp [GR.rep, RR]
  | n + 1, 0, a, b, ts, us, h1, h2, ha, hl => absurd h1 (by omega)
  | n + 1, m + 1, a, b, ts, us, h1, h2, ha, hl => by
    have h := hf a b ts us ha hl
    unfold GR.rep
    match hx : f a ts, hy : f' b us with
    | none, none => simp only []; exact ⟨ha, hl⟩
    | some r, some r' =>
      simp only []
      rw [hx, hy] at h
      exact RR.bnd h fun a b ts us ha hl => RR.rep hf n m a b ts us (by omega) (fun hw => by have := h2 hw; omega) ha hl
    | none, some r' => rw [hx, hy] at h; exact h.elim
    | some r, none => rw [hx, hy] at h; exact h.elim

theorem L.len : ∀ {ts us : List Tok}, L w D ts us → ts.length ≤ us.length ∧ (w = false → ts.length = us.length)
  | _, _, .nil _ => by simp
  | _, _, .cons _ h => by have := h.len; simp only [List.length_cons]; exact ⟨by omega, fun hw => by have := this.2 hw; omega⟩
  | _, _, .stop hw _ _ _ _ => by simp [hw]
theorem RR.reps {A : α → β → Prop} {f : α → List Tok → Option (R α)} {f' : β → List Tok → Option (R β)} (hf : ∀ a b ts us, A a b → L w D ts us → OR w D A (f a ts) (f' b us))
    {a : α} {b : β} {ts us : List Tok} (ha : A a b) (hl : L w D ts us) : RR w D A (reps f a ts) (reps f' b us) :=
  RR.rep hf _ _ a b ts us (by have := hl.len.1; omega) (fun hw => by have := hl.len.2 hw; omega) ha hl

-- the tests
theorem L.go {ts us : List Tok} (h : L w D ts us) (hk : (hd ts).k ≠ 0) : Alike (hd ts) (hd us) ∧ L w D ts.tail us.tail := by
  cases h with
  | nil => exact absurd rfl hk
  | cons h1 h2 => exact ⟨h1, h2⟩
  | stop hw h1 h2 h3 h4 => exact absurd h1 hk
theorem isT_k {s : By} {ts : List Tok} (h : isT s ts = true) : (hd ts).k ≠ 0 := by
  simp only [isT, Bool.and_eq_true, Bool.or_eq_true, decide_eq_true_eq] at h
  omega
theorem L.goT {ts us : List Tok} {s : By} (h : L w D ts us) (hk : isT s ts = true) : Alike (hd ts) (hd us) ∧ L w D ts.tail us.tail := h.go (isT_k hk)
theorem alike_isT {ts us : List Tok} (h : Alike (hd ts) (hd us)) (s : By) : isT s ts = isT s us := by simp only [isT, h.1, h.2.1]
theorem L.isT {ts us : List Tok} (h : L w D ts us) (s : By) (hs : s ≠ [41]) : isT s ts = isT s us := by
  cases h with
  | nil => rfl
  | cons h1 h2 => exact alike_isT (ts := _ :: _) (us := _ :: _) h1 s
  | stop hw h1 h2 h3 h4 =>
    have e1 : ¬([41] : By) = s := fun k => hs k.symm
    simp [GR.isT, h1, h2, h3, e1]
theorem L.isT41 {ts us : List Tok} (h : L w D ts us) (hw : w = false) : GR.isT [41] ts = GR.isT [41] us := by
  cases h with
  | nil => rfl
  | cons h1 h2 => exact alike_isT (ts := _ :: _) (us := _ :: _) h1 _
  | stop hw' h1 h2 h3 h4 => simp [hw] at hw'
theorem L.kind {ts us : List Tok} (h : L w D ts us) (k : Nat) (h0 : 1 ≤ k) (h4 : k ≤ 4) : (hd ts).k = k ↔ (hd us).k = k := by
  cases h with
  | nil => rfl
  | cons h1 h2 => simp [h1.1]
  | stop hw h1 h2 h3 h4 => simp only [hd_cons]; omega
theorem L.want {ts us : List Tok} (h : L w D ts us) (s : By) : RR w D (fun _ _ => True) (want s ts) (want s us) := by
  unfold GR.want
  by_cases hs : s = [41]
  · subst hs
    cases hw : w with
    | false =>
      subst hw
      refine RR.ite (by rw [h.isT41 rfl]) (fun h1 _ => ⟨trivial, (h.goT h1).2⟩) (fun _ _ => RR.fail _ _ _)
    | true =>
      subst hw
      by_cases h1 : GR.isT [41] ts = true
      · have := h.goT h1
        rw [if_pos h1, if_pos (by rw [← alike_isT this.1]; exact h1)]
        exact ⟨trivial, this.2⟩
      · rw [if_neg h1]
        exact RR.weak rfl _ _
  · exact RR.ite (by rw [h.isT s hs]) (fun h1 _ => ⟨trivial, (h.goT h1).2⟩) (fun _ _ => RR.fail _ _ _)
theorem L.txt {ts us : List Tok} (h : L w D ts us) (k : Nat) (h0 : 1 ≤ k) (h4 : k ≤ 4) : RR w D Eq (txt k ts) (txt k us) :=
  RR.ite (h.kind k h0 h4) (fun h1 _ => have := h.go (by omega); ⟨this.1.2.1, this.2⟩) (fun _ _ => RR.fail _ _ _)

-- trees that are the same, but for places
def Sm (a b : Tree) : Prop := same a b = true
def Sms (a b : List Tree) : Prop := sames a b = true
theorem sm_node {k n : Nat} {t : By} {ns : List By} {ks ks' : List Tree} {p p' : Nat} (h : Sms ks ks') : Sm (.node k t ns ks n p) (.node k t ns ks' n p') := by
  unfold Sm same
  simpa [Sms] using h
theorem sms_nil : Sms [] [] := by simp [Sms, sames]
theorem sms_cons {a b : Tree} {az bs : List Tree} (h : Sm a b) (hs : Sms az bs) : Sms (a :: az) (b :: bs) := by
  simp only [Sm] at h
  simp only [Sms] at hs
  simp [Sms, sames, h, hs]
theorem sms_one {a b : Tree} (h : Sm a b) : Sms [a] [b] := sms_cons h sms_nil
theorem sms_two {a b c d : Tree} (h : Sm a b) (h2 : Sm c d) : Sms [a, c] [b, d] := sms_cons h (sms_one h2)
theorem sms_append : ∀ {az bs cs ds : List Tree}, Sms az bs → Sms cs ds → Sms (az ++ cs) (bs ++ ds)
  | [], [], cs, ds, h, h2 => h2
  | a :: az, b :: bs, cs, ds, h, h2 => by
    simp only [Sms, sames, Bool.and_eq_true] at h
    exact sms_cons h.1 (sms_append h.2 h2)
  | [], b :: bs, _, _, h, _ => by simp [Sms, sames] at h
  | a :: az, [], _, _, h, _ => by simp [Sms, sames] at h
theorem sms_len : ∀ {az bs : List Tree}, Sms az bs → az.length = bs.length
  | [], [], h => rfl
  | a :: az, b :: bs, h => by
    simp only [Sms, sames, Bool.and_eq_true] at h
    simp [sms_len (az := az) (bs := bs) h.2]
  | [], b :: bs, h => by simp [Sms, sames] at h
  | a :: az, [], h => by simp [Sms, sames] at h
theorem sm_inv {a b : Tree} (h : Sm a b) : a.kind = b.kind ∧ a.text = b.text ∧ a.names = b.names ∧ Sms a.kids b.kids ∧ a.num = b.num := by
  cases a; cases b
  simp only [Sm, same, Bool.and_eq_true, decide_eq_true_eq] at h
  exact ⟨h.1, h.2.1, h.2.2.2.1, h.2.2.2.2, h.2.2.1⟩
theorem sm_of {a b : Tree} (h1 : a.kind = b.kind) (h2 : a.text = b.text) (h3 : a.names = b.names) (h4 : Sms a.kids b.kids) (h5 : a.num = b.num) : Sm a b := by
  cases a; cases b
  simp only [Tree.kind, Tree.text, Tree.names, Tree.kids, Tree.num] at h1 h2 h3 h4 h5
  subst h1 h2 h3 h5
  exact sm_node h4
theorem sm_more {a b c d : Tree} (h : Sm a b) (h2 : Sm c d) : Sm (a.more c) (b.more d) := by
  obtain ⟨e1, e2, e3, e4, e5⟩ := sm_inv h
  exact sm_of e1 e2 e3 (sms_append e4 (sms_one h2)) e5

theorem RR.leaf {ts us : List Tok} (h : L w D ts us) (hk : (hd ts).k ≠ 0) (k : Nat) : RR w D Sm (leaf k ts) (leaf k us) := by
  have := h.go hk
  unfold GR.leaf
  rw [this.1.2.1, this.1.2.2]
  exact ⟨sm_node sms_nil, this.2⟩

-- types
theorem rr_tyStep {T T' : List Tok → R Tree} (hT : ∀ ts us, L w D ts us → RR w D Sm (T ts) (T' us)) (ks ks' : List Tree) (ts us : List Tok) (hk : Sms ks ks') (h : L w D ts us) :
    OR w D Sms (tyStep T ks ts) (tyStep T' ks' us) := by
  refine OR.ite (h.kind 3 (by omega) (by omega)) (fun h1 _ => ?_) fun _ _ => OR.ite (by rw [h.isT _ (by decide)]) (fun h1 _ => ?_) fun _ _ => trivial
  · have := h.go (by omega)
    exact ⟨sms_append hk (sms_one (by rw [this.1.2.1]; exact sm_node sms_nil)), this.2⟩
  · exact RR.bnd (hT _ _ (h.goT h1).2) fun a b r r' ha hr => RR.bnd (hr.want _) fun _ _ r r' _ hr => ⟨sms_append hk (sms_one ha), hr⟩
theorem rr_tyapp : ∀ (g g' : Nat), g ≤ g' → (w = false → g = g') → ∀ ts us, L w D ts us → RR w D Sm (tyapp g ts) (tyapp g' us)
  | 0, g', _, h2, ts, us, h => by
    cases hw : w with
    | true => exact RR.weak rfl _ _
    | false => have := h2 hw; subst this; exact RR.fail _ _ _
  | g + 1, 0, h1, _, _, _, _ => absurd h1 (by omega)
  | g + 1, g' + 1, h1, h2, ts, us, h =>
    RR.bnd (h.txt 3 (by omega) (by omega)) fun s s' r r' hs hr => by
      subst hs
      exact RR.bnd (RR.reps (fun a b ts us => rr_tyStep (rr_tyapp g g' (by omega) (fun hw => by have := h2 hw; omega)) a b ts us) sms_nil hr) fun ks ks' r r' hk hr => ⟨sm_node hk, hr⟩
theorem rr_conPart {ks ks' : List Tree} {ts us : List Tok} (hk : Sms ks ks') (h : L w D ts us) : RR w D Sms (conPart ks ts) (conPart ks' us) :=
  RR.ite (by rw [sms_len hk]) (fun _ _ => RR.fail _ _ _) fun _ _ => RR.bnd (rr_tyapp 40 40 (by omega) (fun _ => rfl) _ _ h) fun a b r r' ha hr => ⟨sms_append hk (sms_one ha), hr⟩
theorem rr_conStep {ks ks' : List Tree} {ts us : List Tok} (hk : Sms ks ks') (h : L w D ts us) : OR w D Sms (conStep ks ts) (conStep ks' us) :=
  OR.ite (by rw [h.isT _ (by decide)]) (fun h1 _ => OR.some (rr_conPart hk (h.goT h1).2)) fun _ _ => OR.none
theorem rr_con {ts us : List Tok} (h : L w D ts us) : RR w D Sm (con ts) (con us) :=
  RR.bnd (h.txt 4 (by omega) (by omega)) fun s s' r r' hs hr => by
    subst hs
    refine RR.ite (by rw [hr.isT _ (by decide)]) (fun h1 _ => ?_) fun _ _ => ⟨sm_node sms_nil, hr⟩
    exact RR.bnd (rr_conPart sms_nil (hr.goT h1).2) fun ks ks' r r' hk hr => RR.bnd (RR.reps (A := Sms) (fun a b ts us ha hl => rr_conStep ha hl) hk hr) fun ks ks' r r' hk hr => ⟨sm_node hk, hr⟩

-- patterns
theorem rr_patom {Y Y' : List Tok → R Tree} (hY : ∀ ts us, L w D ts us → RR w D Sm (Y ts) (Y' us)) {ts us : List Tok} (h : L w D ts us) : RR w D Sm (patom Y ts) (patom Y' us) := by
  refine RR.ite (h.kind 1 (by omega) (by omega)) (fun h1 _ => RR.leaf h (by omega) _) fun _ _ => RR.ite (h.kind 3 (by omega) (by omega)) (fun h1 _ => RR.leaf h (by omega) _) fun _ _ =>
    RR.ite (h.kind 4 (by omega) (by omega)) (fun h1 _ => RR.leaf h (by omega) _) fun _ _ => RR.ite (by rw [h.isT _ (by decide)]) (fun h1 _ => ⟨sm_node sms_nil, (h.goT h1).2⟩) fun _ _ =>
    RR.ite (by rw [h.isT _ (by decide)]) (fun h1 _ => ?_) fun _ _ => RR.fail _ _ _
  exact RR.bnd (hY _ _ (h.goT h1).2) fun a b r r' ha hr => RR.bnd (hr.want _) fun _ _ r r' _ hr => ⟨ha, hr⟩
theorem kind_eq {ts us : List Tok} (h : L w D ts us) (k : Nat) (h0 : 1 ≤ k) (h4 : k ≤ 4) : decide ((hd ts).k = k) = decide ((hd us).k = k) := by
  have := h.kind k h0 h4
  by_cases h1 : (hd ts).k = k
  · rw [decide_eq_true h1, decide_eq_true (this.1 h1)]
  · rw [decide_eq_false h1, decide_eq_false (fun k => h1 (this.2 k))]
theorem patBegins_eq {ts us : List Tok} (h : L w D ts us) : patBegins ts = patBegins us := by
  unfold patBegins
  rw [h.isT [95] (by decide), h.isT [40] (by decide), kind_eq h 3 (by omega) (by omega), kind_eq h 1 (by omega) (by omega), kind_eq h 4 (by omega) (by omega)]
theorem begins_eq {ts us : List Tok} (h : L w D ts us) : begins ts = begins us := by
  unfold begins
  rw [kind_eq h 1 (by omega) (by omega), kind_eq h 2 (by omega) (by omega), kind_eq h 3 (by omega) (by omega), kind_eq h 4 (by omega) (by omega), h.isT [40] (by decide), h.isT wRetry (by decide),
    h.isT wMatch (by decide), h.isT wTry (by decide)]
theorem rr_pat : ∀ (g g' : Nat), g ≤ g' → (w = false → g = g') → ∀ ts us, L w D ts us → RR w D Sm (pat g ts) (pat g' us)
  | 0, g', _, h2, ts, us, h => by
    cases hw : w with
    | true => exact RR.weak rfl _ _
    | false => have := h2 hw; subst this; exact RR.fail _ _ _
  | g + 1, 0, h1, _, _, _, _ => absurd h1 (by omega)
  | g + 1, g' + 1, h1, h2, ts, us, h => by
    have ih := rr_pat g g' (by omega) (fun hw => by have := h2 hw; omega)
    refine RR.bnd (rr_patom ih h) fun n n' r r' hn hr => RR.ite (h.kind 4 (by omega) (by omega)) (fun _ _ => ?_) fun _ _ => ⟨hn, hr⟩
    refine RR.reps (A := Sm) (f := patStep (pat g)) (f' := patStep (pat g')) (fun a b ts us ha hl => ?_) hn hr
    refine OR.ite (by rw [patBegins_eq hl]) (fun _ _ => OR.some ?_) fun _ _ => OR.none
    exact RR.ite (by rw [sms_len (sm_inv ha).2.2.2.1]) (fun _ _ => RR.fail _ _ _) fun _ _ => RR.bnd (rr_patom ih hl) fun t t' r r' ht hr => ⟨sm_more ha ht, hr⟩

theorem L.end41 {ts us : List Tok} (h : L w D ts us) (h2 : ¬GR.isT [41] ts = true) (h3 : GR.isT [41] us = true) : (hd ts).k = 0 := by
  cases h with
  | nil => rfl
  | cons a b => exact absurd ((alike_isT (ts := _ :: _) (us := _ :: _) a [41]).trans h3) h2
  | stop _ a _ _ _ => exact a

-- exps
section
variable {X X' : Bool → List Tok → R Tree} {Y Y' : List Tok → R Tree} (hX : ∀ f ts us, L w D ts us → RR w D Sm (X f ts) (X' f us)) (hY : ∀ ts us, L w D ts us → RR w D Sm (Y ts) (Y' us))
  (hE : w = true → ∀ f ts, (hd ts).k = 0 → ∃ e, X f ts = .error e)
include hX hY
theorem rr_row {ks ks' : List Tree} {ts us : List Tok} (hk : Sms ks ks') (h : L w D ts us) : RR w D Sms (row X Y ks ts) (row X' Y' ks' us) :=
  RR.ite (by rw [sms_len hk]) (fun _ _ => RR.fail _ _ _) fun _ _ => RR.bnd (h.want _) fun _ _ r r' _ hr => RR.bnd (hY _ _ hr) fun p p' r r' hp hr => RR.bnd (hr.want _) fun _ _ r r' _ hr =>
    RR.bnd (hX _ _ _ hr) fun b b' r r' hb hr => ⟨sms_append (sms_append hk (sms_one hp)) (sms_one hb), hr⟩
include hE
theorem rr_atom {ts us : List Tok} (h : L w D ts us) : RR w D Sm (atom X Y ts) (atom X' Y' us) := by
  refine RR.ite (h.kind 1 (by omega) (by omega)) (fun h1 _ => RR.leaf h (by omega) _) fun _ _ => RR.ite (h.kind 2 (by omega) (by omega)) (fun h1 _ => RR.leaf h (by omega) _) fun _ _ =>
    RR.ite (h.kind 3 (by omega) (by omega)) (fun h1 _ => RR.leaf h (by omega) _) fun _ _ => RR.ite (h.kind 4 (by omega) (by omega)) (fun h1 _ => RR.leaf h (by omega) _) fun _ _ =>
    RR.ite (by rw [h.isT _ (by decide)]) (fun h1 _ => ⟨sm_node sms_nil, (h.goT h1).2⟩) fun _ _ => RR.ite (by rw [h.isT _ (by decide)]) (fun h1 _ => ?_) fun _ _ =>
    RR.ite (by rw [h.isT _ (by decide)]) (fun h1 _ => ?_) fun _ _ => RR.ite (by rw [h.isT _ (by decide)]) (fun h1 _ => ?_) fun _ _ => RR.fail _ _ _
  · have ht := (h.goT h1).2
    have hx := RR.bnd (hX false _ _ ht) (f := fun x r => bnd (GR.want [41] r) fun _ r => .ok (x, r)) (f' := fun x r => bnd (GR.want [41] r) fun _ r => .ok (x, r)) (B := Sm)
      fun a b r r' ha hr => RR.bnd (hr.want _) fun _ _ r r' _ hr => ⟨ha, hr⟩
    by_cases h2 : GR.isT [41] ts.tail = true
    · have := ht.goT h2
      rw [if_pos h2, if_pos (by rw [← alike_isT this.1]; exact h2)]
      exact ⟨sm_node sms_nil, this.2⟩
    · cases hw : w with
      | false =>
        subst hw
        rw [if_neg h2, if_neg (by rw [← ht.isT41 rfl]; exact h2)]
        exact hx
      | true =>
        subst hw
        rw [if_neg h2]
        by_cases h3 : GR.isT [41] us.tail = true
        · have h0 : (hd ts.tail).k = 0 := ht.end41 h2 h3
          obtain ⟨e, he⟩ := hE rfl false _ h0
          rw [he]
          exact RR.weak rfl _ _
        · rw [if_neg h3]
          exact hx
  · exact RR.bnd (hX _ _ _ (h.goT h1).2) fun b b' r r' hb hr => RR.bnd (hr.want _) fun _ _ r r' _ hr => RR.bnd (hr.txt 3 (by omega) (by omega)) fun s s' r r' hs hr => by
      subst hs
      exact RR.bnd (hr.want _) fun _ _ r r' _ hr => RR.bnd (hX _ _ _ hr) fun c c' r r' hc hr => RR.bnd (hr.want _) fun _ _ r r' _ hr => ⟨sm_node (sms_two hb hc), hr⟩
  · exact RR.bnd (hX _ _ _ (h.goT h1).2) fun b b' r r' hb hr => RR.bnd (hr.want _) fun _ _ r r' _ hr => RR.bnd (rr_row hX hY (sms_one hb) hr) fun ks ks' r r' hk hr =>
      RR.bnd (RR.reps (A := Sms) (f := rowStep X Y) (f' := rowStep X' Y') (fun a b ts us ha hl => OR.ite (by rw [hl.isT _ (by decide)]) (fun h1 _ => OR.some (rr_row hX hY ha hl)) fun _ _ => OR.none) hk hr) fun ks ks' r r' hk hr =>
      RR.bnd (hr.want _) fun _ _ r r' _ hr => ⟨sm_node hk, hr⟩
theorem rr_app {ts us : List Tok} (h : L w D ts us) : RR w D Sm (app X Y ts) (app X' Y' us) := by
  have hc : callOf ts = callOf us := by
    have : ∀ l : List (By × Nat × Bool), (∀ c ∈ l, c.1 ≠ [41]) → l.find? (fun c => isT c.1 ts) = l.find? (fun c => isT c.1 us) := by
      intro l
      induction l with
      | nil => intro _; rfl
      | cons c l ih =>
        intro hl
        simp only [List.find?_cons, h.isT c.1 (hl c (by simp))]
        rw [ih (fun c hc => hl c (by simp [hc]))]
    exact this _ (by decide)
  unfold GR.app
  rw [← hc]
  match hx : callOf ts with
  | some c =>
    have h1 : isT c.1 ts = true := by have := List.find?_some hx; exact this
    refine RR.bnd (rr_atom hX hY hE (h.goT h1).2) fun a b r r' ha hr => RR.ite Iff.rfl (fun _ _ => ?_) fun _ _ => ⟨sm_node (sms_one ha), hr⟩
    exact RR.bnd (rr_atom hX hY hE hr) fun c c' r r' hc hr => ⟨sm_node (sms_two ha hc), hr⟩
  | none =>
    refine RR.bnd (rr_atom hX hY hE h) fun a b r r' ha hr => RR.ite (h.kind 4 (by omega) (by omega)) (fun _ _ => ?_) fun _ _ => ?_
    · refine RR.reps (A := Sm) (f := moreStep X Y) (f' := moreStep X' Y') (fun a b ts us ha hl => ?_) ha hr
      refine OR.ite (by rw [begins_eq hl]) (fun _ _ => OR.some ?_) fun _ _ => OR.none
      exact RR.ite (by rw [sms_len (sm_inv ha).2.2.2.1]) (fun _ _ => RR.fail _ _ _) fun _ _ => RR.bnd (rr_atom hX hY hE hl) fun t t' r r' ht hr => ⟨sm_more ha ht, hr⟩
    · refine RR.reps (A := Sm) (f := callStep X Y) (f' := callStep X' Y') (fun a b ts us ha hl => ?_) ha hr
      refine OR.ite (by rw [begins_eq hl]) (fun _ _ => OR.some ?_) fun _ _ => OR.none
      exact RR.bnd (rr_atom hX hY hE hl) fun t t' r r' ht hr => ⟨sm_node (sms_two ha ht), hr⟩
omit hX hY hE in
theorem or_opStep {Z Z' : List Tok → R Tree} (hZ : ∀ ts us, L w D ts us → RR w D Sm (Z ts) (Z' us)) {l : List By} (hl : ∀ s ∈ l, s ≠ [41]) (n n' : Tree) (ts us : List Tok) (hn : Sm n n') (h : L w D ts us) :
    OR w D Sm (opStep l Z n ts) (opStep l Z' n' us) := by
  have hc : l.find? (fun s => isT s ts) = l.find? (fun s => isT s us) := by
    induction l with
    | nil => rfl
    | cons c l ih =>
      simp only [List.find?_cons, h.isT c (hl c (by simp))]
      rw [ih (fun c hc => hl c (by simp [hc]))]
  unfold opStep
  rw [← hc]
  match hx : l.find? (fun s => isT s ts) with
  | some s =>
    have h1 : isT s ts = true := by have := List.find?_some hx; exact this
    exact RR.bnd (hZ _ _ (h.goT h1).2) fun a b r r' ha hr => ⟨sm_node (sms_two hn ha), hr⟩
  | none => exact trivial
theorem rr_prod {ts us : List Tok} (h : L w D ts us) : RR w D Sm (prod X Y ts) (prod X' Y' us) :=
  RR.bnd (rr_app hX hY hE h) fun n n' r r' hn hr => RR.reps (or_opStep (fun ts us h => rr_app hX hY hE h) (by decide)) hn hr
theorem rr_sum {ts us : List Tok} (h : L w D ts us) : RR w D Sm (sum X Y ts) (sum X' Y' us) :=
  RR.bnd (rr_prod hX hY hE h) fun n n' r r' hn hr => RR.reps (or_opStep (fun ts us h => rr_prod hX hY hE h) (by decide)) hn hr
theorem rr_cmp {ts us : List Tok} (h : L w D ts us) : RR w D Sm (cmp X Y ts) (cmp X' Y' us) := by
  refine RR.bnd (rr_sum hX hY hE h) fun n n' r r' hn hr => ?_
  have := or_opStep (Z := sum X Y) (Z' := sum X' Y') (fun ts us h => rr_sum hX hY hE h) (l := [[61], [60]]) (by decide) n n' r r' hn hr
  match hx : opStep [[61], [60]] (sum X Y) n r, hy : opStep [[61], [60]] (sum X' Y') n' r' with
  | none, none => exact ⟨hn, hr⟩
  | some q, some q' => rw [hx, hy] at this; exact this
  | none, some q => rw [hx, hy] at this; exact this.elim
  | some q, none => rw [hx, hy] at this; exact this.elim
omit hY hE in
theorem rr_value {room room' : Bool} (hroom : w = false → room = room') (hX' : w = true → room = false → ∀ f ts, ∃ e, X f ts = .error e) (flat : Bool) {ts us : List Tok} (h : L w D ts us) :
    RR w D (fun a b => a.1 = b.1 ∧ a.2.1 = b.2.1 ∧ Sm a.2.2 b.2.2) (value X room flat ts) (value X' room' flat us) := by
  have hrec : isT wRec ts = isT wRec us := h.isT _ (by decide)
  have h1 : L w D (if isT wRec ts = true then ts.tail else ts) (if isT wRec us = true then us.tail else us) := by
    rw [← hrec]
    by_cases hr : isT wRec ts = true
    · rw [if_pos hr, if_pos hr]; exact (h.goT hr).2
    · rw [if_neg hr, if_neg hr]; exact h
  unfold value
  refine RR.bnd (h1.txt 3 (by omega) (by omega)) fun s s' r r' hs hr => RR.bnd (hr.want _) fun _ _ r r' _ hr => ?_
  subst hs
  rw [← hrec, ← hr.isT wFun (by decide)]
  have hx : RR w D (fun (a b : Bool × By × Tree) => a.1 = b.1 ∧ a.2.1 = b.2.1 ∧ Sm a.2.2 b.2.2) (bnd (X flat r) fun v r => .ok ((isT wRec ts, s, v), r)) (bnd (X' flat r') fun v r => .ok ((isT wRec ts, s, v), r)) :=
    RR.bnd (hX _ _ _ hr) fun a b r r' ha hr => ⟨⟨rfl, rfl, ha⟩, hr⟩
  cases hw : w with
  | false =>
    subst hw
    rw [← hroom rfl]
    exact RR.ite Iff.rfl (fun _ _ => RR.fail _ _ _) fun _ _ => hx
  | true =>
    subst hw
    by_cases hc : isT wRec ts = true ∧ isT wFun r = false ∧ room = true
    · rw [if_pos hc]; exact RR.weak rfl _ _
    · rw [if_neg hc]
      by_cases hr0 : room = true
      · rw [if_neg (fun k => hc ⟨k.1, k.2.1, hr0⟩)]
        exact hx
      · obtain ⟨e, he⟩ := hX' rfl (by simpa using hr0) flat r
        rw [he]
        exact RR.weak rfl _ _
theorem rr_inner {room room' : Bool} (hroom : w = false → room = room') (hX' : w = true → room = false → ∀ f ts, ∃ e, X f ts = .error e) (flat : Bool) {ts us : List Tok} (h : L w D ts us) :
    RR w D Sm (inner X Y room flat ts) (inner X' Y' room' flat us) := by
  refine RR.ite (by rw [h.isT _ (by decide)]) (fun h1 _ => ?_) fun _ _ => RR.ite (by rw [h.isT _ (by decide)]) (fun h1 _ => ?_) fun _ _ => RR.ite (by rw [h.isT _ (by decide)]) (fun h1 _ => ?_) fun _ _ => ?_
  · refine RR.bnd (rr_value hX hroom hX' flat (h.goT h1).2) fun v v' r r' hv hr => RR.bnd (hr.want _) fun _ _ r r' _ hr => RR.bnd (hX _ _ _ hr) fun b b' r r' hb hr => ?_
    rw [hv.1, hv.2.1]
    exact ⟨sm_node (sms_two hv.2.2 hb), hr⟩
  · refine RR.bnd ((h.goT h1).2.txt 3 (by omega) (by omega)) fun s s' r r' hs hr => RR.bnd (hr.want _) fun _ _ r r' _ hr => RR.bnd (hX _ _ _ hr) fun b b' r r' hb hr => ?_
    subst hs
    exact ⟨sm_node (sms_one hb), hr⟩
  · exact RR.bnd (hX _ _ _ (h.goT h1).2) fun a a' r r' ha hr => RR.bnd (hr.want _) fun _ _ r r' _ hr => RR.bnd (hX _ _ _ hr) fun b b' r r' hb hr => RR.bnd (hr.want _) fun _ _ r r' _ hr =>
      RR.bnd (hX _ _ _ hr) fun c c' r r' hc hr => ⟨sm_node (sms_cons ha (sms_two hb hc)), hr⟩
  · refine RR.bnd (rr_cmp hX hY hE h) fun a a' r r' ha hr => RR.ite (by rw [hr.isT _ (by decide)]) (fun h1 _ => ?_) fun _ _ => ⟨ha, hr⟩
    exact RR.bnd (hX _ _ _ (hr.goT h1.1).2) fun b b' r r' hb hr => ⟨sm_node (sms_two ha hb), hr⟩
end
-- at the end nothing begins
theorem isT_end {ts : List Tok} (h : (hd ts).k = 0) (s : By) : GR.isT s ts = false := by simp [GR.isT, h]
theorem atom_end {X : Bool → List Tok → R Tree} {Y : List Tok → R Tree} {ts : List Tok} (h : (hd ts).k = 0) : atom X Y ts = fail 14 ts := by
  simp [atom, isT_end h, h]
theorem app_end {X : Bool → List Tok → R Tree} {Y : List Tok → R Tree} {ts : List Tok} (h : (hd ts).k = 0) : app X Y ts = fail 14 ts := by
  have : callOf ts = none := by simp [callOf, calls, isT_end h]
  simp [app, this, atom_end h, GR.fail]
theorem exp_end : ∀ (g : Nat) (f : Bool) (ts : List Tok), (hd ts).k = 0 → ∃ e, exp g f ts = .error e
  | 0, f, ts, h => ⟨_, rfl⟩
  | g + 1, f, ts, h => ⟨_, by simp only [exp, inner, isT_end h, cmp, GR.sum, prod, app_end h, GR.fail, bnd_err]; rfl⟩
theorem rr_exp : ∀ (g g' : Nat), g ≤ g' → (w = false → g = g') → ∀ f ts us, L w D ts us → RR w D Sm (exp g f ts) (exp g' f us)
  | 0, g', _, h2, f, ts, us, h => by
    cases hw : w with
    | true => exact RR.weak rfl _ _
    | false => have := h2 hw; subst this; exact RR.fail _ _ _
  | g + 1, 0, h1, _, _, _, _, _ => absurd h1 (by omega)
  | g + 1, g' + 1, h1, h2, f, ts, us, h =>
    rr_inner (X := exp g) (Y := pat g) (rr_exp g g' (by omega) (fun hw => by have := h2 hw; omega)) (rr_pat g g' (by omega) (fun hw => by have := h2 hw; omega)) (fun _ f ts h0 => exp_end g f ts h0)
      (fun hw => congrArg (fun n => decide (0 < n)) (show g = g' by have := h2 hw; omega))
      (fun _ h0 f ts => by
        have h1 : g = 0 := by simpa using h0
        subst h1
        exact ⟨_, rfl⟩) f h
end Go.Proofs.YtlcapkgbbgpdmaaGreatDoor.GL

/- Each token of a source on a line of its own, plainly. Nothing of the program is in sight. -/
namespace Go.Proofs.YtlcapkgbbgpdmaaGreatDoor.LB
open Go.Proofs.YtlcapkgbbgpdmaaGreatDoor.P Go.Proofs.YtlcapkgbbgpdmaaGreatDoor.Q Go.Proofs.YtlcapkgbbgpdmaaGreatDoor.TK Go.Proofs.YtlcapkgbbgpdmaaGreatDoor.TJ Go.Proofs.YtlcapkgbbgpdmaaGreatDoor.DP
set_option linter.unusedVariables false
set_option maxRecDepth 100000

-- what is read of a text does not hang on what stands behind it
theorem td_take {l : List UInt8} (h : (td l).2 = 0) (y : List UInt8) : td (l.take 2 ++ y) = td l := by
  match l with
  | [] => simp [td] at h
  | [d] => exfalso; simp only [td] at h; by_cases hd : dn d < 16 <;> simp [hd] at h
  | d :: f :: t => rfl
theorem bh_take {l : List UInt8} (h : (bh l).2.2 = 0) (y : List UInt8) : bh (l.take ((bh l).2.1 - 1) ++ y) = bh l := by
  match l with
  | [] => simp [bh] at h
  | c :: t =>
    rw [bh_cons] at h ⊢
    by_cases h1 : c = 120
    · rw [if_pos h1] at h ⊢
      show bh ((c :: t).take 3 ++ y) = _
      show bh (c :: (t.take 2 ++ y)) = _
      rw [bh_cons, if_pos h1, td_take h]
    · rw [if_neg h1] at h ⊢
      by_cases h2 : c = 34
      · rw [if_pos h2]; show bh (c :: ([] ++ y)) = _; rw [bh_cons, if_neg h1, if_pos h2]
      · rw [if_neg h2] at h ⊢
        by_cases h3 : c = 92
        · rw [if_pos h3]; show bh (c :: ([] ++ y)) = _; rw [bh_cons, if_neg h1, if_neg h2, if_pos h3]
        · rw [if_neg h3] at h ⊢
          by_cases h4 : c = 110
          · rw [if_pos h4]; show bh (c :: ([] ++ y)) = _; rw [bh_cons, if_neg h1, if_neg h2, if_neg h3, if_pos h4]
          · rw [if_neg h4] at h; simp at h
theorem fs_take {l : List UInt8} (h : (fs l).2.2 = 0) (y : List UInt8) : fs (l.take (fs l).2.1 ++ y) = fs l := by
  match l with
  | [] => simp [fs] at h
  | c :: t =>
    have hk := fs_ok h
    obtain ⟨m, hm⟩ : ∃ m, (fs (c :: t)).2.1 = m + 1 := ⟨(fs (c :: t)).2.1 - 1, by omega⟩
    rw [hm]
    show fs (c :: (t.take m ++ y)) = _
    rw [fs_cons] at h hm ⊢
    rw [fs_cons]
    by_cases h1 : c = 92
    · rw [if_pos h1] at h hm ⊢
      rw [if_pos h1]
      have e := bh_take h y
      rw [hm] at e
      exact e
    · rw [if_neg h1] at h ⊢
      rw [if_neg h1]
theorem rl_take (y : List UInt8) : ∀ (f g : Nat) (l : List UInt8) (i : Nat) (acc : List UInt8), (rl f l i acc).2.2 = 0 → l.length < g → (l.take ((rl f l i acc).2.1 - i) ++ y).length < g → rl g (l.take ((rl f l i acc).2.1 - i) ++ y) i acc = rl f l i acc
  | 0, g, l, i, acc, h, _, _ => by simp [rl] at h
  | f + 1, g, [], i, acc, h, _, _ => by simp [rl] at h
  | f + 1, 0, c :: t, i, acc, h, _, hg => by omega
  | f + 1, g + 1, c :: t, i, acc, h, hl, hg => by
    have hlen := rl_len _ _ _ _ h
    rw [TC.rl_cons'] at h hg hlen ⊢
    by_cases hc : c = 34
    · rw [if_pos hc] at h hg hlen ⊢
      by_cases ha : acc.length ≤ 60
      · rw [if_pos ha]
        show rl (g + 1) ((c :: t).take (i + 1 - i) ++ y) i acc = _
        rw [show i + 1 - i = 1 by omega]
        show rl (g + 1) (c :: ([] ++ y)) i acc = _
        rw [TC.rl_cons', if_pos hc, if_pos ha]
      · rw [if_neg ha] at h; simp at h
    · rw [if_neg hc] at h hg hlen ⊢
      by_cases he : (fs (c :: t)).2.2 = 0
      · rw [if_pos he] at h hg hlen ⊢
        have hk := fs_ok he
        have hl2 := rl_len _ _ _ _ h
        obtain ⟨F, hF⟩ : ∃ F, fs (c :: t) = F := ⟨_, rfl⟩
        obtain ⟨k, hkk⟩ : ∃ k, F.2.1 = k + 1 := ⟨F.2.1 - 1, by rw [hF] at hk; omega⟩
        have hft := fun y => fs_take he y
        rw [hF] at h hg hlen hl2 hk hft ⊢
        simp only [hF] at he
        rw [hkk] at h hg hlen hl2 hk hft ⊢
        simp only [Nat.add_sub_cancel] at h hg hlen hl2 ⊢
        obtain ⟨Q, hQ⟩ : ∃ Q, rl f (t.drop k) (i + (k + 1)) (acc ++ [F.1]) = Q := ⟨_, rfl⟩
        have IH := rl_take y f g (t.drop k) (i + (k + 1)) (acc ++ [F.1]) h
        rw [hQ] at h hg hlen hl2 IH ⊢
        obtain ⟨n, hn⟩ : ∃ n, Q.2.1 - i = (k + 1) + n := ⟨Q.2.1 - i - (k + 1), by omega⟩
        have hn2 : Q.2.1 - (i + (k + 1)) = n := by omega
        rw [hn2] at IH
        rw [hn] at hg ⊢
        have e1 : (c :: t).take (k + 1 + n) ++ y = (c :: t).take (k + 1) ++ (((c :: t).drop (k + 1)).take n ++ y) := by
          rw [List.take_add, List.append_assoc]
        have hkl : k ≤ t.length := by have := hk.2; simp at this; omega
        have e2 : (c :: t).take (k + 1) ++ (((c :: t).drop (k + 1)).take n ++ y) = c :: (t.take k ++ ((t.drop k).take n ++ y)) := rfl
        rw [e1] at hg ⊢
        have e3 := hft (((c :: t).drop (k + 1)).take n ++ y)
        rw [e2] at hg e3 ⊢
        rw [TC.rl_cons', if_neg hc, e3, if_pos he, hkk]
        simp only [Nat.add_sub_cancel]
        have e4 : (t.take k ++ ((t.drop k).take n ++ y)).drop k = (t.drop k).take n ++ y := by
          rw [List.drop_append_of_le_length (by simp; omega), List.drop_eq_nil_of_le (by simp; omega)]; rfl
        rw [e4]
        refine IH (by simp at hl ⊢; omega) ?_
        simp only [List.length_cons, List.length_append] at hg ⊢
        omega
      · rw [if_neg he] at h; exact absurd h he
theorem unq_take {l : List UInt8} (h : (unq l).2.2 = 0) (y : List UInt8) : unq (l.take (unq l).2.1 ++ y) = unq l := by
  match l with
  | [] => simp [unq] at h
  | c :: t =>
    have e : ∀ t, unq (c :: t) = if c = 34 then rl (t.length + 1) t 1 [] else ([], 0, 14) := fun _ => rfl
    rw [e] at h ⊢
    by_cases hc : c = 34
    · rw [if_pos hc] at h ⊢
      have hl := rl_len _ _ _ _ h
      obtain ⟨m, hm⟩ : ∃ m, (rl (t.length + 1) t 1 []).2.1 = m + 1 := ⟨(rl (t.length + 1) t 1 []).2.1 - 1, by omega⟩
      have IH := fun g => rl_take y (t.length + 1) g t 1 [] h
      rw [hm] at IH ⊢
      simp only [Nat.add_sub_cancel] at IH
      show unq (c :: (t.take m ++ y)) = _
      rw [e, if_pos hc]
      by_cases hlt : t.length < (t.take m ++ y).length + 1
      · exact IH _ hlt (by omega)
      · rw [← IH (t.length + 1) (by omega) (by omega)]
        exact TC.rl_fuel _ _ _ _ _ (by omega) (by omega)
    · rw [if_neg hc] at h; simp at h
-- a token
theorem tw_app {p : UInt8 → Bool} : ∀ {W : List UInt8} {y : List UInt8}, (∀ c ∈ W, p c = true) → (∀ d, y.head? = some d → p d = false) → (W ++ y).takeWhile p = W
  | [], [], _, _ => rfl
  | [], d :: y, _, h => by simp [h d rfl]
  | c :: W, y, hW, h => by
    rw [List.cons_append, List.takeWhile_cons, if_pos (hW c (by simp)), tw_app (fun d hd => hW d (by simp [hd])) h]
theorem tw_take (p : UInt8 → Bool) : ∀ l : List UInt8, l.take (l.takeWhile p).length = l.takeWhile p
  | [] => rfl
  | c :: t => by
    rw [List.takeWhile_cons]
    split
    · simp [tw_take p t]
    · rfl
theorem tw_drop (p : UInt8 → Bool) : ∀ l : List UInt8, ∀ d, (l.drop (l.takeWhile p).length).head? = some d → p d = false
  | [], d, h => by simp at h
  | c :: t, d, h => by
    rw [List.takeWhile_cons] at h
    by_cases hc : p c = true
    · rw [if_pos hc] at h; exact tw_drop p t d (by simpa using h)
    · rw [if_neg hc] at h
      simp at h
      rw [← h]; simpa using hc
theorem tw_all (p : UInt8 → Bool) : ∀ l : List UInt8, ∀ c ∈ l.takeWhile p, p c = true
  | [], c, h => by simp at h
  | a :: t, c, h => by
    rw [List.takeWhile_cons] at h
    by_cases ha : p a = true
    · rw [if_pos ha] at h
      rcases List.mem_cons.1 h with rfl | h
      · exact ha
      · exact tw_all p t c h
    · rw [if_neg ha] at h; simp at h
/-- What may stand behind a token in its place. -/
def Fol (r y : List UInt8) : Prop := ∀ d, y.head? = some d → d = 10 ∨ r.head? = some d
theorem tw_fol {p : UInt8 → Bool} (h10 : p 10 = false) (l : List UInt8) (y : List UInt8) (hy : Fol (l.drop (l.takeWhile p).length) y) : (l.takeWhile p ++ y).takeWhile p = l.takeWhile p :=
  tw_app (tw_all p l) fun d hd => by
    rcases hy d hd with rfl | h
    · exact h10
    · exact tw_drop p l d h
theorem tk_take {c : UInt8} {r : List UInt8} {x : Nat × List UInt8 × Nat} {m : Nat} (h : tk (c :: r) = (x, m, 0)) (y : List UInt8) (hy : Fol ((c :: r).drop m) y) : tk ((c :: r).take m ++ y) = (x, m, 0) ∧ 1 ≤ m ∧ m ≤ (c :: r).length := by
  rw [tk_cons] at h
  by_cases h1 : isD c = true
  · rw [if_pos h1] at h
    by_cases hv : val ((c :: r).takeWhile isD) ≤ 4611686018427387903
    · rw [if_pos hv] at h
      injection h with h2 h3
      injection h3 with h3 _
      subst h3
      have hpos := takeWhile_pos (t := r) h1
      refine ⟨?_, hpos, takeWhile_le _ _⟩
      rw [tw_take]
      have e := tw_fol (p := isD) (by decide) (c :: r) y hy
      obtain ⟨W, hW⟩ : ∃ W, (c :: r).takeWhile isD = c :: W := ⟨r.takeWhile isD, by rw [List.takeWhile_cons, if_pos h1]⟩
      rw [hW] at e hv h2 ⊢
      rw [List.cons_append] at e ⊢
      rw [tk_cons, if_pos h1, e, if_pos hv, h2]
    · rw [if_neg hv] at h; simp at h
  rw [if_neg h1] at h
  by_cases h34 : c = 34
  · rw [if_pos h34] at h
    injection h with h2 h3
    injection h3 with h3 h4
    have hl := unq_len h4
    have e := unq_take h4 y
    rw [h3] at e hl
    obtain ⟨m', rfl⟩ : ∃ m', m = m' + 1 := ⟨m - 1, by omega⟩
    refine ⟨?_, by omega, hl.2⟩
    show tk (c :: (r.take m' ++ y)) = _
    rw [tk_cons, if_neg h1, if_pos h34]
    have e : unq (c :: (r.take m' ++ y)) = unq (c :: r) := e
    rw [e, h3, h4, h2]
  rw [if_neg h34] at h
  by_cases h5 : (isS c || isL c) = true
  · rw [if_pos h5] at h
    by_cases h16 : ((c :: r).takeWhile isN).length ≤ 16
    · rw [if_pos h16] at h
      injection h with h2 h3
      injection h3 with h3 _
      subst h3
      have hN : isN c = true := by
        unfold isN
        cases hs : isS c <;> cases hL : isL c <;> simp_all
      have hpos := takeWhile_pos (t := r) hN
      refine ⟨?_, hpos, takeWhile_le _ _⟩
      rw [tw_take]
      have e := tw_fol (p := isN) (by decide) (c :: r) y hy
      obtain ⟨W, hW⟩ : ∃ W, (c :: r).takeWhile isN = c :: W := ⟨r.takeWhile isN, by rw [List.takeWhile_cons, if_pos hN]⟩
      rw [hW] at e h16 h2 ⊢
      rw [List.cons_append] at e ⊢
      rw [tk_cons, if_neg h1, if_neg h34, if_pos h5, e, if_pos h16, h2]
    · rw [if_neg h16] at h; simp at h
  rw [if_neg h5] at h
  by_cases h45 : c = 45 ∧ r.head? = some 62
  · rw [if_pos h45] at h
    injection h with h2 h3
    injection h3 with h3 _
    subst h3
    cases r with
    | nil => simp at h45
    | cons d r =>
      refine ⟨?_, by decide, by simp⟩
      show tk (c :: d :: ([] ++ y)) = _
      rw [tk_cons, if_neg h1, if_neg h34, if_neg h5, if_pos ⟨h45.1, h45.2⟩, h2]
  rw [if_neg h45] at h
  by_cases hs : c ∈ signs
  · rw [if_pos hs] at h
    injection h with h2 h3
    injection h3 with h3 _
    subst h3
    refine ⟨?_, by decide, by simp⟩
    show tk (c :: ([] ++ y)) = _
    rw [tk_cons, if_neg h1, if_neg h34, if_neg h5, if_neg, if_pos hs, h2]
    rintro ⟨hc, hd⟩
    rcases hy 62 (by simpa using hd) with h | h
    · simp at h
    · exact h45 ⟨hc, by simpa using h⟩
  · rw [if_neg hs] at h; simp at h

-- a gap, and a token with the gap behind it
theorem first_at {l : List UInt8} {i : Nat} {u : Tok} {us : List Tok} (h : RL l i = .ok (u :: us)) : i ≤ u.p := by
  have hg := run_good _ _ _ _ h
  cases us with
  | nil => have := hg.2.1; omega
  | cons v us => exact hg.2.1
theorem rl_rem {r : List UInt8} {i : Nat} : RL (35 :: r) i = RL (r.dropWhile nb) (i + (1 + (r.takeWhile nb).length)) := by
  show run ((r.length + 1) + 1) (35 :: r) i = _
  rw [run_cons, if_neg (by decide), if_pos rfl]
  exact run_fuel _ _ _ _ (by have := dropWhile_le nb r; omega) (by omega)
theorem dw_head : ∀ (r : List UInt8) (d : UInt8), (r.dropWhile nb).head? = some d → d = 10
  | [], d, h => by simp at h
  | c :: t, d, h => by
    rw [List.dropWhile_cons] at h
    by_cases hc : nb c = true
    · rw [if_pos hc] at h; exact dw_head t d h
    · rw [if_neg hc] at h
      simp at h
      subst h
      unfold nb at hc
      simpa using hc
theorem dw_stop {D : List UInt8} (hD : ∀ d, D.head? = some d → d = 10) : ∀ {W : List UInt8}, (∀ c ∈ W, nb c = true) → (W ++ D).dropWhile nb = D ∧ (W ++ D).takeWhile nb = W
  | [], _ => by
    cases D with
    | nil => exact ⟨rfl, rfl⟩
    | cons d D =>
      have := hD d rfl
      subst this
      exact ⟨by simp [nb], by simp [nb]⟩
  | c :: W, h => by
    have ih := dw_stop hD (W := W) (fun d hd => h d (by simp [hd]))
    rw [List.cons_append, List.dropWhile_cons, List.takeWhile_cons, if_pos (h c (by simp)), if_pos (h c (by simp)), ih.1, ih.2]
    exact ⟨rfl, rfl⟩
theorem tw_dw (p : UInt8 → Bool) : ∀ l : List UInt8, l.takeWhile p ++ l.dropWhile p = l
  | [] => rfl
  | c :: t => by
    rw [List.takeWhile_cons, List.dropWhile_cons]
    split
    · rw [List.cons_append, tw_dw p t]
    · rfl
/-- What stands ahead of the first token. -/
theorem gap : ∀ (n : Nat) (l : List UInt8) (q : Nat) (u : Tok) (us : List Tok), l.length ≤ n → RL l q = .ok (u :: us) → u.p - q ≤ l.length ∧ RL (l.drop (u.p - q)) u.p = .ok (u :: us) ∧ ∀ z j, RL (l.take (u.p - q) ++ 10 :: z) j = RL z (j + (u.p - q) + 1)
  | n, [], q, u, us, hn, h => by
    have e : RL [] q = .ok [⟨0, [], 0, q⟩] := rfl
    rw [e] at h
    injection h with h
    injection h with h1 h2
    subst h1; subst h2
    refine ⟨by simp, by simp; rfl, fun z j => ?_⟩
    show RL ([].take (q - q) ++ 10 :: z) j = RL z (j + (q - q) + 1)
    rw [Nat.sub_self]
    exact rl_blank z j (by decide)
  | 0, c :: r, q, u, us, hn, h => by simp at hn
  | n + 1, c :: r, q, u, us, hn, h => by
    simp only [List.length_cons] at hn
    by_cases hb : bl c = true
    · rw [rl_blank r q hb] at h
      have hq := first_at h
      obtain ⟨h1, h2, h3⟩ := gap n r (q + 1) u us (by omega) h
      obtain ⟨k, hk⟩ : ∃ k, u.p - q = k + 1 := ⟨u.p - q - 1, by omega⟩
      have hk2 : u.p - (q + 1) = k := by omega
      rw [hk2] at h1 h2 h3
      rw [hk]
      refine ⟨by simp; omega, h2, fun z j => ?_⟩
      show RL (c :: (r.take k ++ 10 :: z)) j = _
      rw [rl_blank _ j hb, h3, show j + 1 + k + 1 = j + (k + 1) + 1 by omega]
    · have hb : bl c = false := by simpa using hb
      by_cases h35 : c = 35
      · subst h35
        rw [rl_rem] at h
        have hq := first_at h
        have hd := dropWhile_le nb r
        have htd := take_drop_len nb r
        obtain ⟨h1, h2, h3⟩ := gap n (r.dropWhile nb) _ u us (by omega) h
        obtain ⟨k, hk⟩ : ∃ k, u.p - q = (1 + (r.takeWhile nb).length) + k := ⟨u.p - q - (1 + (r.takeWhile nb).length), by omega⟩
        have hk2 : u.p - (q + (1 + (r.takeWhile nb).length)) = k := by omega
        rw [hk2] at h1 h2 h3
        rw [hk]
        have er := tw_dw nb r
        have et : (35 :: r).take (1 + (r.takeWhile nb).length + k) = 35 :: (r.takeWhile nb ++ (r.dropWhile nb).take k) := by
          rw [show 1 + (r.takeWhile nb).length + k = ((r.takeWhile nb).length + k) + 1 by omega, List.take_succ_cons]
          conv => lhs; rw [← er]
          rw [List.take_append]
          simp
          exact List.take_of_length_le (by omega)
        have ed : (35 :: r).drop (1 + (r.takeWhile nb).length + k) = (r.dropWhile nb).drop k := by
          rw [show 1 + (r.takeWhile nb).length + k = ((r.takeWhile nb).length + k) + 1 by omega, List.drop_succ_cons]
          conv => lhs; rw [← er]
          rw [List.drop_append]
          simp
        refine ⟨by simp only [List.length_cons]; omega, by rw [ed]; exact h2, fun z j => ?_⟩
        rw [et, List.cons_append, rl_rem, List.append_assoc]
        have hD : ∀ d, ((r.dropWhile nb).take k ++ 10 :: z).head? = some d → d = 10 := fun d hd => by
          cases k with
          | zero => simp at hd; exact hd.symm
          | succ k =>
            cases hx : r.dropWhile nb with
            | nil => rw [hx] at hd; simp at hd; exact hd.symm
            | cons e D =>
              rw [hx] at hd
              simp at hd
              subst hd
              exact dw_head r e (by rw [hx]; rfl)
        obtain ⟨e1, e2⟩ := dw_stop hD (W := r.takeWhile nb) (tw_all nb r)
        rw [e1, e2, h3]
        congr 1
        omega
      · have hup : u.p = q := by
          have h' : run ((r.length + 1) + 1) (c :: r) q = .ok (u :: us) := h
          rw [run_cons, if_neg (by rw [hb]; decide), if_neg h35] at h'
          by_cases ht : (tk (c :: r)).2.2 = 0
          · rw [if_pos ht] at h'
            cases hr : run (r.length + 1) (r.drop ((tk (c :: r)).2.1 - 1)) (q + (tk (c :: r)).2.1) with
            | error d => rw [hr] at h'; cases h'
            | ok ts =>
              rw [hr] at h'
              injection h' with h'
              injection h' with h1 _
              rw [← h1]
          · rw [if_neg ht] at h'; cases h'
        rw [hup, Nat.sub_self]
        refine ⟨Nat.zero_le _, h, fun z j => ?_⟩
        exact rl_blank z j (by decide)
/-- A token and what stands behind it, up to the next one: it is read the same where a line ends behind it. -/
theorem piece {l : List UInt8} {i : Nat} {t u : Tok} {us : List Tok} (h : RL l i = .ok (t :: u :: us)) (ht : t.p = i) (hk : t.k ≠ 0) :
    i ≤ u.p ∧ u.p - i ≤ l.length ∧ RL (l.drop (u.p - i)) u.p = .ok (u :: us) ∧ ∀ z j, RL (l.take (u.p - i) ++ 10 :: z) j = glue [⟨t.k, t.t, t.n, j⟩] (RL z (j + (u.p - i) + 1)) := by
  match l with
  | [] =>
    have e : RL [] i = .ok [⟨0, [], 0, i⟩] := rfl
    rw [e] at h; cases h
  | c :: r =>
    have h' : run ((r.length + 1) + 1) (c :: r) i = .ok (t :: u :: us) := h
    by_cases hb : bl c = true
    · rw [rl_blank r i hb] at h
      have := first_at h
      omega
    have hb : bl c = false := by simpa using hb
    by_cases h35 : c = 35
    · subst h35
      rw [rl_rem] at h
      have := first_at h
      omega
    rw [run_cons, if_neg (by rw [hb]; decide), if_neg h35] at h'
    by_cases he : (tk (c :: r)).2.2 = 0
    case neg => rw [if_neg he] at h'; cases h'
    rw [if_pos he] at h'
    obtain ⟨X, hX⟩ : ∃ X, tk (c :: r) = X := ⟨_, rfl⟩
    obtain ⟨x, m, e⟩ := X
    rw [hX] at h' he
    simp only at h' he
    subst he
    have T := fun y hy => tk_take hX y hy
    have hm := (T [] (fun d hd => by simp at hd)).2
    obtain ⟨m', rfl⟩ : ∃ m', m = m' + 1 := ⟨m - 1, by omega⟩
    simp only [Nat.add_sub_cancel] at h'
    cases hr : run (r.length + 1) (r.drop m') (i + (m' + 1)) with
    | error d => rw [hr] at h'; cases h'
    | ok ts =>
      rw [hr] at h'
      injection h' with h'
      injection h' with h1 h2
      subst h2
      have hr2 : RL (r.drop m') (i + (m' + 1)) = .ok (u :: us) := by
        rw [← hr]; exact run_fuel _ _ _ _ (by omega) (by simp; omega)
      obtain ⟨g1, g2, g3⟩ := gap _ _ _ u us (Nat.le_refl _) hr2
      have hq := first_at hr2
      obtain ⟨k, hk⟩ : ∃ k, u.p - i = (m' + 1) + k := ⟨u.p - i - (m' + 1), by omega⟩
      have hk2 : u.p - (i + (m' + 1)) = k := by omega
      rw [hk2] at g1 g2 g3
      rw [hk]
      have hml : m' ≤ r.length := by have := hm.2; simp at this; omega
      have hlr : (r.drop m').length = r.length - m' := by simp
      refine ⟨by omega, by simp only [List.length_cons]; omega, by rw [← List.drop_drop]; exact g2, fun z j => ?_⟩
      have e1 : (c :: r).take (m' + 1 + k) ++ 10 :: z = (c :: r).take (m' + 1) ++ ((r.drop m').take k ++ 10 :: z) := by
        rw [List.take_add, List.append_assoc]; rfl
      rw [e1]
      have e2 := (T ((r.drop m').take k ++ 10 :: z) (fun d hd => by
        cases k with
        | zero => left; simpa using hd.symm
        | succ k =>
          cases hx : r.drop m' with
          | nil => left; rw [hx] at hd; simpa using hd.symm
          | cons b D =>
            right
            rw [hx] at hd
            show (r.drop m').head? = some d
            rw [hx]
            simpa using hd)).1
      have e3 : (c :: r).take (m' + 1) ++ ((r.drop m').take k ++ 10 :: z) = c :: (r.take m' ++ ((r.drop m').take k ++ 10 :: z)) := rfl
      rw [e3] at e2 ⊢
      rw [rl_tok j (k := x.1) (x := x.2.1) (n := x.2.2) (m := m' + 1) hb h35 e2 (by omega)]
      have e4 : (c :: (r.take m' ++ ((r.drop m').take k ++ 10 :: z))).drop (m' + 1) = (r.drop m').take k ++ 10 :: z := by
        rw [List.drop_succ_cons, List.drop_append_of_le_length (by simp; omega), List.drop_eq_nil_of_le (by simp; omega)]; rfl
      rw [e4, g3, ← h1, show j + (m' + 1) + k + 1 = j + (m' + 1 + k) + 1 by omega]

/-- The tokens of a row, each on its own line: s the whole source. -/
def lines (s : List UInt8) : List Tok → List UInt8
  | [] => []
  | [t] => s.drop t.p ++ [10]
  | t :: u :: r => (s.drop t.p).take (u.p - t.p) ++ 10 :: lines s (u :: r)
theorem lines_run (s : List UInt8) : ∀ (ts : List Tok) (t : Tok) (j : Nat), RL (s.drop t.p) t.p = .ok (t :: ts) → t.p ≤ s.length → ∃ us, RL (lines s (t :: ts)) j = .ok us ∧ GL.L false 0 (t :: ts) us
  | [], t, j, h, hp => by
    have hg := run_good _ _ _ _ h
    have hk : t.k = 0 := hg.1
    have hpe : t.p = t.p + (s.drop t.p).length := hg.2.1
    have hnil : s.drop t.p = [] := List.eq_nil_of_length_eq_zero (by omega)
    rw [hnil] at h
    have e : RL [] t.p = .ok [⟨0, [], 0, t.p⟩] := rfl
    rw [e] at h
    injection h with h
    injection h with h1 _
    refine ⟨[⟨0, [], 0, j + 1⟩], ?_, .cons ?_ (.nil fun _ => rfl)⟩
    · show RL (s.drop t.p ++ [10]) j = _
      rw [hnil]; rfl
    · rw [← h1]; exact ⟨rfl, rfl, rfl⟩
  | u :: us, t, j, h, hp => by
    have hg := run_good _ _ _ _ h
    obtain ⟨g1, g2, g3, g4⟩ := piece h rfl hg.1
    rw [List.drop_drop, show t.p + (u.p - t.p) = u.p by omega] at g3
    have hl : (s.drop t.p).length = s.length - t.p := by simp
    obtain ⟨vs, h1, h2⟩ := lines_run s us u (j + (u.p - t.p) + 1) g3 (by omega)
    refine ⟨⟨t.k, t.t, t.n, j⟩ :: vs, ?_, .cons ⟨rfl, rfl, rfl⟩ h2⟩
    show RL ((s.drop t.p).take (u.p - t.p) ++ 10 :: lines s (u :: us)) j = _
    rw [g4, h1]; rfl
/-- Each token of a source on its own line: alike tokens. -/
theorem lines_all {s : List UInt8} {ts : List Tok} (h : RL s 0 = .ok ts) : ∃ us, RL (lines s ts) 0 = .ok us ∧ GL.L false 0 ts us := by
  cases ts with
  | nil =>
    have := run_good _ _ _ _ h
    exact this.elim
  | cons t ts =>
    obtain ⟨h1, h2, _⟩ := gap _ _ _ t ts (Nat.le_refl _) h
    rw [Nat.sub_zero] at h1 h2
    exact lines_run s ts t 0 h2 h1
theorem lines_len {s : List UInt8} : ∀ (ts : List Tok) (t : Tok), RL (s.drop t.p) t.p = .ok (t :: ts) → t.p ≤ s.length → (lines s (t :: ts)).length = s.length - t.p + (ts.length + 1)
  | [], t, h, hp => by
    show (s.drop t.p ++ [10]).length = _
    simp
  | u :: us, t, h, hp => by
    have hg := run_good _ _ _ _ h
    obtain ⟨g1, g2, g3, g4⟩ := piece h rfl hg.1
    rw [List.drop_drop, show t.p + (u.p - t.p) = u.p by omega] at g3
    have hl : (s.drop t.p).length = s.length - t.p := by simp
    have ih := lines_len us u g3 (by omega)
    show ((s.drop t.p).take (u.p - t.p) ++ 10 :: lines s (u :: us)).length = _
    rw [List.length_append, List.length_cons, ih]
    simp only [List.length_take, List.length_cons]
    omega
end Go.Proofs.YtlcapkgbbgpdmaaGreatDoor.LB

/- The grammar on alike rows of tokens: declarations, the whole. Nothing of the program is in sight. -/
namespace Go.Proofs.YtlcapkgbbgpdmaaGreatDoor.LC
open Go.Proofs.YtlcapkgbbgpdmaaGreatDoor.TK Go.Proofs.YtlcapkgbbgpdmaaGreatDoor.TL Go.Proofs.YtlcapkgbbgpdmaaGreatDoor.GR Go.Proofs.YtlcapkgbbgpdmaaGreatDoor.GL Go.Proofs.YtlcapkgbbgpdmaaGreatDoor.MB
set_option linter.unusedVariables false
set_option maxRecDepth 100000

theorem isT_ff {ts us : List Tok} (h : L false 0 ts us) (s : By) : GR.isT s ts = GR.isT s us := by
  by_cases hs : s = [41]
  · subst hs; exact h.isT41 rfl
  · exact h.isT s hs
theorem kind_ff {ts us : List Tok} (h : L false 0 ts us) : (hd ts).k = (hd us).k := by
  cases h with
  | nil => rfl
  | cons h1 _ => exact h1.1
  | stop hw _ _ _ _ => cases hw
theorem text_ff {ts us : List Tok} (h : L false 0 ts us) : (hd ts).t = (hd us).t := by
  cases h with
  | nil => rfl
  | cons h1 _ => exact h1.2.1
  | stop hw _ _ _ _ => cases hw
theorem tail_ff {ts us : List Tok} (h : L false 0 ts us) : L false 0 ts.tail us.tail := by
  cases h with
  | nil h => exact .nil h
  | cons _ h2 => exact h2
  | stop hw _ _ _ _ => cases hw
theorem exp_ff (g : Nat) (f : Bool) (ts us : List Tok) (h : L false 0 ts us) : RR false 0 Sm (exp g f ts) (exp g f us) := rr_exp g g (Nat.le_refl _) (fun _ => rfl) f ts us h
theorem rr_nameStep (a b : List By) (ts us : List Tok) (hab : a = b) (h : L false 0 ts us) : OR false 0 Eq (nameStep a ts) (nameStep b us) := by
  subst hab
  unfold nameStep
  refine OR.ite (by rw [kind_ff h]) (fun h1 _ => OR.some ?_) (fun _ _ => OR.none)
  refine RR.ite Iff.rfl (fun _ _ => RR.fail _ _ _) (fun _ _ => ?_)
  exact ⟨by rw [text_ff h], tail_ff h⟩
theorem rr_conMore {a b : List Tree} {ts us : List Tok} (hab : Sms a b) (h : L false 0 ts us) : RR false 0 Sms (conMore a ts) (conMore b us) := by
  unfold conMore
  refine RR.ite (by rw [sms_len hab]) (fun _ _ => RR.fail _ _ _) (fun _ _ => ?_)
  exact RR.bnd (rr_con h) (fun x y ts us hx h => ⟨sms_append hab (sms_one hx), h⟩)
theorem rr_barStep (a b : List Tree) (ts us : List Tok) (hab : Sms a b) (h : L false 0 ts us) : OR false 0 Sms (barStep a ts) (barStep b us) := by
  unfold barStep
  exact OR.ite (by rw [isT_ff h]) (fun _ _ => OR.some (rr_conMore hab (tail_ff h))) (fun _ _ => OR.none)
theorem rr_decl {ts us : List Tok} (h : L false 0 ts us) : RR false 0 Sm (decl ts) (decl us) := by
  unfold decl
  refine RR.ite (by rw [isT_ff h]) (fun _ _ => ?_) (fun _ _ => ?_)
  · refine RR.bnd ((tail_ff h).txt 3 (by decide) (by decide)) fun s s' ts us hs h => ?_
    subst hs
    refine RR.bnd (RR.reps rr_nameStep rfl h) fun ns ns' ts us hn h => ?_
    subst hn
    refine RR.bnd (h.want _) fun _ _ ts us _ h => ?_
    refine RR.bnd (rr_conMore sms_nil h) fun ks ks' ts us hk h => ?_
    refine RR.bnd (RR.reps rr_barStep hk h) fun ks ks' ts us hk h => ?_
    refine RR.bnd (h.want _) fun _ _ ts us _ h => ?_
    exact ⟨sm_of rfl rfl rfl hk rfl, h⟩
  · refine RR.bnd (rr_value (X := exp 40) (X' := exp 40) (exp_ff 40) (fun _ => rfl) (fun hw => by cases hw) true (tail_ff h)) fun v v' ts us hv h => ?_
    refine RR.bnd (h.want _) fun _ _ ts us _ h => ?_
    obtain ⟨h1, h2, h3⟩ := hv
    exact ⟨by rw [h1, h2]; exact sm_of rfl rfl rfl (sms_one h3) rfl, h⟩
theorem rr_declStep (a b : List Tree) (ts us : List Tok) (hab : Sms a b) (h : L false 0 ts us) : OR false 0 Sms (declStep a ts) (declStep b us) := by
  unfold declStep
  refine OR.ite (by rw [isT_ff h, isT_ff h]) (fun _ _ => OR.some ?_) (fun _ _ => OR.none)
  refine RR.ite (by rw [sms_len hab]) (fun _ _ => RR.fail _ _ _) (fun _ _ => ?_)
  exact RR.bnd (rr_decl h) (fun x y ts us hx h => ⟨sms_append hab (sms_one hx), h⟩)
theorem rr_prog {ts us : List Tok} (h : L false 0 ts us) : RR false 0 Sm (prog ts) (prog us) := by
  unfold prog
  refine RR.bnd (RR.reps rr_declStep sms_nil h) fun ks ks' ts us hk h => ?_
  refine RR.bnd (h.want _) fun _ _ ts us _ h => ?_
  refine RR.bnd (exp_ff 40 false _ _ h) fun x y ts us hx h => ?_
  refine RR.ite (by rw [kind_ff h]) (fun _ _ => ?_) (fun _ _ => RR.fail _ _ _)
  exact ⟨sm_of rfl rfl rfl (sms_append hk (sms_one hx)) rfl, h⟩

open Go.Proofs.YtlcapkgbbgpdmaaGreatDoor.DP Go.Proofs.YtlcapkgbbgpdmaaGreatDoor.LB
/-- Two answers: alike nodes, the same error. -/
def Alk (a b : Tree × Nat × Nat) : Prop := Sm a.1 b.1 ∧ a.2.2 = b.2.2
theorem told_alk {r r' : GR.R Tree} (h : RR false 0 Sm r r') : Alk (told r) (told r') := by
  match r, r' with
  | .ok (a, ts), .ok (b, us) => exact ⟨h.1, rfl⟩
  | .error e, .error f =>
    have h : false = true ∨ e.2 = f.2 := h
    rcases h with h | h
    · cases h
    · exact ⟨by unfold told; exact sm_node sms_nil, h⟩
  | .error e, .ok (b, us) => cases h
/-- A source that has tokens, and the same with each token on its own line. -/
theorem gparsed_lines {s : List UInt8} {ts : List Tok} (h : RL s 0 = .ok ts) (hs : s.length ≤ 400) : (lines s ts).length ≤ 801 ∧ Alk (gparsed s) (gparsed (lines s ts)) := by
  obtain ⟨us, h1, h2⟩ := lines_all h
  have hlen : (lines s ts).length ≤ 801 := by
    cases ts with
    | nil => simp [lines]
    | cons t ts =>
      obtain ⟨g1, g2, _⟩ := gap _ _ _ t ts (Nat.le_refl _) h
      rw [Nat.sub_zero] at g1 g2
      have e := lines_len ts t g2 g1
      have e2 := TL.toks_len h
      simp only [List.length_cons] at e2
      omega
  refine ⟨hlen, ?_⟩
  unfold gparsed
  rw [DQ.toks_of (by omega) h, DQ.toks_of (by omega) h1]
  exact told_alk (rr_prog h2)

-- brackets around an exp
def ahead4 : List UInt8 := [100, 111, 32, 40]
theorem l_refl {w : Bool} : ∀ ts : List Tok, L w 0 ts ts
  | [] => .nil fun _ => rfl
  | t :: ts => .cons ⟨rfl, rfl, rfl⟩ (l_refl ts)
theorem rl_do4 (r : List UInt8) : RL (ahead4 ++ r) 0 = glue [⟨6, wDo, 0, 0⟩, ⟨5, [40], 0, 3⟩] (RL r 4) := by
  show RL (ahead3 ++ (40 :: r)) 0 = _
  rw [DQ.rl_do, rl_40, glue_glue]; rfl
theorem glue_ok {a ts : List Tok} {r : Except (Nat × Nat) (List Tok)} (h : glue a r = .ok ts) : ∃ us, r = .ok us ∧ ts = a ++ us := by
  cases r with
  | ok us => injection h with h; exact ⟨us, rfl, h.symm⟩
  | error e => cases h
end Go.Proofs.YtlcapkgbbgpdmaaGreatDoor.LC

/- Brackets around an exp change nothing but places, plainly. Nothing of the program is in sight. -/
namespace Go.Proofs.YtlcapkgbbgpdmaaGreatDoor.LD
open Go.Proofs.YtlcapkgbbgpdmaaGreatDoor.TK Go.Proofs.YtlcapkgbbgpdmaaGreatDoor.TJ Go.Proofs.YtlcapkgbbgpdmaaGreatDoor.TL Go.Proofs.YtlcapkgbbgpdmaaGreatDoor.GR Go.Proofs.YtlcapkgbbgpdmaaGreatDoor.GL Go.Proofs.YtlcapkgbbgpdmaaGreatDoor.MB Go.Proofs.YtlcapkgbbgpdmaaGreatDoor.DP Go.Proofs.YtlcapkgbbgpdmaaGreatDoor.LB Go.Proofs.YtlcapkgbbgpdmaaGreatDoor.LC Go.Proofs.YtlcapkgbbgpdmaaGreatDoor.DQ
set_option linter.unusedVariables false
set_option maxRecDepth 100000

/-- A text that has tokens, with a line's end and more behind it. -/
theorem ext : ∀ (n : Nat) (l : List UInt8) (i : Nat) (ts : List Tok), l.length ≤ n → RL l i = .ok ts → ∃ pre e, ts = pre ++ [e] ∧ e.k = 0 ∧ ∀ z j, ∃ vs, RL (l ++ 10 :: z) j = glue vs (RL z (j + l.length + 1)) ∧ L false 0 pre vs
  | n, [], i, ts, hn, h => by
    have e : RL [] i = .ok [⟨0, [], 0, i⟩] := rfl
    rw [e] at h
    injection h with h
    refine ⟨[], ⟨0, [], 0, i⟩, h.symm, rfl, fun z j => ⟨[], ?_, .nil fun _ => rfl⟩⟩
    show RL (10 :: z) j = _
    rw [rl_blank z j (by decide)]
    show RL z (j + 1) = glue [] (RL z (j + 1))
    cases RL z (j + 1) <;> rfl
  | 0, c :: r, i, ts, hn, h => by simp at hn
  | n + 1, c :: r, i, ts, hn, h => by
    simp only [List.length_cons] at hn
    by_cases hb : bl c = true
    · rw [rl_blank r i hb] at h
      obtain ⟨pre, e, h1, h2, h3⟩ := ext n r (i + 1) ts (by omega) h
      refine ⟨pre, e, h1, h2, fun z j => ?_⟩
      obtain ⟨vs, h4, h5⟩ := h3 z (j + 1)
      refine ⟨vs, ?_, h5⟩
      show RL (c :: (r ++ 10 :: z)) j = _
      rw [rl_blank _ j hb, h4, List.length_cons, show j + 1 + r.length + 1 = j + (r.length + 1) + 1 by omega]
    · have hb : bl c = false := by simpa using hb
      by_cases h35 : c = 35
      · subst h35
        rw [rl_rem] at h
        have hd := dropWhile_le nb r
        have htd := take_drop_len nb r
        obtain ⟨pre, e, h1, h2, h3⟩ := ext n (r.dropWhile nb) _ ts (by omega) h
        refine ⟨pre, e, h1, h2, fun z j => ?_⟩
        obtain ⟨vs, h4, h5⟩ := h3 z (j + (1 + (r.takeWhile nb).length))
        refine ⟨vs, ?_, h5⟩
        have hD : ∀ d, (r.dropWhile nb ++ 10 :: z).head? = some d → d = 10 := fun d hd => by
          cases hx : r.dropWhile nb with
          | nil => rw [hx] at hd; simpa using hd.symm
          | cons e D => rw [hx] at hd; simp at hd; subst hd; exact dw_head r e (by rw [hx]; rfl)
        obtain ⟨e1, e2⟩ := dw_stop hD (W := r.takeWhile nb) (tw_all nb r)
        rw [← List.append_assoc, tw_dw] at e1 e2
        rw [List.cons_append, rl_rem, e1, e2, h4, List.length_cons, show j + (1 + (r.takeWhile nb).length) + (r.dropWhile nb).length + 1 = j + (r.length + 1) + 1 by omega]
      · have h' : run ((r.length + 1) + 1) (c :: r) i = .ok ts := h
        rw [run_cons, if_neg (by rw [hb]; decide), if_neg h35] at h'
        by_cases he : (tk (c :: r)).2.2 = 0
        case neg => rw [if_neg he] at h'; cases h'
        rw [if_pos he] at h'
        obtain ⟨X, hX⟩ : ∃ X, tk (c :: r) = X := ⟨_, rfl⟩
        obtain ⟨x, m, e⟩ := X
        rw [hX] at h' he
        simp only at h' he
        subst he
        have T := fun y hy => tk_take hX y hy
        have hm := (T [] (fun d hd => by simp at hd)).2
        obtain ⟨m', rfl⟩ : ∃ m', m = m' + 1 := ⟨m - 1, by omega⟩
        simp only [Nat.add_sub_cancel] at h'
        cases hr : run (r.length + 1) (r.drop m') (i + (m' + 1)) with
        | error d => rw [hr] at h'; cases h'
        | ok us =>
          rw [hr] at h'
          injection h' with h'
          have hr2 : RL (r.drop m') (i + (m' + 1)) = .ok us := by
            rw [← hr]; exact run_fuel _ _ _ _ (by omega) (by simp; omega)
          have hml : m' ≤ r.length := by have := hm.2; simp at this; omega
          have hlr : (r.drop m').length = r.length - m' := by simp
          obtain ⟨pre, e, h1, h2, h3⟩ := ext n (r.drop m') _ us (by omega) hr2
          refine ⟨⟨x.1, x.2.1, x.2.2, i⟩ :: pre, e, by rw [← h', h1]; rfl, h2, fun z j => ?_⟩
          obtain ⟨vs, h4, h5⟩ := h3 z (j + (m' + 1))
          refine ⟨⟨x.1, x.2.1, x.2.2, j⟩ :: vs, ?_, .cons ⟨rfl, rfl, rfl⟩ h5⟩
          have e2 := (T (r.drop m' ++ 10 :: z) (fun d hd => by
            cases hx : r.drop m' with
            | nil => left; rw [hx] at hd; simpa using hd.symm
            | cons b D =>
              right
              rw [hx] at hd
              show (r.drop m').head? = some d
              rw [hx]
              simpa using hd)).1
          have e3 : (c :: r).take (m' + 1) ++ (r.drop m' ++ 10 :: z) = c :: (r ++ 10 :: z) := by
            show c :: (r.take m' ++ (r.drop m' ++ 10 :: z)) = _
            rw [← List.append_assoc, List.take_append_drop]
          rw [e3] at e2
          show RL (c :: (r ++ 10 :: z)) j = _
          rw [rl_tok j (k := x.1) (x := x.2.1) (n := x.2.2) (m := m' + 1) hb h35 e2 (by omega)]
          have e4 : (c :: (r ++ 10 :: z)).drop (m' + 1) = r.drop m' ++ 10 :: z := by
            rw [List.drop_succ_cons, List.drop_append_of_le_length hml]
          rw [e4, h4, glue_glue, hlr, List.length_cons, show j + (m' + 1) + (r.length - m') + 1 = j + (r.length + 1) + 1 by omega]
          rfl

-- nodes that are the same
mutual
theorem same_trans : ∀ (a b c : Tree), same a b = true → same b c = true → same a c = true
  | .node k t ns ks n p, .node k' t' ns' ks' n' p', .node k2 t2 ns2 ks2 n2 p2, h1, h2 => by
    simp only [same, Bool.and_eq_true, decide_eq_true_eq] at h1 h2 ⊢
    exact ⟨h1.1.trans h2.1, h1.2.1.trans h2.2.1, h1.2.2.1.trans h2.2.2.1, h1.2.2.2.1.trans h2.2.2.2.1, sames_trans ks ks' ks2 h1.2.2.2.2 h2.2.2.2.2⟩
theorem sames_trans : ∀ (a b c : List Tree), sames a b = true → sames b c = true → sames a c = true
  | [], [], [], _, _ => rfl
  | a :: az, b :: bs, c :: cs, h1, h2 => by
    simp only [sames, Bool.and_eq_true] at h1 h2 ⊢
    exact ⟨same_trans a b c h1.1 h2.1, sames_trans az bs cs h1.2 h2.2⟩
  | [], [], _ :: _, _, h => by simp [sames] at h
  | [], _ :: _, _, h, _ => by simp [sames] at h
  | _ :: _, [], _, h, _ => by simp [sames] at h
  | _ :: _, _ :: _, [], _, h => by simp [sames] at h
end
mutual
theorem same_symm : ∀ (a b : Tree), same a b = true → same b a = true
  | .node k t ns ks n p, .node k' t' ns' ks' n' p', h1 => by
    simp only [same, Bool.and_eq_true, decide_eq_true_eq] at h1 ⊢
    exact ⟨h1.1.symm, h1.2.1.symm, h1.2.2.1.symm, h1.2.2.2.1.symm, sames_symm ks ks' h1.2.2.2.2⟩
theorem sames_symm : ∀ (a b : List Tree), sames a b = true → sames b a = true
  | [], [], _ => rfl
  | a :: az, b :: bs, h1 => by
    simp only [sames, Bool.and_eq_true] at h1 ⊢
    exact ⟨same_symm a b h1.1, sames_symm az bs h1.2⟩
  | [], _ :: _, h => by simp [sames] at h
  | _ :: _, [], h => by simp [sames] at h
end

theorem prog_do {T : List Tok} : prog (⟨6, wDo, 0, 0⟩ :: T) = bnd (exp 40 false T) fun x r => if (hd r).k = 0 then .ok (.node 30 [] [] [x] 0 0, r) else fail 14 r := by
  unfold prog
  rw [reps_none (by unfold declStep; rw [isT_ct (s := wType) (by decide), isT_ct (s := wLet) (by decide)]; rfl), bnd_ok, want_yes rfl, bnd_ok]
  rfl
theorem told_ok {ts : List Tok} (hE : MU.Ed ts) (h : (told (prog ts)).2.2 = 0) : ∃ t r, prog ts = .ok (t, r) := by
  have hs := MA.sim_prog hE
  cases hp : prog ts with
  | ok a => exact ⟨a.1, a.2, rfl⟩
  | error d =>
    rw [hp] at hs h
    have h : d.2 = 0 := h
    exact absurd (hs.2.1.trans h) hs.1.e
/-- What a source of one exp is. -/
theorem g_do {l : List UInt8} {T : List Tok} (hl : l.length ≤ 2000) (h : RL l 0 = .ok (⟨6, wDo, 0, 0⟩ :: T)) (he : (gparsed l).2.2 = 0) : ∃ x r, exp 40 false T = .ok (x, r) ∧ (hd r).k = 0 ∧ gparsed l = (.node 30 [] [] [x] 0 0, 0, 0) ∧ MU.Ed T := by
  have hE : MU.Ed (⟨6, wDo, 0, 0⟩ :: T) := ed_run h
  have hET : MU.Ed T := hE.tail (by show ¬ (6 : Nat) = 0; decide)
  unfold gparsed at he ⊢
  rw [toks_of hl h, if_pos rfl] at he ⊢
  obtain ⟨t, r, hp⟩ := told_ok hE he
  have hp' := hp
  rw [prog_do] at hp
  cases hx : exp 40 false T with
  | error d => rw [hx, bnd_err] at hp; cases hp
  | ok a =>
    obtain ⟨x, r'⟩ := a
    rw [hx, bnd_ok] at hp
    by_cases hk : (hd r').k = 0
    · rw [if_pos hk] at hp
      injection hp with hp
      injection hp with h1 h2
      subst h1; subst h2
      exact ⟨x, r', rfl, hk, by rw [hp']; rfl, hET⟩
    · rw [if_neg hk] at hp; cases hp
theorem l_rows {pre vs : List Tok} {e b c : Tok} (h : L false 0 pre vs) (he : e.k = 0) (hb : b.k = 5) (ht : b.t = [41]) : L true 1 (pre ++ [e]) (vs ++ [b, c]) := by
  induction h with
  | nil _ => exact .stop rfl he hb ht rfl
  | cons h1 _ ih => exact .cons h1 ih
  | stop hw _ _ _ _ => cases hw
theorem calls_no41 : ∀ c ∈ calls, [41] ≠ c.1 := by decide
theorem exp_41 {g : Nat} {f : Bool} {ts : List Tok} (h : isT [41] ts = true) : ∃ e, exp (g + 1) f ts = .error e := by
  have hk := MY.is_k56 h
  refine ⟨((hd ts).p, 14), up_err (X := exp g) (Y := pat g) ⟨MY.is_other _ h (by decide), MY.is_other _ h (by decide), MY.is_other _ h (by decide), callOf_no fun c hc => MY.is_other _ h (calls_no41 c hc), by omega⟩ ?_⟩
  unfold atom
  rw [if_neg (by omega), if_neg (by omega), if_neg (by omega), if_neg (by omega), MY.is_other wRetry h (by decide), if_neg (by decide), MY.is_other [40] h (by decide), if_neg (by decide), MY.is_other wTry h (by decide), if_neg (by decide), MY.is_other wMatch h (by decide), if_neg (by decide)]
  rfl
/-- Brackets around an exp. -/
theorem brackets {s : List UInt8} (hs : s.length ≤ 300) (ha : (gparsed (ahead3 ++ s)).2.2 = 0) (hb : (gparsed (ahead4 ++ (s ++ [10, 41]))).2.2 = 0) :
    same (gparsed (ahead3 ++ s)).1 (gparsed (ahead4 ++ (s ++ [10, 41]))).1 = true := by
  have hla : (ahead3 ++ s).length ≤ 2000 := by rw [List.length_append]; show 3 + s.length ≤ 2000; omega
  have hlb : (ahead4 ++ (s ++ [10, 41])).length ≤ 2000 := by rw [List.length_append, List.length_append]; show 4 + (s.length + 2) ≤ 2000; omega
  have hta : (toks (ahead3 ++ s)).2.2 = 0 := by
    by_cases h : (toks (ahead3 ++ s)).2.2 = 0
    · exact h
    · unfold gparsed at ha; rw [if_neg h] at ha; exact ha
  obtain ⟨ts, _, _, hra⟩ := toks_ok hta
  have hra : RL (ahead3 ++ s) 0 = .ok ts := hra
  rw [rl_do] at hra
  obtain ⟨S, hS, rfl⟩ := glue_ok hra
  obtain ⟨pre, e, rfl, hek, hext⟩ := ext _ s 3 S (Nat.le_refl _) hS
  obtain ⟨vs, hvs, hal⟩ := hext [41] 4
  have hrb : RL (ahead4 ++ (s ++ [10, 41])) 0 = .ok (⟨6, wDo, 0, 0⟩ :: ⟨5, [40], 0, 3⟩ :: (vs ++ [⟨5, [41], 0, 4 + s.length + 1⟩, ⟨0, [], 0, 4 + s.length + 1 + 1⟩])) := by
    rw [rl_do4]
    show glue _ (RL (s ++ 10 :: [41]) 4) = _
    rw [hvs, rl_41]
    rfl
  have hra2 : RL (ahead3 ++ s) 0 = .ok (⟨6, wDo, 0, 0⟩ :: (pre ++ [e])) := by rw [rl_do, hS]; rfl
  obtain ⟨x, r, hx, hrk, hga, hEa⟩ := g_do hla hra2 ha
  obtain ⟨y, r2, hy, hr2k, hgb, hEb⟩ := g_do hlb hrb hb
  have hEb2 : MU.Ed (vs ++ [⟨5, [41], 0, 4 + s.length + 1⟩, ⟨0, [], 0, 4 + s.length + 1 + 1⟩]) := hEb.tail (by show ¬ (5 : Nat) = 0; decide)
  have hrow := l_rows (e := e) (b := ⟨5, [41], 0, 4 + s.length + 1⟩) (c := ⟨0, [], 0, 4 + s.length + 1 + 1⟩) hal hek rfl rfl
  obtain ⟨row2, hrow2⟩ : ∃ R, vs ++ [⟨5, [41], 0, 4 + s.length + 1⟩, ⟨0, [], 0, 4 + s.length + 1 + 1⟩] = R := ⟨_, rfl⟩
  rw [hrow2] at hrow hEb2 hy
  -- the first row's answer, on the second row
  have H1 := rr_exp (w := true) 40 40 (Nat.le_refl _) (fun _ => rfl) false _ _ hrow
  rw [hx] at H1
  cases hx1 : exp 40 false row2 with
  | error d => rw [hx1] at H1; exact H1.elim
  | ok a1 =>
    obtain ⟨x1, r1⟩ := a1
    rw [hx1] at H1
    obtain ⟨hsm, hL1⟩ := H1
    have hEr : MU.Ed r := by
      have := (MA.sim_lev 40).x true _ hEa
      rw [show (!true) = false from rfl, hx] at this
      exact this.2
    have hr1 : ∃ b bs, r1 = b :: bs ∧ bs.length = 1 := by
      match r, hEr, hrk, hL1 with
      | [q], _, _, .stop _ _ _ _ hD => exact ⟨_, _, rfl, hD⟩
      | [q], _, _, .cons _ (.nil h0) => exact absurd (h0 rfl) (by decide)
      | q :: q2 :: qs, hE, hk, _ => exact absurd hk hE.1
    -- one deeper
    have hne : isT [41] row2 = false := by
      cases hi : isT [41] row2 with
      | false => rfl
      | true =>
        obtain ⟨e1, he1⟩ := exp_41 (g := 39) (f := false) hi
        rw [hx1] at he1; cases he1
    have hat : At1 (⟨5, [40], 0, 3⟩ :: row2) := at_40
    cases hx2 : exp 39 false row2 with
    | error d =>
      have : exp 40 false (⟨5, [40], 0, 3⟩ :: row2) = .error d := up_err (X := exp 39) (Y := pat 39) hat (by rw [atom_40 hne, hx2, bnd_err])
      rw [hy] at this; cases this
    | ok a2 =>
      obtain ⟨x2, r'⟩ := a2
      cases hw : isT [41] r' with
      | false =>
        have : exp 40 false (⟨5, [40], 0, 3⟩ :: row2) = .error ((hd r').p, 14) := up_err (X := exp 39) (Y := pat 39) hat (by
          rw [atom_40 hne, hx2, bnd_ok]
          unfold want
          rw [hw, if_neg (by decide)]
          rfl)
        rw [hy] at this; cases this
      | true =>
        have H2 := rr_exp (w := true) 39 40 (by decide) (fun h => by cases h) false _ _ (l_refl (w := true) row2)
        rw [hx2, hx1] at H2
        obtain ⟨hsm2, hL2⟩ := H2
        obtain ⟨b, bs, rfl, hbs⟩ := hr1
        have hEr' : MU.Ed r' := by
          have := (MA.sim_lev 39).x true _ hEb2
          rw [show (!true) = false from rfl, hx2] at this
          exact this.2
        have hc : ∃ a c, r' = [a, c] ∧ c.k = 0 := by
          match r', hL2, hEr', hw with
          | a :: az, .cons _ hB, hE, _ =>
            have hl := hB.len.1
            match az, hB, hE, hl with
            | [], .nil _, _, _ => simp at hbs
            | [c], _, hE, _ => exact ⟨a, c, rfl, hE.2⟩
            | c :: c2 :: cs, _, _, hl => simp at hl; omega
          | [a], .stop _ hk _ _ _, _, hw => exact absurd (isT_k hw) (fun h => h hk)
        obtain ⟨a, c, rfl, hck⟩ := hc
        have : exp 40 false (⟨5, [40], 0, 3⟩ :: row2) = .ok (x2, [c]) := up (X := exp 39) (Y := pat 39) hat (by
          rw [atom_40 hne, hx2, bnd_ok, want_yes hw, bnd_ok]
          rfl) (Or.inl hck)
        rw [hy] at this
        injection this with this
        injection this with h1 _
        subst h1
        rw [hga, hgb]
        exact sm_node (sms_one (same_trans _ _ _ hsm (same_symm _ _ hsm2)))
end Go.Proofs.YtlcapkgbbgpdmaaGreatDoor.LD

/- How many nodes a tree has, by its tokens. Nothing of the program is in sight. -/
namespace Go.Proofs.YtlcapkgbbgpdmaaGreatDoor.RZ
open Go.Proofs.YtlcapkgbbgpdmaaGreatDoor.TK Go.Proofs.YtlcapkgbbgpdmaaGreatDoor.TL Go.Proofs.YtlcapkgbbgpdmaaGreatDoor.GR Go.Proofs.YtlcapkgbbgpdmaaGreatDoor.MB
set_option linter.unusedVariables false
set_option maxRecDepth 100000

mutual
/-- Nodes and names. -/
def tsize : Tree → Nat
  | .node _ _ ns ks _ _ => 1 + ns.length + tsizes ks
def tsizes : List Tree → Nat
  | [] => 0
  | t :: ts => tsize t + tsizes ts
end
theorem tsizes_append : ∀ (a b : List Tree), tsizes (a ++ b) = tsizes a + tsizes b
  | [], b => by simp [tsizes]
  | t :: ts, b => by rw [List.cons_append]; simp only [tsizes]; rw [tsizes_append ts b]; omega
theorem tsize_pos (t : Tree) : 1 ≤ tsize t := by cases t; simp only [tsize]; omega
theorem tsizes_len : ∀ ts : List Tree, ts.length ≤ tsizes ts
  | [] => Nat.le_refl _
  | t :: ts => by simp only [tsizes, List.length_cons]; have := tsize_pos t; have := tsizes_len ts; omega
theorem more_size (n t : Tree) : tsize (n.more t) = tsize n + tsize t := by
  cases n with
  | node k x ns ks m p =>
    show tsize (.node k x ns (ks ++ [t]) m p) = _
    simp only [tsize, tsizes_append, tsizes]; omega
theorem size_mk (k : Nat) (x : By) (ns : List By) (ks : List Tree) (n p : Nat) : tsize (.node k x ns ks n p) = 1 + ns.length + tsizes ks := by simp only [tsize]
theorem kids_size (t : Tree) : tsize t = 1 + t.names.length + tsizes t.kids := by cases t; simp only [tsize, Tree.names, Tree.kids]
theorem kid_size : ∀ (ts : List Tree) (i : Nat) (h : i < ts.length), tsize ts[i] ≤ tsizes ts
  | t :: ts, 0, h => by simp only [tsizes, List.getElem_cons_zero]; omega
  | t :: ts, i + 1, h => by
    have := kid_size ts i (by simpa using h)
    simp only [tsizes, List.getElem_cons_succ]; omega
  | [], _, h => absurd h (by simp)

/-- What comes of it has so much, with the tokens behind it. -/
def Z {α : Type} (m : α → Nat) (b : Nat) (r : GR.R α) : Prop := ∀ a us, r = .ok (a, us) → m a + 2 * us.length ≤ b
variable {α β : Type} {m : α → Nat} {m' : β → Nat}
theorem Z.ok {b : Nat} {a : α} {us : List Tok} (h : m a + 2 * us.length ≤ b) : Z m b (.ok (a, us)) := by
  intro a' us' e; injection e with e; injection e with e1 e2; subst e1; subst e2; exact h
theorem Z.error {b : Nat} (e : Nat × Nat) : Z m b (.error e) := by intro a us h; cases h
theorem Z.fail {b : Nat} (e : Nat) (ts : List Tok) : Z m b (fail e ts) := Z.error _
theorem Z.bnd {b c : Nat} {r : GR.R α} {f : α → List Tok → GR.R β} (h : Z m c r) (hf : ∀ a us, m a + 2 * us.length ≤ c → Z m' b (f a us)) : Z m' b (bnd r f) := by
  cases r with
  | error e => exact Z.error e
  | ok a => exact hf a.1 a.2 (h a.1 a.2 rfl)
theorem Z.ite {b : Nat} {c : Prop} [Decidable c] {x y : GR.R α} (h1 : c → Z m b x) (h2 : ¬c → Z m b y) : Z m b (if c then x else y) := by
  by_cases h : c
  · rw [if_pos h]; exact h1 h
  · rw [if_neg h]; exact h2 h
theorem Z.mono {b c : Nat} {r : GR.R α} (h : Z m b r) (hb : b ≤ c) : Z m c r := fun a us e => Nat.le_trans (h a us e) hb
theorem Z.rep {f : α → List Tok → Option (GR.R α)} (hf : ∀ a ts r, f a ts = some r → Z m (m a + 2 * ts.length) r) : ∀ (n : Nat) (a : α) (ts : List Tok), Z m (m a + 2 * ts.length) (rep f n a ts)
  | 0, a, ts => Z.error _
  | n + 1, a, ts => by
    unfold GR.rep
    cases h : f a ts with
    | none => exact Z.ok (Nat.le_refl _)
    | some r => exact Z.bnd (hf a ts r h) (fun a' us hus => (Z.rep hf n a' us).mono hus)
theorem Z.reps {f : α → List Tok → Option (GR.R α)} (hf : ∀ a ts r, f a ts = some r → Z m (m a + 2 * ts.length) r) (a : α) (ts : List Tok) : Z m (m a + 2 * ts.length) (reps f a ts) := Z.rep hf _ a ts
theorem tl_len {ts : List Tok} (h : (hd ts).k ≠ 0) : ts.tail.length + 1 = ts.length := by
  cases ts with
  | nil => exact absurd rfl h
  | cons a r => simp
theorem is_len {s : By} {ts : List Tok} (h : isT s ts = true) : ts.tail.length + 1 = ts.length := tl_len (MS.is_k (s := ⟨ts, 0, 0⟩) (w := s) h)
abbrev mu (u : Unit) : Nat := 2
theorem z_want (s : By) (ts : List Tok) : Z mu (2 * ts.length) (want s ts) :=
  Z.ite (fun h => Z.ok (by have := is_len h; show 2 + 2 * ts.tail.length ≤ _; omega)) (fun _ => Z.fail _ _)
theorem z_txt {k : Nat} (hk : k ≠ 0) (ts : List Tok) : Z (fun _ => 2) (2 * ts.length) (txt k ts) :=
  Z.ite (fun h => Z.ok (by have := tl_len (ts := ts) (by omega); show 2 + 2 * ts.tail.length ≤ _; omega)) (fun _ => Z.fail _ _)
/-- A tree, and one more. -/
abbrev mt (t : Tree) : Nat := tsize t + 1
theorem z_leaf {k : Nat} {ts : List Tok} (h : (hd ts).k ≠ 0) : Z mt (2 * ts.length) (leaf k ts) :=
  Z.ok (by have := tl_len h; show tsize _ + 1 + 2 * ts.tail.length ≤ _; simp only [tsize, tsizes, List.length_nil]; omega)

-- types
theorem z_tyStep {T : List Tok → GR.R Tree} (hT : ∀ ts, Z mt (2 * ts.length) (T ts)) (ks : List Tree) (ts : List Tok) (r : GR.R (List Tree)) (h : tyStep T ks ts = some r) : Z tsizes (tsizes ks + 2 * ts.length) r := by
  unfold tyStep at h
  by_cases h3 : (hd ts).k = 3
  · rw [if_pos h3] at h
    injection h with h; subst h
    have := tl_len (ts := ts) (by omega)
    exact Z.ok (by rw [tsizes_append]; simp only [tsize, tsizes, List.length_nil]; omega)
  · rw [if_neg h3] at h
    by_cases h4 : isT [40] ts = true
    · rw [if_pos h4] at h
      injection h with h; subst h
      have := is_len h4
      refine Z.bnd (hT _) fun t us hu => Z.bnd (z_want _ _) fun _ vs hv => Z.ok ?_
      rw [tsizes_append]; simp only [tsizes, mt, mu] at *; omega
    · rw [if_neg h4] at h; cases h
theorem z_tyapp : ∀ g ts, Z mt (2 * ts.length) (tyapp g ts)
  | 0, ts => Z.fail _ _
  | g + 1, ts => Z.bnd (z_txt (by decide) ts) fun s r hr => Z.bnd (Z.reps (z_tyStep (z_tyapp g)) [] r) fun ks us hu => Z.ok (by
      simp only [mt, tsize, tsizes, List.length_nil] at *; omega)
theorem z_conPart (ks : List Tree) (ts : List Tok) : Z tsizes (tsizes ks + 2 * ts.length) (conPart ks ts) :=
  Z.ite (fun _ => Z.fail _ _) fun _ => Z.bnd (z_tyapp 40 ts) fun t us hu => Z.ok (by rw [tsizes_append]; simp only [tsizes, mt] at *; omega)
theorem z_conStep (ks : List Tree) (ts : List Tok) (r : GR.R (List Tree)) (h : conStep ks ts = some r) : Z tsizes (tsizes ks + 2 * ts.length) r := by
  unfold conStep at h
  by_cases h4 : isT [44] ts = true
  · rw [if_pos h4] at h
    injection h with h; subst h
    have := is_len h4
    exact (z_conPart ks ts.tail).mono (by omega)
  · rw [if_neg h4] at h; cases h
theorem z_con (ts : List Tok) : Z mt (2 * ts.length) (con ts) := by
  refine Z.bnd (z_txt (by decide) ts) fun s r hr => ?_
  refine Z.ite (fun h => ?_) (fun _ => Z.ok (by simp only [mt, tsize, tsizes, List.length_nil] at *; omega))
  have := is_len h
  refine Z.bnd (z_conPart [] r.tail) fun ks us hu => Z.bnd (Z.reps z_conStep ks us) fun ks vs hv => Z.ok ?_
  simp only [mt, tsize, tsizes, List.length_nil] at *; omega

-- patterns
theorem z_patom {Y : List Tok → GR.R Tree} (hY : ∀ ts, Z mt (2 * ts.length) (Y ts)) (ts : List Tok) : Z mt (2 * ts.length) (patom Y ts) := by
  unfold patom
  refine Z.ite (fun h => z_leaf (by omega)) fun _ => Z.ite (fun h => z_leaf (by omega)) fun _ => Z.ite (fun h => z_leaf (by omega)) fun _ => Z.ite (fun h => ?_) fun _ => Z.ite (fun h => ?_) fun _ => Z.fail _ _
  · have := is_len h
    exact Z.ok (by simp only [mt, tsize, tsizes, List.length_nil] at *; omega)
  · have := is_len h
    exact Z.bnd (hY _) fun t us hu => Z.bnd (z_want _ _) fun _ vs hv => Z.ok (by simp only [mt, mu] at *; omega)
theorem z_more {W : List Tok → GR.R Tree} (hW : ∀ ts, Z mt (2 * ts.length) (W ts)) (n : Tree) (ts : List Tok) : Z tsize (tsize n + 2 * ts.length) (if n.kids.length = 4 then fail 16 ts else bnd (W ts) fun t r => .ok (n.more t, r)) :=
  Z.ite (fun _ => Z.fail _ _) fun _ => Z.bnd (hW ts) fun t us hu => Z.ok (by rw [more_size]; simp only [mt] at *; omega)
theorem z_patStep {Y : List Tok → GR.R Tree} (hY : ∀ ts, Z mt (2 * ts.length) (Y ts)) (n : Tree) (ts : List Tok) (r : GR.R Tree) (h : patStep Y n ts = some r) : Z tsize (tsize n + 2 * ts.length) r := by
  unfold patStep at h
  by_cases h4 : patBegins ts = true
  · rw [if_pos h4] at h
    injection h with h; subst h
    exact z_more (z_patom hY) n ts
  · rw [if_neg h4] at h; cases h
theorem z_pat : ∀ g ts, Z mt (2 * ts.length) (pat g ts)
  | 0, ts => Z.fail _ _
  | g + 1, ts => Z.bnd (z_patom (z_pat g) ts) fun n r hr => Z.ite (fun _ => fun a us e => by
      have := Z.reps (z_patStep (z_pat g)) n r a us e
      simp only [mt] at *; omega) (fun _ => Z.ok hr)

-- exps
section
variable {X : Bool → List Tok → GR.R Tree} {Y : List Tok → GR.R Tree} (hX : ∀ f ts, Z mt (2 * ts.length) (X f ts)) (hY : ∀ ts, Z mt (2 * ts.length) (Y ts))
include hX hY
theorem z_row (ks : List Tree) (ts : List Tok) : Z tsizes (tsizes ks + 2 * ts.length) (row X Y ks ts) :=
  Z.ite (fun _ => Z.fail _ _) fun _ => Z.bnd (z_want _ _) fun _ r hr => Z.bnd (hY r) fun p r hp => Z.bnd (z_want _ _) fun _ r hw => Z.bnd (hX false r) fun b us hb => Z.ok (by
    rw [tsizes_append, tsizes_append]; simp only [tsizes, mt, mu] at *; omega)
theorem z_rowStep (ks : List Tree) (ts : List Tok) (r : GR.R (List Tree)) (h : rowStep X Y ks ts = some r) : Z tsizes (tsizes ks + 2 * ts.length) r := by
  unfold rowStep at h
  by_cases h4 : isT [124] ts = true
  · rw [if_pos h4] at h
    injection h with h; subst h
    exact z_row hX hY ks ts
  · rw [if_neg h4] at h; cases h
theorem z_atom (ts : List Tok) : Z mt (2 * ts.length) (atom X Y ts) := by
  unfold atom
  refine Z.ite (fun h => z_leaf (by omega)) fun _ => Z.ite (fun h => z_leaf (by omega)) fun _ => Z.ite (fun h => z_leaf (by omega)) fun _ => Z.ite (fun h => z_leaf (by omega)) fun _ => Z.ite (fun h => ?_) fun _ => Z.ite (fun h => ?_) fun _ => Z.ite (fun h => ?_) fun _ => Z.ite (fun h => ?_) fun _ => Z.fail _ _
  · have := is_len h
    exact Z.ok (by simp only [mt, tsize, tsizes, List.length_nil] at *; omega)
  · have := is_len h
    refine Z.ite (fun h2 => ?_) fun _ => ?_
    · have := is_len h2
      exact Z.ok (by simp only [mt, tsize, tsizes, List.length_nil] at *; omega)
    · exact Z.bnd (hX _ _) fun t us hu => Z.bnd (z_want _ _) fun _ vs hv => Z.ok (by simp only [mt, mu] at *; omega)
  · have := is_len h
    exact Z.bnd (hX _ _) fun b r hb => Z.bnd (z_want _ _) fun _ r hw => Z.bnd (z_txt (by decide) r) fun s r hs => Z.bnd (z_want _ _) fun _ r hw2 => Z.bnd (hX _ _) fun c r hc => Z.bnd (z_want _ _) fun _ r hw3 => Z.ok (by
      simp only [mt, mu, tsize, tsizes, List.length_nil] at *; omega)
  · have := is_len h
    exact Z.bnd (hX _ _) fun v r hv => Z.bnd (z_want _ _) fun _ r hw => Z.bnd (z_row hX hY [v] r) fun ks r hk => Z.bnd (Z.reps (z_rowStep hX hY) ks r) fun ks r hk2 => Z.bnd (z_want _ _) fun _ r hw3 => Z.ok (by
      simp only [mt, mu, tsize, tsizes, List.length_nil] at *; omega)
theorem z_callStep (n : Tree) (ts : List Tok) (r : GR.R Tree) (h : callStep X Y n ts = some r) : Z tsize (tsize n + 2 * ts.length) r := by
  unfold callStep at h
  by_cases h4 : begins ts = true
  · rw [if_pos h4] at h
    injection h with h; subst h
    exact Z.bnd (z_atom hX hY ts) fun a us hu => Z.ok (by simp only [mt, tsize, tsizes, List.length_nil] at *; omega)
  · rw [if_neg h4] at h; cases h
theorem z_moreStep (n : Tree) (ts : List Tok) (r : GR.R Tree) (h : moreStep X Y n ts = some r) : Z tsize (tsize n + 2 * ts.length) r := by
  unfold moreStep at h
  by_cases h4 : begins ts = true
  · rw [if_pos h4] at h
    injection h with h; subst h
    exact z_more (z_atom hX hY) n ts
  · rw [if_neg h4] at h; cases h
theorem z_app (ts : List Tok) : Z mt (2 * ts.length) (app X Y ts) := by
  unfold app
  cases hc : callOf ts with
  | some c =>
    have := is_len (MZ.call_mem hc).2
    refine Z.bnd (z_atom hX hY _) fun a r ha => Z.ite (fun _ => Z.bnd (z_atom hX hY r) fun b r hb => Z.ok ?_) fun _ => Z.ok ?_
    · simp only [mt, tsize, tsizes, List.length_nil] at *; omega
    · simp only [mt, tsize, tsizes, List.length_nil] at *; omega
  | none =>
    refine Z.bnd (z_atom hX hY ts) fun n r hn => Z.ite (fun _ => ?_) fun _ => ?_
    · intro a us e
      have := Z.reps (z_moreStep hX hY) n r a us e
      simp only [mt] at *; omega
    · intro a us e
      have := Z.reps (z_callStep hX hY) n r a us e
      simp only [mt] at *; omega
omit hX hY in
theorem z_opStep {l : List By} {W : List Tok → GR.R Tree} (hW : ∀ ts, Z mt (2 * ts.length) (W ts)) (n : Tree) (ts : List Tok) (r : GR.R Tree) (h : opStep l W n ts = some r) : Z tsize (tsize n + 2 * ts.length) r := by
  unfold opStep at h
  cases hf : l.find? (fun s => isT s ts) with
  | none => rw [hf] at h; cases h
  | some s =>
    rw [hf] at h
    injection h with h; subst h
    have hi : isT s ts = true := by simpa using List.find?_some hf
    have := is_len hi
    exact Z.bnd (hW _) fun a us hu => Z.ok (by simp only [mt, tsize, tsizes, List.length_nil] at *; omega)
omit hX hY in
theorem z_ops {l : List By} {W : List Tok → GR.R Tree} (hW : ∀ ts, Z mt (2 * ts.length) (W ts)) (ts : List Tok) : Z mt (2 * ts.length) (bnd (W ts) fun n r => reps (opStep l W) n r) :=
  Z.bnd (hW ts) fun n r hn => fun a us e => by
    have := Z.reps (z_opStep (l := l) hW) n r a us e
    simp only [mt] at *; omega
theorem z_prod (ts : List Tok) : Z mt (2 * ts.length) (prod X Y ts) := z_ops (z_app hX hY) ts
theorem z_sum (ts : List Tok) : Z mt (2 * ts.length) (sum X Y ts) := z_ops (z_prod hX hY) ts
theorem z_cmp (ts : List Tok) : Z mt (2 * ts.length) (cmp X Y ts) :=
  Z.bnd (z_sum hX hY ts) fun n r hn => by
    show Z mt _ (match opStep [[61], [60]] (sum X Y) n r with | some q => q | none => .ok (n, r))
    cases ho : opStep [[61], [60]] (sum X Y) n r with
    | none => exact Z.ok hn
    | some q =>
      intro a us e
      have := z_opStep (z_sum hX hY) n r q ho a us e
      simp only [mt] at *; omega
omit hY in
theorem z_value (room flat : Bool) (ts : List Tok) : Z (fun v => tsize v.2.2 + 5) (2 * ts.length) (value X room flat ts) := by
  have hl : (if isT wRec ts = true then ts.tail else ts).length ≤ ts.length := by split <;> simp
  refine Z.bnd (z_txt (by decide) _) fun s r hr => Z.bnd (z_want _ _) fun _ r hw => Z.ite (fun _ => Z.fail _ _) fun _ => Z.bnd (hX _ _) fun v us hv => Z.ok ?_
  simp only [mt, mu] at *; omega
theorem z_inner (room flat : Bool) (ts : List Tok) : Z mt (2 * ts.length) (inner X Y room flat ts) := by
  unfold inner
  refine Z.ite (fun h => ?_) fun _ => Z.ite (fun h => ?_) fun _ => Z.ite (fun h => ?_) fun _ => ?_
  · have := is_len h
    exact Z.bnd (z_value hX room flat _) fun v r hv => Z.bnd (z_want _ _) fun _ r hw => Z.bnd (hX _ _) fun b us hb => Z.ok (by simp only [mt, mu, tsize, tsizes, List.length_nil] at *; omega)
  · have := is_len h
    exact Z.bnd (z_txt (by decide) _) fun v r hv => Z.bnd (z_want _ _) fun _ r hw => Z.bnd (hX _ _) fun b us hb => Z.ok (by simp only [mt, mu, tsize, tsizes, List.length_nil] at *; omega)
  · have := is_len h
    exact Z.bnd (hX _ _) fun a r ha => Z.bnd (z_want _ _) fun _ r hw => Z.bnd (hX _ _) fun b r hb => Z.bnd (z_want _ _) fun _ r hw2 => Z.bnd (hX _ _) fun c us hc => Z.ok (by simp only [mt, mu, tsize, tsizes, List.length_nil] at *; omega)
  · refine Z.bnd (z_cmp hX hY ts) fun a r ha => Z.ite (fun h => ?_) fun _ => Z.ok ha
    have := is_len h.1
    exact Z.bnd (hX _ _) fun b us hb => Z.ok (by simp only [mt, tsize, tsizes, List.length_nil] at *; omega)
end
theorem z_exp : ∀ g f ts, Z mt (2 * ts.length) (exp g f ts)
  | 0, f, ts => Z.fail _ _
  | g + 1, f, ts => z_inner (z_exp g) (z_pat g) _ f ts

-- declarations
theorem z_nameStep (ns : List By) (ts : List Tok) (r : GR.R (List By)) (h : nameStep ns ts = some r) : Z (fun l => l.length) (ns.length + 2 * ts.length) r := by
  unfold nameStep at h
  by_cases h4 : (hd ts).k = 3
  · rw [if_pos h4] at h
    injection h with h; subst h
    have := tl_len (ts := ts) (by omega)
    exact Z.ite (fun _ => Z.fail _ _) fun _ => Z.ok (by simp; omega)
  · rw [if_neg h4] at h; cases h
theorem z_conMore (ks : List Tree) (ts : List Tok) : Z tsizes (tsizes ks + 2 * ts.length) (conMore ks ts) :=
  Z.ite (fun _ => Z.fail _ _) fun _ => Z.bnd (z_con ts) fun c us hu => Z.ok (by rw [tsizes_append]; simp only [tsizes, mt] at *; omega)
theorem z_barStep (ks : List Tree) (ts : List Tok) (r : GR.R (List Tree)) (h : barStep ks ts = some r) : Z tsizes (tsizes ks + 2 * ts.length) r := by
  unfold barStep at h
  by_cases h4 : isT [124] ts = true
  · rw [if_pos h4] at h
    injection h with h; subst h
    have := is_len h4
    exact (z_conMore ks ts.tail).mono (by omega)
  · rw [if_neg h4] at h; cases h
theorem z_decl (ts : List Tok) (hp : ts.tail.length + 1 = ts.length) : Z mt (2 * ts.length) (decl ts) := by
  unfold decl
  refine Z.ite (fun h => ?_) fun _ => ?_
  · have := is_len h
    exact Z.bnd (z_txt (by decide) _) fun s r hs => Z.bnd (Z.reps z_nameStep [] r) fun ns r hn => Z.bnd (z_want _ _) fun _ r hw => Z.bnd (z_conMore [] r) fun ks r hk => Z.bnd (Z.reps z_barStep ks r) fun ks r hk2 => Z.bnd (z_want _ _) fun _ us hw2 => Z.ok (by
      simp only [mt, mu, tsize, tsizes, List.length_nil] at *; omega)
  · exact Z.bnd (z_value (z_exp 40) true true _) fun v r hv => Z.bnd (z_want _ _) fun _ us hw => Z.ok (by
      simp only [mt, mu, tsize, tsizes, List.length_nil] at *; omega)
theorem z_declStep (ks : List Tree) (ts : List Tok) (r : GR.R (List Tree)) (h : declStep ks ts = some r) : Z tsizes (tsizes ks + 2 * ts.length) r := by
  unfold declStep at h
  by_cases h4 : (isT wType ts || isT wLet ts) = true
  · rw [if_pos h4] at h
    injection h with h; subst h
    have hp : ts.tail.length + 1 = ts.length := by
      cases ht : isT wType ts with
      | true => exact is_len ht
      | false => rw [ht] at h4; exact is_len h4
    refine Z.ite (fun _ => Z.fail _ _) fun _ => ?_
    refine Z.bnd (c := 2 * ts.length) (m := tsize) ?_ fun d us hu => Z.ok (by rw [tsizes_append]; simp only [tsizes] at *; omega)
    intro a us e
    have := z_decl ts hp a us e
    simp only [mt] at *
    omega
  · rw [if_neg h4] at h; cases h
theorem z_prog (ts : List Tok) : Z tsize (2 * ts.length + 1) (prog ts) := by
  unfold prog
  refine Z.bnd (Z.reps z_declStep [] ts) fun ks r hk => Z.bnd (z_want _ _) fun _ r hw => Z.bnd (z_exp 40 false r) fun x r hx => Z.ite (fun _ => Z.ok ?_) fun _ => Z.fail _ _
  rw [size_mk, tsizes_append]; simp only [tsizes, mt, mu, List.length_nil] at *; omega
/-- A source's node has no more nodes and names than this. -/
theorem gparsed_size (l : List UInt8) : tsize (gparsed l).1 ≤ 4003 := by
  unfold gparsed
  by_cases h : (toks l).2.2 = 0
  · rw [if_pos h]
    obtain ⟨ts, h1, h2, h3⟩ := toks_ok h
    have hlen := toks_len h3
    rw [h1]
    cases hp : prog ts with
    | error e => show tsize MP.zero ≤ _; simp only [tsize, tsizes, List.length_nil]; omega
    | ok a =>
      have := z_prog ts a.1 a.2 hp
      show tsize a.1 ≤ _
      omega
  · rw [if_neg h]; show tsize MP.zero ≤ _; simp only [tsize, tsizes, List.length_nil]; omega
end Go.Proofs.YtlcapkgbbgpdmaaGreatDoor.RZ

/- Each node stands at a token, none ahead of the one that it is in, plainly. Nothing of the program is in sight. -/
namespace Go.Proofs.YtlcapkgbbgpdmaaGreatDoor.RP
open Go.Proofs.YtlcapkgbbgpdmaaGreatDoor.TK Go.Proofs.YtlcapkgbbgpdmaaGreatDoor.TL Go.Proofs.YtlcapkgbbgpdmaaGreatDoor.GR Go.Proofs.YtlcapkgbbgpdmaaGreatDoor.MB
set_option linter.unusedVariables false
set_option maxRecDepth 100000

mutual
/-- Does a node, and all in it, stand at one of these places, none ahead of it? -/
def plc (ps : List Nat) : Tree → Bool
  | .node _ _ _ ks _ p => decide (p ∈ ps) && plcs ps p ks
def plcs (ps : List Nat) (lo : Nat) : List Tree → Bool
  | [] => true
  | t :: ts => plc ps t && (decide (lo ≤ t.pl) && plcs ps lo ts)
end
variable {ps : List Nat}
theorem plcs_append : ∀ {lo : Nat} {a b : List Tree}, plcs ps lo a = true → plcs ps lo b = true → plcs ps lo (a ++ b) = true
  | lo, [], b, _, h => h
  | lo, t :: ts, b, h, h2 => by
    simp only [plcs, List.cons_append, Bool.and_eq_true] at h ⊢
    exact ⟨h.1, h.2.1, plcs_append h.2.2 h2⟩
theorem plcs_mono : ∀ {lo lo' : Nat} {a : List Tree}, lo' ≤ lo → plcs ps lo a = true → plcs ps lo' a = true
  | lo, lo', [], _, _ => by simp [plcs]
  | lo, lo', t :: ts, hl, h => by
    simp only [plcs, Bool.and_eq_true, decide_eq_true_eq] at h ⊢
    exact ⟨h.1, Nat.le_trans hl h.2.1, plcs_mono hl h.2.2⟩
theorem plcs_one {lo : Nat} {t : Tree} (h : plc ps t = true) (hl : lo ≤ t.pl) : plcs ps lo [t] = true := by simp [plcs, h, hl]
theorem plcs_cons {lo : Nat} {t : Tree} {ts : List Tree} (h : plc ps t = true) (hl : lo ≤ t.pl) (h2 : plcs ps lo ts = true) : plcs ps lo (t :: ts) = true := by simp [plcs, h, hl, h2]
theorem plc_mk {k : Nat} {x : By} {ns : List By} {ks : List Tree} {n p : Nat} (hp : p ∈ ps) (h : plcs ps p ks = true) : plc ps (.node k x ns ks n p) = true := by simp [plc, hp, h]
theorem plc_inv {t : Tree} (h : plc ps t = true) : t.pl ∈ ps ∧ plcs ps t.pl t.kids = true := by
  cases t; simpa [plc, Tree.pl, Tree.kids] using h
/-- Tokens in order, at these places, with the end at their end. -/
def Gd (ps : List Nat) : List Tok → Prop
  | [] => False
  | [t] => t.k = 0 ∧ t.p ∈ ps
  | t :: u :: r => t.k ≠ 0 ∧ t.p ∈ ps ∧ t.p ≤ u.p ∧ Gd ps (u :: r)
theorem Gd.at {ts : List Tok} (h : Gd ps ts) : (hd ts).p ∈ ps := by
  match ts, h with
  | [t], h => exact h.2
  | t :: u :: r, h => exact h.2.1
theorem Gd.go {ts : List Tok} (h : Gd ps ts) (hk : (hd ts).k ≠ 0) : Gd ps ts.tail ∧ (hd ts).p ≤ (hd ts.tail).p := by
  match ts, h with
  | [t], h => exact absurd h.1 hk
  | t :: u :: r, h => exact ⟨h.2.2.2, h.2.2.1⟩
theorem Gd.is {ts : List Tok} {s : By} (h : Gd ps ts) (hi : isT s ts = true) : Gd ps ts.tail ∧ (hd ts).p ≤ (hd ts.tail).p := h.go (MS.is_k (s := ⟨ts, 0, 0⟩) (w := s) hi)

/-- What is said of an answer. -/
def V {α : Type} (Q : α → List Tok → Prop) (r : GR.R α) : Prop := ∀ a us, r = .ok (a, us) → Q a us
variable {α β : Type} {Q : α → List Tok → Prop} {Q' : β → List Tok → Prop}
theorem V.ok {a : α} {us : List Tok} (h : Q a us) : V Q (.ok (a, us)) := by
  intro a' us' e; injection e with e; injection e with e1 e2; subst e1; subst e2; exact h
theorem V.error (e : Nat × Nat) : V Q (.error e) := by intro a us h; cases h
theorem V.fail (e : Nat) (ts : List Tok) : V Q (fail e ts) := V.error _
theorem V.bnd {r : GR.R α} {f : α → List Tok → GR.R β} (h : V Q r) (hf : ∀ a us, Q a us → V Q' (f a us)) : V Q' (bnd r f) := by
  cases r with
  | error e => exact V.error e
  | ok a => exact hf a.1 a.2 (h a.1 a.2 rfl)
theorem V.ite {c : Prop} [Decidable c] {x y : GR.R α} (h1 : c → V Q x) (h2 : ¬c → V Q y) : V Q (if c then x else y) := by
  by_cases h : c
  · rw [if_pos h]; exact h1 h
  · rw [if_neg h]; exact h2 h
theorem V.rep {f : α → List Tok → Option (GR.R α)} (hf : ∀ a ts r, Q a ts → f a ts = some r → V Q r) : ∀ (n : Nat) (a : α) (ts : List Tok), Q a ts → V Q (rep f n a ts)
  | 0, a, ts, _ => V.error _
  | n + 1, a, ts, hq => by
    unfold GR.rep
    cases h : f a ts with
    | none => exact V.ok hq
    | some r => exact V.bnd (hf a ts r hq h) (fun a' us hus => V.rep hf n a' us hus)
theorem V.reps {f : α → List Tok → Option (GR.R α)} (hf : ∀ a ts r, Q a ts → f a ts = some r → V Q r) {a : α} {ts : List Tok} (h : Q a ts) : V Q (reps f a ts) := V.rep hf _ a ts h
theorem V.imp {Q2 : α → List Tok → Prop} {r : GR.R α} (h : V Q r) (hi : ∀ a us, Q a us → Q2 a us) : V Q2 r := fun a us e => hi a us (h a us e)

/-- A node; a row of nodes; nothing. -/
def Pt (ps : List Nat) (lo : Nat) (t : Tree) (us : List Tok) : Prop := Gd ps us ∧ plc ps t = true ∧ lo ≤ t.pl ∧ t.pl ≤ (hd us).p
def Pl (ps : List Nat) (lo : Nat) (ks : List Tree) (us : List Tok) : Prop := Gd ps us ∧ plcs ps lo ks = true ∧ lo ≤ (hd us).p
def Pu (ps : List Nat) (lo : Nat) {α : Type} (_ : α) (us : List Tok) : Prop := Gd ps us ∧ lo ≤ (hd us).p
/-- A part that makes a node. -/
def PT (ps : List Nat) (f : List Tok → GR.R Tree) : Prop := ∀ ts lo, Gd ps ts → lo ≤ (hd ts).p → V (Pt ps lo) (f ts)
theorem v_want (s : By) {ts : List Tok} {lo : Nat} (h : Gd ps ts) (hl : lo ≤ (hd ts).p) : V (Pu ps lo) (want s ts) :=
  V.ite (fun hi => V.ok ⟨(h.is hi).1, Nat.le_trans hl (h.is hi).2⟩) (fun _ => V.fail _ _)
theorem v_txt {k : Nat} (hk : k ≠ 0) {ts : List Tok} {lo : Nat} (h : Gd ps ts) (hl : lo ≤ (hd ts).p) : V (Pu ps lo) (txt k ts) :=
  V.ite (fun hi => V.ok ⟨(h.go (by omega)).1, Nat.le_trans hl (h.go (by omega)).2⟩) (fun _ => V.fail _ _)
theorem v_leaf {k : Nat} {ts : List Tok} {lo : Nat} (h : Gd ps ts) (hl : lo ≤ (hd ts).p) (hk : (hd ts).k ≠ 0) : V (Pt ps lo) (leaf k ts) :=
  V.ok ⟨(h.go hk).1, plc_mk h.at (by simp [plcs]), hl, (h.go hk).2⟩
theorem v_plain {k : Nat} {ts : List Tok} {lo : Nat} (h : Gd ps ts) (hl : lo ≤ (hd ts).p) (hk : (hd ts).k ≠ 0) : V (Pt ps lo) (.ok (.node k [] [] [] 0 (hd ts).p, ts.tail)) :=
  V.ok ⟨(h.go hk).1, plc_mk h.at (by simp [plcs]), hl, (h.go hk).2⟩

-- types
theorem v_tyStep {T : List Tok → GR.R Tree} (hT : PT ps T) {lo : Nat} (ks : List Tree) (ts : List Tok) (r : GR.R (List Tree)) (h : Pl ps lo ks ts) (hs : tyStep T ks ts = some r) : V (Pl ps lo) r := by
  obtain ⟨hg, hk, hl⟩ := h
  unfold tyStep at hs
  by_cases h3 : (hd ts).k = 3
  · rw [if_pos h3] at hs
    injection hs with hs; subst hs
    have := hg.go (by omega)
    exact V.ok ⟨this.1, plcs_append hk (plcs_one (plc_mk hg.at (by simp [plcs])) hl), Nat.le_trans hl this.2⟩
  · rw [if_neg h3] at hs
    by_cases h4 : isT [40] ts = true
    · rw [if_pos h4] at hs
      injection hs with hs; subst hs
      have := hg.is h4
      exact V.bnd (hT _ lo this.1 (Nat.le_trans hl this.2)) fun t us ⟨a, b, c, d⟩ => V.bnd (v_want [41] a (Nat.le_trans c d)) fun _ vs ⟨e, f⟩ => V.ok ⟨e, plcs_append hk (plcs_one b c), f⟩
    · rw [if_neg h4] at hs; cases hs
theorem v_tyapp : ∀ g, PT ps (tyapp g)
  | 0 => fun ts lo _ _ => V.fail _ _
  | g + 1 => fun ts lo h hl => V.bnd (v_txt (lo := (hd ts).p) (by decide) h (Nat.le_refl _)) fun s r ⟨a, b⟩ => V.bnd (V.reps (v_tyStep (v_tyapp g) (lo := (hd ts).p)) ⟨a, by simp [plcs], b⟩) fun ks us ⟨c, d, e⟩ =>
    V.ok ⟨c, plc_mk h.at d, hl, e⟩
theorem v_conPart {lo : Nat} {ks : List Tree} {ts : List Tok} (h : Pl ps lo ks ts) : V (Pl ps lo) (conPart ks ts) :=
  V.ite (fun _ => V.fail _ _) fun _ => V.bnd (v_tyapp 40 ts lo h.1 h.2.2) fun t us ⟨a, b, c, d⟩ => V.ok ⟨a, plcs_append h.2.1 (plcs_one b c), Nat.le_trans c d⟩
theorem v_conStep {lo : Nat} (ks : List Tree) (ts : List Tok) (r : GR.R (List Tree)) (h : Pl ps lo ks ts) (hs : conStep ks ts = some r) : V (Pl ps lo) r := by
  unfold conStep at hs
  by_cases h4 : isT [44] ts = true
  · rw [if_pos h4] at hs
    injection hs with hs; subst hs
    have := h.1.is h4
    exact v_conPart ⟨this.1, h.2.1, Nat.le_trans h.2.2 this.2⟩
  · rw [if_neg h4] at hs; cases hs
theorem v_con : PT ps con := fun ts lo h hl => by
  refine V.bnd (v_txt (lo := (hd ts).p) (by decide) h (Nat.le_refl _)) fun s r ⟨a, b⟩ => ?_
  refine V.ite (fun hi => ?_) (fun _ => V.ok ⟨a, plc_mk h.at (by simp [plcs]), hl, b⟩)
  have := a.is hi
  exact V.bnd (v_conPart (lo := (hd ts).p) ⟨this.1, by simp [plcs], Nat.le_trans b this.2⟩) fun ks us hk => V.bnd (V.reps v_conStep hk) fun ks vs ⟨c, d, e⟩ => V.ok ⟨c, plc_mk h.at d, hl, e⟩

-- patterns
theorem v_patom {Y : List Tok → GR.R Tree} (hY : PT ps Y) : PT ps (patom Y) := fun ts lo h hl => by
  unfold patom
  refine V.ite (fun hk => v_leaf h hl (by omega)) fun _ => V.ite (fun hk => v_leaf h hl (by omega)) fun _ => V.ite (fun hk => v_leaf h hl (by omega)) fun _ => V.ite (fun hi => ?_) fun _ => V.ite (fun hi => ?_) fun _ => V.fail _ _
  · exact v_plain h hl (MS.is_k (s := ⟨ts, 0, 0⟩) (w := [95]) hi)
  · have := h.is hi
    exact V.bnd (hY _ lo this.1 (Nat.le_trans hl this.2)) fun t us ⟨a, b, c, d⟩ => V.bnd (v_want [41] (lo := t.pl) a d) fun _ vs ⟨e, f⟩ => V.ok ⟨e, b, c, f⟩
theorem plc_more {n t : Tree} (h : plc ps n = true) (h2 : plc ps t = true) (hl : n.pl ≤ t.pl) : plc ps (n.more t) = true ∧ (n.more t).pl = n.pl := by
  cases n with
  | node k x ns ks m p =>
    have := plc_inv h
    exact ⟨plc_mk this.1 (plcs_append this.2 (plcs_one h2 hl)), rfl⟩
theorem v_more {W : List Tok → GR.R Tree} (hW : PT ps W) {lo : Nat} {n : Tree} {ts : List Tok} (h : Pt ps lo n ts) : V (Pt ps lo) (if n.kids.length = 4 then fail 16 ts else bnd (W ts) fun t r => .ok (n.more t, r)) :=
  V.ite (fun _ => V.fail _ _) fun _ => V.bnd (hW ts n.pl h.1 h.2.2.2) fun t us ⟨a, b, c, d⟩ => by
    obtain ⟨e1, e2⟩ := plc_more h.2.1 b c
    exact V.ok ⟨a, e1, by rw [e2]; exact h.2.2.1, by rw [e2]; exact Nat.le_trans c d⟩
theorem v_patStep {Y : List Tok → GR.R Tree} (hY : PT ps Y) {lo : Nat} (n : Tree) (ts : List Tok) (r : GR.R Tree) (h : Pt ps lo n ts) (hs : patStep Y n ts = some r) : V (Pt ps lo) r := by
  unfold patStep at hs
  by_cases h4 : patBegins ts = true
  · rw [if_pos h4] at hs
    injection hs with hs; subst hs
    exact v_more (v_patom hY) h
  · rw [if_neg h4] at hs; cases hs
theorem v_pat : ∀ g, PT ps (pat g)
  | 0 => fun ts lo _ _ => V.fail _ _
  | g + 1 => fun ts lo h hl => V.bnd (v_patom (v_pat g) ts lo h hl) fun n r hr => V.ite (fun _ => V.reps (v_patStep (v_pat g)) hr) (fun _ => V.ok hr)

-- exps
section
variable {X : Bool → List Tok → GR.R Tree} {Y : List Tok → GR.R Tree} (hX : ∀ f, PT ps (X f)) (hY : PT ps Y)
include hX hY
theorem v_row {lo : Nat} {ks : List Tree} {ts : List Tok} (h : Pl ps lo ks ts) : V (Pl ps lo) (row X Y ks ts) :=
  V.ite (fun _ => V.fail _ _) fun _ => V.bnd (v_want _ h.1 h.2.2) fun _ r ⟨a, b⟩ => V.bnd (hY r lo a b) fun p r ⟨c, d, e, f⟩ => V.bnd (v_want _ (lo := lo) c (Nat.le_trans e f)) fun _ r ⟨g, i⟩ => V.bnd (hX false r lo g i) fun b us ⟨j, k, l, m⟩ =>
    V.ok ⟨j, plcs_append (plcs_append h.2.1 (plcs_one d e)) (plcs_one k l), Nat.le_trans l m⟩
theorem v_rowStep {lo : Nat} (ks : List Tree) (ts : List Tok) (r : GR.R (List Tree)) (h : Pl ps lo ks ts) (hs : rowStep X Y ks ts = some r) : V (Pl ps lo) r := by
  unfold rowStep at hs
  by_cases h4 : isT [124] ts = true
  · rw [if_pos h4] at hs
    injection hs with hs; subst hs
    exact v_row hX hY h
  · rw [if_neg h4] at hs; cases hs
theorem v_atom : PT ps (atom X Y) := fun ts lo h hl => by
  unfold atom
  refine V.ite (fun hk => v_leaf h hl (by omega)) fun _ => V.ite (fun hk => v_leaf h hl (by omega)) fun _ => V.ite (fun hk => v_leaf h hl (by omega)) fun _ => V.ite (fun hk => v_leaf h hl (by omega)) fun _ => V.ite (fun hi => ?_) fun _ => V.ite (fun hi => ?_) fun _ => V.ite (fun hi => ?_) fun _ => V.ite (fun hi => ?_) fun _ => V.fail _ _
  · exact v_plain h hl (MS.is_k (s := ⟨ts, 0, 0⟩) (w := wRetry) hi)
  · have h1 := h.is hi
    refine V.ite (fun hi2 => ?_) fun _ => ?_
    · have h2 := h1.1.is hi2
      exact V.ok ⟨h2.1, plc_mk h.at (by simp [plcs]), hl, Nat.le_trans h1.2 h2.2⟩
    · exact V.bnd (hX _ _ lo h1.1 (Nat.le_trans hl h1.2)) fun t us ⟨a, b, c, d⟩ => V.bnd (v_want _ (lo := t.pl) a d) fun _ vs ⟨e, f⟩ => V.ok ⟨e, b, c, f⟩
  · have h1 := h.is hi
    exact V.bnd (hX _ _ (hd ts).p h1.1 h1.2) fun t r ⟨a, b, c, d⟩ => V.bnd (v_want _ (lo := (hd ts).p) a (Nat.le_trans c d)) fun _ r ⟨e, f⟩ => V.bnd (v_txt (by decide) e f) fun s r ⟨e, f⟩ => V.bnd (v_want _ e f) fun _ r ⟨e, f⟩ => V.bnd (hX _ _ (hd ts).p e f) fun t2 r ⟨a2, b2, c2, d2⟩ => V.bnd (v_want _ (lo := (hd ts).p) a2 (Nat.le_trans c2 d2)) fun _ r ⟨e, f⟩ =>
      V.ok ⟨e, plc_mk h.at (plcs_cons b c (plcs_one b2 c2)), hl, f⟩
  · have h1 := h.is hi
    exact V.bnd (hX _ _ (hd ts).p h1.1 h1.2) fun t r ⟨a, b, c, d⟩ => V.bnd (v_want _ (lo := (hd ts).p) a (Nat.le_trans c d)) fun _ r ⟨e, f⟩ => V.bnd (v_row hX hY (lo := (hd ts).p) ⟨e, plcs_one b c, f⟩) fun ks r hk => V.bnd (V.reps (v_rowStep hX hY) hk) fun ks r ⟨g, i, j⟩ => V.bnd (v_want _ g j) fun _ r ⟨e, f⟩ =>
      V.ok ⟨e, plc_mk h.at i, hl, f⟩
theorem v_callStep {lo : Nat} (n : Tree) (ts : List Tok) (r : GR.R Tree) (h : Pt ps lo n ts) (hs : callStep X Y n ts = some r) : V (Pt ps lo) r := by
  unfold callStep at hs
  by_cases h4 : begins ts = true
  · rw [if_pos h4] at hs
    injection hs with hs; subst hs
    exact V.bnd (v_atom hX hY ts n.pl h.1 h.2.2.2) fun a us ⟨b, c, d, e⟩ => V.ok ⟨b, plc_mk (plc_inv h.2.1).1 (plcs_cons h.2.1 (Nat.le_refl _) (plcs_one c d)), h.2.2.1, Nat.le_trans d e⟩
  · rw [if_neg h4] at hs; cases hs
theorem v_moreStep {lo : Nat} (n : Tree) (ts : List Tok) (r : GR.R Tree) (h : Pt ps lo n ts) (hs : moreStep X Y n ts = some r) : V (Pt ps lo) r := by
  unfold moreStep at hs
  by_cases h4 : begins ts = true
  · rw [if_pos h4] at hs
    injection hs with hs; subst hs
    exact v_more (v_atom hX hY) h
  · rw [if_neg h4] at hs; cases hs
theorem v_app : PT ps (app X Y) := fun ts lo h hl => by
  unfold app
  cases hc : callOf ts with
  | some c =>
    have h1 := h.is (MZ.call_mem hc).2
    exact V.bnd (v_atom hX hY _ (hd ts).p h1.1 h1.2) fun a r ⟨e, f, g, i⟩ => V.ite (fun _ => V.bnd (v_atom hX hY r (hd ts).p e (Nat.le_trans g i)) fun b r ⟨e2, f2, g2, i2⟩ => V.ok ⟨e2, plc_mk h.at (plcs_cons f g (plcs_one f2 g2)), hl, Nat.le_trans g2 i2⟩) fun _ =>
      V.ok ⟨e, plc_mk h.at (plcs_one f g), hl, Nat.le_trans g i⟩
  | none =>
    exact V.bnd (v_atom hX hY ts lo h hl) fun n r hn => V.ite (fun _ => V.reps (v_moreStep hX hY) hn) fun _ => V.reps (v_callStep hX hY) hn
omit hX hY in
theorem v_opStep {l : List By} {W : List Tok → GR.R Tree} (hW : PT ps W) {lo : Nat} (n : Tree) (ts : List Tok) (r : GR.R Tree) (h : Pt ps lo n ts) (hs : opStep l W n ts = some r) : V (Pt ps lo) r := by
  unfold opStep at hs
  cases hf : l.find? (fun s => isT s ts) with
  | none => rw [hf] at hs; cases hs
  | some s =>
    rw [hf] at hs
    injection hs with hs; subst hs
    have hi : isT s ts = true := by simpa using List.find?_some hf
    have h1 := h.1.is hi
    exact V.bnd (hW _ n.pl h1.1 (Nat.le_trans h.2.2.2 h1.2)) fun a us ⟨b, c, d, e⟩ => V.ok ⟨b, plc_mk (plc_inv h.2.1).1 (plcs_cons h.2.1 (Nat.le_refl _) (plcs_one c d)), h.2.2.1, Nat.le_trans d e⟩
omit hX hY in
theorem v_ops {l : List By} {W : List Tok → GR.R Tree} (hW : PT ps W) : PT ps (fun ts => bnd (W ts) fun n r => reps (opStep l W) n r) := fun ts lo h hl =>
  V.bnd (hW ts lo h hl) fun n r hn => V.reps (v_opStep hW) hn
theorem v_prod : PT ps (prod X Y) := v_ops (v_app hX hY)
theorem v_sum : PT ps (sum X Y) := v_ops (v_prod hX hY)
theorem v_cmp : PT ps (cmp X Y) := fun ts lo h hl =>
  V.bnd (v_sum hX hY ts lo h hl) fun n r hn => by
    show V (Pt ps lo) (match opStep [[61], [60]] (sum X Y) n r with | some q => q | none => .ok (n, r))
    cases ho : opStep [[61], [60]] (sum X Y) n r with
    | none => exact V.ok hn
    | some q => exact v_opStep (v_sum hX hY) n r q hn ho
omit hY in
theorem v_value (room flat : Bool) {ts : List Tok} {lo : Nat} (h : Gd ps ts) (hl : lo ≤ (hd ts).p) : V (fun v us => Pt ps lo v.2.2 us) (value X room flat ts) := by
  have h1 : Gd ps (if isT wRec ts = true then ts.tail else ts) ∧ lo ≤ (hd (if isT wRec ts = true then ts.tail else ts)).p := by
    by_cases hr : isT wRec ts = true
    · rw [if_pos hr]; exact ⟨(h.is hr).1, Nat.le_trans hl (h.is hr).2⟩
    · rw [if_neg hr]; exact ⟨h, hl⟩
  exact V.bnd (v_txt (by decide) h1.1 h1.2) fun s r ⟨a, b⟩ => V.bnd (v_want _ a b) fun _ r ⟨a, b⟩ => V.ite (fun _ => V.fail _ _) fun _ => V.bnd (hX flat r lo a b) fun v us hv => V.ok hv
theorem v_inner (room flat : Bool) : PT ps (inner X Y room flat) := fun ts lo h hl => by
  unfold inner
  refine V.ite (fun hi => ?_) fun _ => V.ite (fun hi => ?_) fun _ => V.ite (fun hi => ?_) fun _ => ?_
  · have h1 := h.is hi
    exact V.bnd (v_value hX room flat (lo := (hd ts).p) h1.1 h1.2) fun v r ⟨a, b, c, d⟩ => V.bnd (v_want _ (lo := (hd ts).p) a (Nat.le_trans c d)) fun _ r ⟨e, f⟩ => V.bnd (hX flat r (hd ts).p e f) fun t us ⟨a2, b2, c2, d2⟩ =>
      V.ok ⟨a2, plc_mk h.at (plcs_cons b c (plcs_one b2 c2)), hl, Nat.le_trans c2 d2⟩
  · have h1 := h.is hi
    exact V.bnd (v_txt (lo := (hd ts).p) (by decide) h1.1 h1.2) fun s r ⟨a, b⟩ => V.bnd (v_want _ a b) fun _ r ⟨e, f⟩ => V.bnd (hX flat r (hd ts).p e f) fun t us ⟨a2, b2, c2, d2⟩ => V.ok ⟨a2, plc_mk h.at (plcs_one b2 c2), hl, Nat.le_trans c2 d2⟩
  · have h1 := h.is hi
    exact V.bnd (hX flat _ (hd ts).p h1.1 h1.2) fun t r ⟨a, b, c, d⟩ => V.bnd (v_want _ (lo := (hd ts).p) a (Nat.le_trans c d)) fun _ r ⟨e, f⟩ => V.bnd (hX flat r (hd ts).p e f) fun t2 r ⟨a2, b2, c2, d2⟩ => V.bnd (v_want _ (lo := (hd ts).p) a2 (Nat.le_trans c2 d2)) fun _ r ⟨e, f⟩ => V.bnd (hX flat r (hd ts).p e f) fun t3 us ⟨a3, b3, c3, d3⟩ =>
      V.ok ⟨a3, plc_mk h.at (plcs_cons b c (plcs_cons b2 c2 (plcs_one b3 c3))), hl, Nat.le_trans c3 d3⟩
  · refine V.bnd (v_cmp hX hY ts lo h hl) fun a r ha => V.ite (fun hi => ?_) fun _ => V.ok ha
    have h1 := ha.1.is hi.1
    exact V.bnd (hX flat _ a.pl h1.1 (Nat.le_trans ha.2.2.2 h1.2)) fun t us ⟨a2, b2, c2, d2⟩ => V.ok ⟨a2, plc_mk (plc_inv ha.2.1).1 (plcs_cons ha.2.1 (Nat.le_refl _) (plcs_one b2 c2)), ha.2.2.1, Nat.le_trans c2 d2⟩
end
theorem v_exp : ∀ g f, PT ps (exp g f)
  | 0, f => fun ts lo _ _ => V.fail _ _
  | g + 1, f => v_inner (v_exp g) (v_pat g) _ f

-- declarations
theorem v_nameStep {lo : Nat} (ns : List By) (ts : List Tok) (r : GR.R (List By)) (h : Pu ps lo ns ts) (hs : nameStep ns ts = some r) : V (Pu ps lo) r := by
  unfold nameStep at hs
  by_cases h4 : (hd ts).k = 3
  · rw [if_pos h4] at hs
    injection hs with hs; subst hs
    have h1 := h.1.go (by omega)
    exact V.ite (fun _ => V.fail _ _) fun _ => V.ok ⟨h1.1, Nat.le_trans h.2 h1.2⟩
  · rw [if_neg h4] at hs; cases hs
theorem v_conMore {lo : Nat} {ks : List Tree} {ts : List Tok} (h : Pl ps lo ks ts) : V (Pl ps lo) (conMore ks ts) :=
  V.ite (fun _ => V.fail _ _) fun _ => V.bnd (v_con ts lo h.1 h.2.2) fun t us ⟨a, b, c, d⟩ => V.ok ⟨a, plcs_append h.2.1 (plcs_one b c), Nat.le_trans c d⟩
theorem v_barStep {lo : Nat} (ks : List Tree) (ts : List Tok) (r : GR.R (List Tree)) (h : Pl ps lo ks ts) (hs : barStep ks ts = some r) : V (Pl ps lo) r := by
  unfold barStep at hs
  by_cases h4 : isT [124] ts = true
  · rw [if_pos h4] at hs
    injection hs with hs; subst hs
    have h1 := h.1.is h4
    exact v_conMore ⟨h1.1, h.2.1, Nat.le_trans h.2.2 h1.2⟩
  · rw [if_neg h4] at hs; cases hs
theorem v_decl {ts : List Tok} {lo : Nat} (h : Gd ps ts) (hl : lo ≤ (hd ts).p) (hk : (hd ts).k ≠ 0) : V (Pt ps lo) (decl ts) := by
  have h1 := h.go hk
  unfold decl
  refine V.ite (fun hi => ?_) fun _ => ?_
  · exact V.bnd (v_txt (lo := (hd ts).p) (by decide) h1.1 h1.2) fun s r hs => V.bnd (V.reps (Q := Pu ps (hd ts).p) v_nameStep hs) fun ns r ⟨a, b⟩ => V.bnd (v_want _ a b) fun _ r ⟨a, b⟩ => V.bnd (v_conMore (lo := (hd ts).p) ⟨a, by simp [plcs], b⟩) fun ks r hk => V.bnd (V.reps v_barStep hk) fun ks r ⟨c, d, e⟩ => V.bnd (v_want _ c e) fun _ us ⟨f, g⟩ =>
      V.ok ⟨f, plc_mk h.at d, hl, g⟩
  · exact V.bnd (v_value (v_exp 40) true true (lo := (hd ts).p) h1.1 h1.2) fun v r ⟨a, b, c, d⟩ => V.bnd (v_want _ (lo := (hd ts).p) a (Nat.le_trans c d)) fun _ us ⟨e, f⟩ => V.ok ⟨e, plc_mk h.at (plcs_one b c), hl, f⟩
theorem v_declStep {lo : Nat} (ks : List Tree) (ts : List Tok) (r : GR.R (List Tree)) (h : Pl ps lo ks ts) (hs : declStep ks ts = some r) : V (Pl ps lo) r := by
  unfold declStep at hs
  by_cases h4 : (isT wType ts || isT wLet ts) = true
  · rw [if_pos h4] at hs
    injection hs with hs; subst hs
    have hk : (hd ts).k ≠ 0 := by
      cases ht : isT wType ts with
      | true => exact MS.is_k (s := ⟨ts, 0, 0⟩) (w := wType) ht
      | false => rw [ht] at h4; exact MS.is_k (s := ⟨ts, 0, 0⟩) (w := wLet) h4
    exact V.ite (fun _ => V.fail _ _) fun _ => V.bnd (v_decl h.1 h.2.2 hk) fun t us ⟨a, b, c, d⟩ => V.ok ⟨a, plcs_append h.2.1 (plcs_one b c), Nat.le_trans c d⟩
  · rw [if_neg h4] at hs; cases hs
theorem v_prog {ts : List Tok} (h : Gd ps ts) : V (Pt ps (hd ts).p) (prog ts) := by
  unfold prog
  exact V.bnd (V.reps v_declStep (⟨h, by simp [plcs], Nat.le_refl _⟩ : Pl ps (hd ts).p [] ts)) fun ks r ⟨a, b, c⟩ => V.bnd (v_want _ a c) fun _ r ⟨d, e⟩ => V.bnd (v_exp 40 false r (hd ts).p d e) fun x r ⟨f, g, i, j⟩ => V.ite (fun _ => V.ok ⟨f, plc_mk h.at (plcs_append b (plcs_one g i)), Nat.le_refl _, Nat.le_trans i j⟩) fun _ => V.fail _ _
theorem gd_of : ∀ {ts : List Tok}, 0 < ts.length → (∀ x ∈ ts, x.p ∈ ps) → (∀ (j : Nat) (hj : j < ts.length), (ts[j].k = 0 ↔ j + 1 = ts.length) ∧ ∀ (h1 : j + 1 < ts.length), ts[j].p < ts[j + 1].p) → Gd ps ts
  | [], h, _, _ => absurd h (by decide)
  | [t], _, hm, h => ⟨(h 0 (by simp)).1.2 rfl, hm t (by simp)⟩
  | t :: u :: r, h, hm, h2 => ⟨fun e => by have := (h2 0 (by simp)).1.1 e; simp at this, hm t (by simp), Nat.le_of_lt ((h2 0 (by simp)).2 (by simp)), gd_of (ts := u :: r) (by simp) (fun x hx => hm x (by simp [hx])) (fun j hj => by
      have := h2 (j + 1) (by simpa using hj)
      simp at this ⊢
      exact this)⟩
/-- Each node of a source stands at a token. -/
theorem placed_all {l : List UInt8} {ts : List Tok} (h : run (l.length + 1) l 0 = .ok ts) {t : Tree} {us : List Tok} (hp : prog ts = .ok (t, us)) : plc (ts.map (·.p)) t = true := by
  have hg : Gd (ts.map (·.p)) ts := gd_of (toks_good h).1 (fun x hx => List.mem_map_of_mem hx) (fun j hj => ⟨((toks_good h).2 j hj).1, ((toks_good h).2 j hj).2.2⟩)
  exact (v_prog hg t us hp).2.1
end Go.Proofs.YtlcapkgbbgpdmaaGreatDoor.RP

/- The document's Same, of nodes that are the same. -/
namespace Go.Proofs.YtlcapkgbbgpdmaaGreatDoor.QI
open Go.RowKit Go.Proofs.YtlcapkgbbgpdmaaGreatDoor.P Go.Proofs.YtlcapkgbbgpdmaaGreatDoor.A Go.Proofs.YtlcapkgbbgpdmaaGreatDoor.GR Go.Proofs.YtlcapkgbbgpdmaaGreatDoor.PN Go.Proofs.YtlcapkgbbgpdmaaGreatDoor.PS Go.Proofs.YtlcapkgbbgpdmaaGreatDoor.QE Go.Proofs.YtlcapkgbbgpdmaaGreatDoor.QH Go.Proofs.YtlcapkgbbgpdmaaGreatDoor.RZ
set_option linter.unusedVariables false
set_option maxRecDepth 100000

/-- A node as a value. -/
def nval (t : Tree) (q : Value × Value) : Value := .agg #[.int .i64 (t.kind : Int), .string ⟨t.text.toArray⟩, .int .i64 (t.num : Int), .int .i64 (t.pl : Int), q.1, q.2]
/-- A row of names. -/
theorem name_row {w : World} {S : Nat → Prop} {v : Value} {ns : List By} (h : Rw w S v ns.length (ns.map sv)) : ∃ ao cap, v = .slice ao ns.length cap ∧ ns.length ≤ cap ∧ (ns.length = 0 ∨ ∃ b off, ao = some ⟨b, off, none⟩ ∧ b < w.heap.size ∧ ∀ j (hj : j < ns.length), w.cell? ⟨b, off + j, none⟩ = some (sv ns[j])) := by
  obtain ⟨ao, cap, hv, hc, h⟩ := h
  refine ⟨ao, cap, hv, hc, h.imp id ?_⟩
  rintro ⟨b, off, ha, _, hlt, _, hcell⟩
  exact ⟨b, off, ha, hlt, fun j hj => hcell j _ (by simp [hj])⟩
/-- A row of kids: at each of them its six cells. -/
structure Kid (w : World) (S : Nat → Prop) (b o : Nat) (t : Tree) (q : Value × Value) : Prop where
  n : HasN w S t q
  c0 : w.cell? ⟨b, o, none⟩ = some (.int .i64 (t.kind : Int))
  c1 : w.cell? ⟨b, o + 1, none⟩ = some (.string ⟨t.text.toArray⟩)
  c2 : w.cell? ⟨b, o + 2, none⟩ = some (.int .i64 (t.num : Int))
  c3 : w.cell? ⟨b, o + 3, none⟩ = some (.int .i64 (t.pl : Int))
  c4 : w.cell? ⟨b, o + 4, none⟩ = some q.1
  c5 : w.cell? ⟨b, o + 5, none⟩ = some q.2
theorem kid_row {w : World} {S : Nat → Prop} {v : Value} {ks : List Tree} {qs : List (Value × Value)} (h : Rw w S v ks.length (nrow ks qs)) (hn : HasNs w S ks qs) : ∃ ao cap, v = .slice ao ks.length cap ∧ ks.length ≤ cap ∧ (ks.length = 0 ∨ ∃ b off, ∃ f : Nat → Value × Value, ao = some ⟨b, off, none⟩ ∧ b < w.heap.size ∧ ∀ j (hj : j < ks.length), Kid w S b (off + j * 6) ks[j] (f j)) := by
  obtain ⟨ao, cap, hv, hc, h⟩ := h
  refine ⟨ao, cap, hv, hc, h.imp id ?_⟩
  rintro ⟨b, off, ha, _, hlt, _, hcell⟩
  have hlen := hn.len
  refine ⟨b, off, fun i => (qs[i]?).getD (.slice none 0 0, .slice none 0 0), ha, hlt, fun j hj => ?_⟩
  have hq : j < qs.length := by omega
  have e : (qs[j]?).getD (.slice none 0 0, .slice none 0 0) = qs[j] := by simp [hq]
  show Kid w S b (off + j * 6) ks[j] ((qs[j]?).getD (.slice none 0 0, .slice none 0 0))
  rw [e]
  have hc : ∀ c u, c < 6 → (ncells ks[j] qs[j])[c]? = some u → w.cell? ⟨b, off + j * 6 + c, none⟩ = some u := fun c u hc6 hu => by
    have := hcell (6 * j + c) u (by rw [nrow_at ks qs j c hj hq hc6]; exact hu)
    rw [show off + (6 * j + c) = off + j * 6 + c by omega] at this
    exact this
  exact ⟨hasNs_at hn j hj hq, hc 0 _ (by decide) rfl, hc 1 _ (by decide) rfl, hc 2 _ (by decide) rfl, hc 3 _ (by decide) rfl, hc 4 _ (by decide) rfl, hc 5 _ (by decide) rfl⟩
theorem HasN_below {w w' : World} {S : Nat → Prop} {t : Tree} {q : Value × Value} (h : HasN w S t q) (hb : Below w.heap.size w w') : HasN w' S t q :=
  HasN.keep hb.size (fun b hS hlt => ⟨hS, hb.block b hlt⟩) t q h
theorem Kid.below {w w' : World} {S : Nat → Prop} {b o : Nat} {t : Tree} {q : Value × Value} (h : Kid w S b o t q) (hb : Below w.heap.size w w') (hB : b < w.heap.size) : Kid w' S b o t q :=
  ⟨HasN_below h.n hb, (hb.cell (p := ⟨b, o, none⟩) hB).trans h.c0, (hb.cell (p := ⟨b, o + 1, none⟩) hB).trans h.c1, (hb.cell (p := ⟨b, o + 2, none⟩) hB).trans h.c2, (hb.cell (p := ⟨b, o + 3, none⟩) hB).trans h.c3, (hb.cell (p := ⟨b, o + 4, none⟩) hB).trans h.c4, (hb.cell (p := ⟨b, o + 5, none⟩) hB).trans h.c5⟩
theorem sames_at : ∀ (us vs : List Tree), sames us vs = true → us.length = vs.length ∧ ∀ j (h : j < us.length) (h2 : j < vs.length), same us[j] vs[j] = true
  | [], [], _ => ⟨rfl, fun j h => absurd h (by simp)⟩
  | a :: us, b :: vs, h => by
    simp only [sames, Bool.and_eq_true] at h
    obtain ⟨e, ih⟩ := sames_at us vs h.2
    refine ⟨by simp [e], fun j h1 h2 => ?_⟩
    cases j with
    | zero => exact h.1
    | succ j => exact ih j (by simpa using h1) (by simpa using h2)
  | [], _ :: _, h => by simp [sames] at h
  | _ :: _, [], h => by simp [sames] at h

set_option maxHeartbeats 2000000 in
theorem rsame_step (n : Nat) (hn : n ≤ 5000) (IH : ∀ (a b : Tree) (qa qb : Value × Value) (S : Nat → Prop) (w : World), tsize a ≤ n → same a b = true → HasN w S a qa → HasN w S b qb → Calls Tryz.prog 18 #[nval a qa, nval b qb, .bool false] w fun e w' => e = .returned (.bool true) ∧ Below w.heap.size w w')
    (k p p' nu : Nat) (x : By) (ns : List By) (ks ls : List Tree) (qa qb : Value × Value) (S : Nat → Prop) (w : World) (hsz : ns.length + tsizes ks ≤ n) (hs : sames ks ls = true) (ha : HasN w S (.node k x ns ks nu p) qa) (hb : HasN w S (.node k x ns ls nu p') qb) :
    Calls Tryz.prog 18 #[nval (.node k x ns ks nu p) qa, nval (.node k x ns ls nu p') qb, .bool false] w fun e w' => e = .returned (.bool true) ∧ Below w.heap.size w w' := by
  obtain ⟨a1, qs, a2, a3⟩ := ha
  obtain ⟨b1, rs, b2, b3⟩ := hb
  obtain ⟨q1, q2⟩ := qa
  obtain ⟨r1, r2⟩ := qb
  obtain ⟨v1, c1, h1, -, R1⟩ := name_row a1
  obtain ⟨v2, c2, h2, -, R2⟩ := name_row b1
  obtain ⟨v3, c3, h3, -, R3⟩ := kid_row a2 a3
  obtain ⟨v4, c4, h4, -, R4⟩ := kid_row b2 b3
  simp only at h1 h2 h3 h4
  subst h1; subst h2; subst h3; subst h4
  obtain ⟨hlen, hsame⟩ := sames_at ks ls hs
  have hkl := tsizes_len ks
  have hks := fun i h => Nat.le_trans (kid_size ks i h) (show tsizes ks ≤ n by omega)
  clear a1 a2 a3 b1 b2 b3 hs
  obtain ⟨X, hX⟩ : ∃ X : ByteArray, ⟨x.toArray⟩ = X := ⟨_, rfl⟩
  obtain ⟨N, hN⟩ : ∃ N, ns.length = N := ⟨_, rfl⟩
  obtain ⟨M, hM⟩ : ∃ M, ks.length = M := ⟨_, rfl⟩
  have hM2 : ls.length = M := by rw [← hlen]; exact hM
  have hN1 : N ≤ 5000 := by omega
  have hM1 : M ≤ 5000 := by omega
  show Calls Tryz.prog 18 #[.agg #[.int .i64 (k : Int), .string ⟨x.toArray⟩, .int .i64 (nu : Int), .int .i64 (p : Int), .slice v1 ns.length c1, .slice v3 ks.length c3], .agg #[.int .i64 (k : Int), .string ⟨x.toArray⟩, .int .i64 (nu : Int), .int .i64 (p' : Int), .slice v2 ns.length c2, .slice v4 ls.length c4], .bool false] w _
  rw [hX, hN, hM, hM2]
  have HR1 := Lib.hid R1
  have HR2 := Lib.hid R2
  have HR3 := Lib.hid R3
  have HR4 := Lib.hid R4
  have HM2 := Lib.hid hM2
  have HI := Lib.hid IH
  have HSm := Lib.hid hsame
  have HK := Lib.hid hks
  have HN := Lib.hid hN
  have HM := Lib.hid hM
  clear R1 R2 R3 R4 hlen IH hsame hks hN hM hM2 hsz hkl hX
  go_enter Tryz.func18, Tryz.ntmps18
  go_wp2
  obtain ⟨W, hW⟩ : ∃ W, ((w.alloc (.cells #[.int .i64 (k : Int), .string X, .int .i64 (nu : Int), .int .i64 (p : Int), .slice v1 N c1, .slice v3 M c3] 25)).alloc (.cells #[.int .i64 (k : Int), .string X, .int .i64 (nu : Int), .int .i64 (p' : Int), .slice v2 N c2, .slice v4 M c4] 25)) = W := ⟨_, rfl⟩
  have BW : Hid (Below w.heap.size w W) := by rw [← hW]; exact ((Below.refl _ _).alloc (Nat.le_refl _) _).alloc (by simp) _
  have KA : Hid (Bk W w.heap.size #[.int .i64 (k : Int), .string X, .int .i64 (nu : Int), .int .i64 (p : Int), .slice v1 N c1, .slice v3 M c3] 25) := by rw [← hW]; exact (Bk.new w #[.int .i64 (k : Int), .string X, .int .i64 (nu : Int), .int .i64 (p : Int), .slice v1 N c1, .slice v3 M c3] 25).alloc _
  have KB : Hid (Bk W (w.heap.size + 1) #[.int .i64 (k : Int), .string X, .int .i64 (nu : Int), .int .i64 (p' : Int), .slice v2 N c2, .slice v4 M c4] 25) := by
    rw [← hW, show w.heap.size + 1 = (w.alloc (.cells #[.int .i64 (k : Int), .string X, .int .i64 (nu : Int), .int .i64 (p : Int), .slice v1 N c1, .slice v3 M c3] 25)).heap.size by simp]
    exact Bk.new _ #[.int .i64 (k : Int), .string X, .int .i64 (nu : Int), .int .i64 (p' : Int), .slice v2 N c2, .slice v4 M c4] 25
  rw [hW]
  clear hW
  obtain ⟨H, hH⟩ : ∃ H, w.heap.size = H := ⟨_, rfl⟩
  rw [hH] at KA KB ⊢
  go_loopg [7] N (fun g i wr => ∃ j : Nat, j + g = N ∧ i = .int .i64 (j : Int) ∧ Hid (Below W.heap.size W wr))
  case atStart => exact ⟨0, Nat.zero_add _, rfl, Below.refl _ _⟩
  case round =>
    obtain ⟨j, hj, rfl, HX⟩ := hrel
    have A4 := (KA.out.below HX.out KA.out.lt).cell 4 _ rfl
    have B4 := (KB.out.below HX.out KB.out.lt).cell 4 _ rfl
    have zA := (KA.out.below HX.out KA.out.lt).lt
    have zB := (KB.out.below HX.out KB.out.lt).lt
    by_cases hlt : j < N
    · obtain ⟨g, rfl⟩ : ∃ g, gk = g + 1 := ⟨gk - 1, by omega⟩
      have hjn : j < ns.length := by rw [HN.out]; exact hlt
      obtain ⟨b1, o1, rfl, l1, C1⟩ := HR1.out.resolve_left (by rw [HN.out]; omega)
      obtain ⟨b2, o2, rfl, l2, C2⟩ := HR2.out.resolve_left (by rw [HN.out]; omega)
      have up : ∀ {q : Addr} {v : Value}, q.block < w.heap.size → w.cell? q = some v → wr.cell? q = some v := fun {q v} hq hv => (HX.out.cell (Nat.lt_of_lt_of_le hq BW.out.size)).trans ((BW.out.cell hq).trans hv)
      have x1 := up (by exact l1) (C1 j hjn)
      have x2 := up (by exact l2) (C2 j hjn)
      obtain ⟨V, hV⟩ : ∃ V : ByteArray, ⟨ns[j].toArray⟩ = V := ⟨_, rfl⟩
      unfold sv at x1 x2
      rw [hV] at x1 x2
      have y1 : b1 < wr.heap.size := Nat.lt_of_lt_of_le (Nat.lt_of_lt_of_le l1 BW.out.size) HX.out.size
      have y2 : b2 < wr.heap.size := Nat.lt_of_lt_of_le (Nat.lt_of_lt_of_le l2 BW.out.size) HX.out.size
      have i0 : (0 : Int) ≤ (j : Int) := by omega
      have i1 : (j : Int) < (N : Int) := by omega
      clear up C1 C2 hV
      go_wp2_with fail
      go_quiet (fail)
      have HY : Hid (Below W.heap.size W (wr.drewN nq)) := HX.out.trans ⟨rfl, rfl, rfl, Nat.le_refl _, fun _ _ => rfl⟩
      go_wp2
      go_roundg g
      case rel => exact ⟨j + 1, by omega, by go_num, HY⟩
      case measure => omega
    · go_wp2
      clear A4 B4 zA zB hlt hj
      go_loopg [8] M (fun g i wr => ∃ j : Nat, j + g = M ∧ i = .int .i64 (j : Int) ∧ Hid (Below W.heap.size W wr))
      case atStart => exact ⟨0, Nat.zero_add _, rfl, HX⟩
      case round =>
        clear HX
        obtain ⟨j, hj, rfl, HX⟩ := hrel
        have A5 := (KA.out.below HX.out KA.out.lt).cell 5 _ rfl
        have B5 := (KB.out.below HX.out KB.out.lt).cell 5 _ rfl
        have zA := (KA.out.below HX.out KA.out.lt).lt
        have zB := (KB.out.below HX.out KB.out.lt).lt
        by_cases hlt : j < M
        · obtain ⟨g, rfl⟩ : ∃ g, gk = g + 1 := ⟨gk - 1, by omega⟩
          have hjk : j < ks.length := by rw [HM.out]; exact hlt
          have hjl : j < ls.length := by rw [HM2.out]; exact hlt
          obtain ⟨b3, o3, f3, rfl, l3, C3⟩ := HR3.out.resolve_left (by rw [HM.out]; omega)
          obtain ⟨b4, o4, f4, rfl, l4, C4⟩ := HR4.out.resolve_left (by rw [HM2.out]; omega)
          have BX : Below w.heap.size w wr := BW.out.trans (HX.out.mono BW.out.size)
          have K3 := (C3 j hjk).below BX l3
          have K4 := (C4 j hjl).below BX l4
          have y3 : b3 < wr.heap.size := Nat.lt_of_lt_of_le l3 BX.size
          have y4 : b4 < wr.heap.size := Nat.lt_of_lt_of_le l4 BX.size
          have HC := HI.out ks[j] ls[j] (f3 j) (f4 j) S wr.drew (HK.out j hjk) (HSm.out j hjk hjl) (HasN_below K3.n (below_drew (Below.refl _ wr))) (HasN_below K4.n (below_drew (Below.refl _ wr)))
          unfold nval at HC
          obtain ⟨x0, x1, x2, x3, x4, x5⟩ := And.intro K3.c0 (And.intro K3.c1 (And.intro K3.c2 (And.intro K3.c3 (And.intro K3.c4 K3.c5))))
          obtain ⟨u0, u1, u2, u3, u4, u5⟩ := And.intro K4.c0 (And.intro K4.c1 (And.intro K4.c2 (And.intro K4.c3 (And.intro K4.c4 K4.c5))))
          generalize (ks[j].kind : Int) = a0 at HC x0
          generalize (⟨ks[j].text.toArray⟩ : ByteArray) = a1 at HC x1
          generalize (ks[j].num : Int) = a2 at HC x2
          generalize (ks[j].pl : Int) = a3 at HC x3
          generalize (f3 j).1 = a4 at HC x4
          generalize (f3 j).2 = a5 at HC x5
          generalize (ls[j].kind : Int) = d0 at HC u0
          generalize (⟨ls[j].text.toArray⟩ : ByteArray) = d1 at HC u1
          generalize (ls[j].num : Int) = d2 at HC u2
          generalize (ls[j].pl : Int) = d3 at HC u3
          generalize (f4 j).1 = d4 at HC u4
          generalize (f4 j).2 = d5 at HC u5
          have HC := Lib.hid HC
          have i0 : (0 : Int) ≤ (j : Int) := by omega
          have i1 : (j : Int) < (M : Int) := by omega
          clear K3 K4 C3 C4 BX
          go_wp2_with fail
          have LL : Hid (∀ (w3 : World), Below wr.drew.heap.size wr.drew w3 → w3.cell? ⟨H, 5, none⟩ = some (.slice (some ⟨b3, o3, none⟩) M c3) ∧ w3.cell? ⟨H + 1, 5, none⟩ = some (.slice (some ⟨b4, o4, none⟩) M c4) ∧
              w3.cell? ⟨b3, o3 + j * 6, none⟩ = some (.int .i64 a0) ∧ w3.cell? ⟨b3, o3 + j * 6 + 1, none⟩ = some (.string a1) ∧ w3.cell? ⟨b3, o3 + j * 6 + 2, none⟩ = some (.int .i64 a2) ∧ w3.cell? ⟨b3, o3 + j * 6 + 3, none⟩ = some (.int .i64 a3) ∧ w3.cell? ⟨b3, o3 + j * 6 + 4, none⟩ = some a4 ∧ w3.cell? ⟨b3, o3 + j * 6 + 5, none⟩ = some a5 ∧
              w3.cell? ⟨b4, o4 + j * 6, none⟩ = some (.int .i64 d0) ∧ w3.cell? ⟨b4, o4 + j * 6 + 1, none⟩ = some (.string d1) ∧ w3.cell? ⟨b4, o4 + j * 6 + 2, none⟩ = some (.int .i64 d2) ∧ w3.cell? ⟨b4, o4 + j * 6 + 3, none⟩ = some (.int .i64 d3) ∧ w3.cell? ⟨b4, o4 + j * 6 + 4, none⟩ = some d4 ∧ w3.cell? ⟨b4, o4 + j * 6 + 5, none⟩ = some d5) := fun w3 hb =>
            ⟨(hb.cell (p := ⟨H, 5, none⟩) zA).trans A5, (hb.cell (p := ⟨H + 1, 5, none⟩) zB).trans B5, (hb.cell (p := ⟨b3, o3 + j * 6, none⟩) y3).trans x0, (hb.cell (p := ⟨b3, o3 + j * 6 + 1, none⟩) y3).trans x1, (hb.cell (p := ⟨b3, o3 + j * 6 + 2, none⟩) y3).trans x2, (hb.cell (p := ⟨b3, o3 + j * 6 + 3, none⟩) y3).trans x3, (hb.cell (p := ⟨b3, o3 + j * 6 + 4, none⟩) y3).trans x4, (hb.cell (p := ⟨b3, o3 + j * 6 + 5, none⟩) y3).trans x5,
              (hb.cell (p := ⟨b4, o4 + j * 6, none⟩) y4).trans u0, (hb.cell (p := ⟨b4, o4 + j * 6 + 1, none⟩) y4).trans u1, (hb.cell (p := ⟨b4, o4 + j * 6 + 2, none⟩) y4).trans u2, (hb.cell (p := ⟨b4, o4 + j * 6 + 3, none⟩) y4).trans u3, (hb.cell (p := ⟨b4, o4 + j * 6 + 4, none⟩) y4).trans u4, (hb.cell (p := ⟨b4, o4 + j * 6 + 5, none⟩) y4).trans u5⟩
          have L0 := LL.out wr.drew (Below.refl _ _)
          have BD : Hid (Below W.heap.size W wr.drew) := below_drew HX.out
          go_region_held3 (fun w' => w'.cell? ⟨H, 5, none⟩ = some (.slice (some ⟨b3, o3, none⟩) M c3) ∧ w'.cell? ⟨H + 1, 5, none⟩ = some (.slice (some ⟨b4, o4, none⟩) M c4) ∧
              w'.cell? ⟨b3, o3 + j * 6, none⟩ = some (.int .i64 a0) ∧ w'.cell? ⟨b3, o3 + j * 6 + 1, none⟩ = some (.string a1) ∧ w'.cell? ⟨b3, o3 + j * 6 + 2, none⟩ = some (.int .i64 a2) ∧ w'.cell? ⟨b3, o3 + j * 6 + 3, none⟩ = some (.int .i64 a3) ∧ w'.cell? ⟨b3, o3 + j * 6 + 4, none⟩ = some a4 ∧ w'.cell? ⟨b3, o3 + j * 6 + 5, none⟩ = some a5 ∧
              w'.cell? ⟨b4, o4 + j * 6, none⟩ = some (.int .i64 d0) ∧ w'.cell? ⟨b4, o4 + j * 6 + 1, none⟩ = some (.string d1) ∧ w'.cell? ⟨b4, o4 + j * 6 + 2, none⟩ = some (.int .i64 d2) ∧ w'.cell? ⟨b4, o4 + j * 6 + 3, none⟩ = some (.int .i64 d3) ∧ w'.cell? ⟨b4, o4 + j * 6 + 4, none⟩ = some d4 ∧ w'.cell? ⟨b4, o4 + j * 6 + 5, none⟩ = some d5)
            (first | with_reducible exact L0 | with_reducible exact L3 | fail)
            (first | (go_at_call 18; refine HC.out.mono ?_; rintro e w3 ⟨rfl, hb3⟩; have L3 := LL.out w3 hb3; have HB3 := Lib.hid hb3; clear hb3))
          have HY : Hid (Below W.heap.size W w3) := BD.out.trans (HB3.out.mono BD.out.size)
          go_wp2
          go_roundg g
          case rel => exact ⟨j + 1, by omega, by go_num, HY⟩
          case measure => omega
        · go_wp2
          go_ret
          exact ⟨rfl, BW.out.trans (HX.out.mono BW.out.size)⟩
theorem rsame : ∀ (n : Nat), n ≤ 5001 → ∀ (a b : Tree) (qa qb : Value × Value) (S : Nat → Prop) (w : World), tsize a ≤ n → same a b = true → HasN w S a qa → HasN w S b qb → Calls Tryz.prog 18 #[nval a qa, nval b qb, .bool false] w fun e w' => e = .returned (.bool true) ∧ Below w.heap.size w w'
  | 0, _, a, _, _, _, _, _, h, _, _, _ => absurd (tsize_pos a) (by omega)
  | n + 1, hn, .node k x ns ks nu p, .node k' x' ns' ks' nu' p', qa, qb, S, w, h, hs, ha, hb => by
    simp only [same, Bool.and_eq_true, decide_eq_true_eq] at hs
    obtain ⟨rfl, rfl, rfl, rfl, hs⟩ := hs
    rw [size_mk] at h
    exact rsame_step n (by omega) (rsame n (by omega)) k p p' nu x ns ks ks' qa qb S w (by omega) hs ha hb
end Go.Proofs.YtlcapkgbbgpdmaaGreatDoor.QI

/- What law05's walks share: the first bytes, tokens' places, lines put together. -/
namespace Go.Proofs.YtlcapkgbbgpdmaaGreatDoor.QJ
open Go.RowKit Go.Proofs.YtlcapkgbbgpdmaaGreatDoor.P Go.Proofs.YtlcapkgbbgpdmaaGreatDoor.A Go.Proofs.YtlcapkgbbgpdmaaGreatDoor.TK Go.Proofs.YtlcapkgbbgpdmaaGreatDoor.TO Go.Proofs.YtlcapkgbbgpdmaaGreatDoor.YT Go.Proofs.YtlcapkgbbgpdmaaGreatDoor.GR Go.Proofs.YtlcapkgbbgpdmaaGreatDoor.PN Go.Proofs.YtlcapkgbbgpdmaaGreatDoor.PS Go.Proofs.YtlcapkgbbgpdmaaGreatDoor.QE Go.Proofs.YtlcapkgbbgpdmaaGreatDoor.QH Go.Proofs.YtlcapkgbbgpdmaaGreatDoor.QI Go.Proofs.YtlcapkgbbgpdmaaGreatDoor.RZ
set_option linter.unusedVariables false
set_option maxRecDepth 100000

theorem few_any (s : ByteArray) (w : World) :
    Calls Tryz.prog 16 #[.string s] w fun e w' => (∃ t : ByteArray, t.size ≤ 400 ∧ e = .returned (.string t)) ∧ w = w' := by
  go_enter Tryz.func16, Tryz.ntmps16
  go_wp2
  · go_ret
    exact ⟨⟨s.extract 0 400, by simp; omega, rfl⟩, rfl⟩
  · go_ret
    exact ⟨⟨s, by omega, rfl⟩, rfl⟩
theorem tok_post {w : World} {L : List Tok × Nat × Nat} {x : Ending} {w' : World} (h : TokPost w L x w') (hne : L.1 ≠ []) :
    ∃ b off cap, x = .returned (.tuple #[.slice (some ⟨b, off, none⟩) L.1.length cap, .int .i64 (L.2.1 : Int), .int .i64 (L.2.2 : Int)]) ∧ b < w'.heap.size ∧ (∀ j (h : j < L.1.length), w'.cell? ⟨b, off + j * 4 + 3, none⟩ = some (.int .i64 (L.1[j].p : Int))) ∧ Below w.heap.size w w' := by
  obtain ⟨v, rfl, ⟨ao, cap, rfl, hc, h⟩, hb⟩ := h
  rcases h with h | ⟨b, off, rfl, hlt, hcell⟩
  · exact absurd h hne
  · refine ⟨b, off, cap, rfl, hlt, fun j hj => ?_, hb⟩
    have := hcell j hj 3 (by decide)
    rw [show off + (4 * j + 3) = off + j * 4 + 3 by omega] at this
    exact this
theorem tok_err {w : World} {p e : Nat} {x : Ending} {w' : World} (h : TokPost w ([], p, e) x w') :
    ∃ ao cap, x = .returned (.tuple #[.slice ao 0 cap, .int .i64 (p : Int), .int .i64 (e : Int)]) ∧ Below w.heap.size w w' := by
  obtain ⟨v, rfl, ⟨ao, cap, rfl, hc, h⟩, hb⟩ := h
  exact ⟨ao, cap, rfl, hb⟩

-- lines put together from the front on
def tat (ts : List Tok) (j : Nat) : Nat := (ts.map (·.p)).getD j 0
theorem tat_lt {ts : List Tok} {j : Nat} (h : j < ts.length) : tat ts j = ts[j].p := by simp [tat, List.getD, h]
/-- Where a token's line ends. -/
def pe (n : Nat) (ts : List Tok) (j : Nat) : Nat := if j + 1 < ts.length then tat ts (j + 1) else n
def pre (s : List UInt8) (ts : List Tok) : Nat → List UInt8
  | 0 => []
  | j + 1 => pre s ts j ++ ((s.drop (tat ts j)).take (pe s.length ts j - tat ts j) ++ [10])
theorem pre_lines (s : List UInt8) (ts : List Tok) : ∀ (k j : Nat), j + k = ts.length → pre s ts j ++ LB.lines s (ts.drop j) = pre s ts ts.length
  | 0, j, h => by
    have : j = ts.length := by omega
    subst this
    simp [LB.lines]
  | k + 1, j, h => by
    have ih := pre_lines s ts k (j + 1) (by omega)
    rw [← ih]
    have hj : j < ts.length := by omega
    rw [List.drop_eq_getElem_cons hj]
    show _ = (pre s ts j ++ ((s.drop (tat ts j)).take (pe s.length ts j - tat ts j) ++ [10])) ++ LB.lines s (ts.drop (j + 1))
    rw [tat_lt hj]
    unfold pe
    by_cases h1 : j + 1 < ts.length
    · rw [if_pos h1, tat_lt h1, List.drop_eq_getElem_cons h1]
      show _ ++ ((s.drop ts[j].p).take (ts[j + 1].p - ts[j].p) ++ 10 :: LB.lines s (ts[j + 1] :: ts.drop (j + 1 + 1))) = _
      simp
    · rw [if_neg h1, List.drop_eq_nil_of_le (by omega)]
      show _ ++ (s.drop ts[j].p ++ [10]) = _
      have e : (s.drop ts[j].p).take (s.length - ts[j].p) = s.drop ts[j].p := List.take_of_length_le (by simp)
      rw [e]
      simp [LB.lines]
theorem pre_all (s : List UInt8) (ts : List Tok) : pre s ts ts.length = LB.lines s ts := by
  have := pre_lines s ts ts.length 0 (by omega)
  simpa [pre] using this.symm
theorem add_line (s T : ByteArray) (ts : List Tok) (j : Nat) (e : Nat) (hT : T.data.toList = pre s.data.toList ts j) (he : e = pe s.data.toList.length ts j) :
    (T ++ s.extract (tat ts j) e ++ (⟨#[10]⟩ : ByteArray)).data.toList = pre s.data.toList ts (j + 1) := by
  rw [ByteArray.data_append, ByteArray.data_append, Array.toList_append, Array.toList_append, hT, ByteArray.data_extract, Array.toList_extract, he]
  show _ = pre s.data.toList ts j ++ ((s.data.toList.drop (tat ts j)).take (pe s.data.toList.length ts j - tat ts j) ++ [10])
  rw [List.append_assoc]
/-- A node that a call to parse.Program has made. -/
theorem out_any {w : World} {x : Ending} {w' : World} {t : Tree} {p e : Nat} (h : ROut w (t, p, e) x w') :
    ∃ ao an ac bo bn bc, x = .returned (.tuple #[.agg #[.int .i64 (t.kind : Int), .string ⟨t.text.toArray⟩, .int .i64 (t.num : Int), .int .i64 (t.pl : Int), .slice ao an ac, .slice bo bn bc], .int .i64 (p : Int), .int .i64 (e : Int)]) ∧ Below w.heap.size w w' ∧ HasN w' (fun _ => True) t (.slice ao an ac, .slice bo bn bc) := by
  obtain ⟨ao, ac, bo, bc, rfl, hb, hn⟩ := h
  exact ⟨_, _, _, _, _, _, rfl, hb, HasN.keep (Nat.le_refl _) (fun b _ _ => ⟨trivial, rfl⟩) _ _ hn⟩
end Go.Proofs.YtlcapkgbbgpdmaaGreatDoor.QJ

/- law05's placed: each node of a tree stands at a token. -/
namespace Go.Proofs.YtlcapkgbbgpdmaaGreatDoor.QK
open Go.RowKit Go.Proofs.YtlcapkgbbgpdmaaGreatDoor.P Go.Proofs.YtlcapkgbbgpdmaaGreatDoor.A Go.Proofs.YtlcapkgbbgpdmaaGreatDoor.GR Go.Proofs.YtlcapkgbbgpdmaaGreatDoor.PN Go.Proofs.YtlcapkgbbgpdmaaGreatDoor.PS Go.Proofs.YtlcapkgbbgpdmaaGreatDoor.QE Go.Proofs.YtlcapkgbbgpdmaaGreatDoor.QH Go.Proofs.YtlcapkgbbgpdmaaGreatDoor.QI Go.Proofs.YtlcapkgbbgpdmaaGreatDoor.QJ Go.Proofs.YtlcapkgbbgpdmaaGreatDoor.RZ Go.Proofs.YtlcapkgbbgpdmaaGreatDoor.RP
set_option linter.unusedVariables false
set_option maxRecDepth 100000

/-- Is this place among the first ones? -/
def seen (f : Nat → Nat) (P : Nat) : Nat → Bool
  | 0 => false
  | j + 1 => seen f P j || decide (f j = P)
theorem seen_of {f : Nat → Nat} {P : Nat} : ∀ {n j : Nat}, j < n → f j = P → seen f P n = true
  | 0, j, h, _ => absurd h (by omega)
  | n + 1, j, h, e => by
    unfold seen
    by_cases hj : j = n
    · subst hj; simp [e]
    · rw [seen_of (n := n) (by omega) e]; rfl
/-- The tokens' row. -/
structure Toks (w : World) (b o n : Nat) (f : Nat → Nat) : Prop where
  lt : b < w.heap.size
  le : n ≤ 5000
  c : ∀ j, j < n → w.cell? ⟨b, o + j * 4 + 3, none⟩ = some (.int .i64 (f j : Int))
theorem Toks.below {w w' : World} {b o n : Nat} {f : Nat → Nat} (h : Toks w b o n f) (hb : Below w.heap.size w w') : Toks w' b o n f :=
  ⟨Nat.lt_of_lt_of_le h.lt hb.size, h.le, fun j hj => (hb.cell (p := ⟨b, o + j * 4 + 3, none⟩) h.lt).trans (h.c j hj)⟩
theorem plcs_at {ps : List Nat} {lo : Nat} : ∀ (ts : List Tree), plcs ps lo ts = true → ∀ i (h : i < ts.length), plc ps ts[i] = true ∧ lo ≤ ts[i].pl
  | t :: ts, h, 0, _ => by
    simp only [plcs, Bool.and_eq_true, decide_eq_true_eq] at h
    exact ⟨h.1, h.2.1⟩
  | t :: ts, h, i + 1, hi => by
    simp only [plcs, Bool.and_eq_true, decide_eq_true_eq] at h
    exact plcs_at ts h.2.2 i (by simpa using hi)
  | [], _, _, hi => absurd hi (by simp)

set_option maxHeartbeats 2000000 in
theorem placed_step (m : Nat) (hm : m ≤ 5000) (ps : List Nat) (b o n c : Nat) (f : Nat → Nat) (hps : ∀ p ∈ ps, ∃ j, j < n ∧ f j = p)
    (IH : ∀ (a : Tree) (qa : Value × Value) (S : Nat → Prop) (w : World), tsize a ≤ m → plc ps a = true → HasN w S a qa → Toks w b o n f → Calls Tryz.prog 22 #[nval a qa, .slice (some ⟨b, o, none⟩) n c] w fun e w' => e = .returned (.bool true) ∧ Below w.heap.size w w')
    (k p nu : Nat) (x : By) (ns : List By) (ks : List Tree) (qa : Value × Value) (S : Nat → Prop) (w : World) (hsz : ns.length + tsizes ks ≤ m) (hp : p ∈ ps) (hs : plcs ps p ks = true) (ha : HasN w S (.node k x ns ks nu p) qa) (ht : Toks w b o n f) :
    Calls Tryz.prog 22 #[nval (.node k x ns ks nu p) qa, .slice (some ⟨b, o, none⟩) n c] w fun e w' => e = .returned (.bool true) ∧ Below w.heap.size w w' := by
  obtain ⟨a1, qs, a2, a3⟩ := ha
  obtain ⟨q1, q2⟩ := qa
  obtain ⟨v1, c1, h1, -, R1⟩ := name_row a1
  obtain ⟨v3, c3, h3, -, R3⟩ := kid_row a2 a3
  simp only at h1 h3
  subst h1; subst h3
  have hkl := tsizes_len ks
  have hks := fun i h => Nat.le_trans (kid_size ks i h) (show tsizes ks ≤ m by omega)
  have hpl := plcs_at ks hs
  have hseen : seen f p n = true := by
    obtain ⟨j, hj, e⟩ := hps p hp
    exact seen_of hj e
  have hn5 := ht.le
  clear a1 a2 a3 hs hp hps R1
  obtain ⟨X, hX⟩ : ∃ X : ByteArray, ⟨x.toArray⟩ = X := ⟨_, rfl⟩
  obtain ⟨N, hN⟩ : ∃ N, ns.length = N := ⟨_, rfl⟩
  obtain ⟨M, hM⟩ : ∃ M, ks.length = M := ⟨_, rfl⟩
  have hM1 : M ≤ 5000 := by omega
  show Calls Tryz.prog 22 #[.agg #[.int .i64 (k : Int), .string ⟨x.toArray⟩, .int .i64 (nu : Int), .int .i64 (p : Int), .slice v1 ns.length c1, .slice v3 ks.length c3], .slice (some ⟨b, o, none⟩) n c] w _
  rw [hX, hN, hM]
  have HR3 := Lib.hid R3
  have HI := Lib.hid IH
  have HK := Lib.hid hks
  have HP := Lib.hid hpl
  have HM := Lib.hid hM
  have HT := Lib.hid ht
  have HS := Lib.hid hseen
  clear R3 IH hks hN hM hsz hkl hX hpl ht hseen
  go_enter Tryz.func22, Tryz.ntmps22
  go_wp2
  obtain ⟨W, hW⟩ : ∃ W, (w.alloc (.cells #[.int .i64 (k : Int), .string X, .int .i64 (nu : Int), .int .i64 (p : Int), .slice v1 N c1, .slice v3 M c3] 25)) = W := ⟨_, rfl⟩
  have BW : Hid (Below w.heap.size w W) := by rw [← hW]; exact (Below.refl _ _).alloc (Nat.le_refl _) _
  have KA : Hid (Bk W w.heap.size #[.int .i64 (k : Int), .string X, .int .i64 (nu : Int), .int .i64 (p : Int), .slice v1 N c1, .slice v3 M c3] 25) := by rw [← hW]; exact Bk.new w _ _
  have HTW : Hid (Toks W b o n f) := HT.out.below BW.out
  rw [hW]
  clear hW
  obtain ⟨H, hH⟩ : ∃ H, w.heap.size = H := ⟨_, rfl⟩
  rw [hH] at KA ⊢
  go_loopg [5, 6] n (fun g a i wr => ∃ j : Nat, j + g = n ∧ a = .bool (seen f p j) ∧ i = .int .i64 (j : Int) ∧ Hid (Below W.heap.size W wr))
  case atStart => exact ⟨0, Nat.zero_add _, rfl, rfl, Below.refl _ _⟩
  case round =>
    obtain ⟨j, hj, rfl, rfl, HX⟩ := hrel
    have A3 := (KA.out.below HX.out KA.out.lt).cell 3 _ rfl
    have zA := (KA.out.below HX.out KA.out.lt).lt
    by_cases hlt : j < n
    · obtain ⟨g, rfl⟩ : ∃ g, gk = g + 1 := ⟨gk - 1, by omega⟩
      have TW := HTW.out.below HX.out
      have x3 := TW.c j hlt
      have zb := TW.lt
      have i0 : (0 : Int) ≤ (j : Int) := by omega
      have i1 : (j : Int) < (n : Int) := by omega
      cases hsn : seen f p j with
      | true =>
        have e1 : Hid (seen f p (j + 1) = true) := by show _ = _; unfold seen; rw [hsn]; rfl
        clear TW hsn
        go_wp2_with fail
        go_quiet (fail)
        have HY : Hid (Below W.heap.size W (wr.drewN nq)) := HX.out.trans ⟨rfl, rfl, rfl, Nat.le_refl _, fun _ _ => rfl⟩
        go_wp2
        go_roundg g
        case rel => exact ⟨j + 1, by omega, by rw [e1.out], by go_num, HY⟩
        case measure => omega
      | false =>
        by_cases hfp : f j = p
        · have e1 : Hid (seen f p (j + 1) = true) := by show _ = _; unfold seen; rw [hsn, decide_eq_true hfp]; rfl
          have t1 : ((f j : Int) == (p : Int)) = true := by rw [beq_iff_eq]; omega
          clear TW hsn hfp
          go_wp2_with fail
          go_quiet (fail)
          have HY : Hid (Below W.heap.size W (wr.drewN nq)) := HX.out.trans ⟨rfl, rfl, rfl, Nat.le_refl _, fun _ _ => rfl⟩
          go_wp2
          go_roundg g
          case rel => exact ⟨j + 1, by omega, by rw [e1.out], by go_num, HY⟩
          case measure => omega
        · have e1 : Hid (seen f p (j + 1) = false) := by show _ = _; unfold seen; rw [hsn, decide_eq_false hfp]; rfl
          have t1 : ((f j : Int) == (p : Int)) = false := by rw [beq_eq_false_iff_ne]; omega
          clear TW hsn hfp
          go_wp2_with fail
          go_quiet (fail)
          have HY : Hid (Below W.heap.size W (wr.drewN nq)) := HX.out.trans ⟨rfl, rfl, rfl, Nat.le_refl _, fun _ _ => rfl⟩
          go_wp2
          go_roundg g
          case rel => exact ⟨j + 1, by omega, by rw [e1.out], by go_num, HY⟩
          case measure => omega
    · obtain rfl : j = n := by omega
      rw [HS.out]
      clear A3 zA hlt hj
      go_wp2
      go_loopg [7] M (fun g i wr => ∃ j : Nat, j + g = M ∧ i = .int .i64 (j : Int) ∧ Hid (Below W.heap.size W wr))
      case atStart => exact ⟨0, Nat.zero_add _, rfl, HX⟩
      case round =>
        clear HX
        obtain ⟨i, hi, rfl, HX⟩ := hrel
        have A5 := (KA.out.below HX.out KA.out.lt).cell 5 _ rfl
        have zA := (KA.out.below HX.out KA.out.lt).lt
        by_cases hlt : i < M
        · obtain ⟨g, rfl⟩ : ∃ g, gk = g + 1 := ⟨gk - 1, by omega⟩
          have hik : i < ks.length := by rw [HM.out]; exact hlt
          obtain ⟨b3, o3, f3, rfl, l3, C3⟩ := HR3.out.resolve_left (by rw [HM.out]; omega)
          have BX : Below w.heap.size w wr := BW.out.trans (HX.out.mono BW.out.size)
          have K3 := (C3 i hik).below BX l3
          have y3 : b3 < wr.heap.size := Nat.lt_of_lt_of_le l3 BX.size
          have HC := HI.out ks[i] (f3 i) S wr (HK.out i hik) (HP.out i hik).1 K3.n (HTW.out.below HX.out)
          have hpl := (HP.out i hik).2
          unfold nval at HC
          have x0 := K3.c0; have x1 := K3.c1; have x2 := K3.c2; have x3 := K3.c3; have x4 := K3.c4; have x5 := K3.c5
          generalize (ks[i].kind : Int) = a0 at HC x0
          generalize (⟨ks[i].text.toArray⟩ : ByteArray) = a1 at HC x1
          generalize (ks[i].num : Int) = a2 at HC x2
          generalize ks[i].pl = a3 at HC x3 hpl
          generalize (f3 i).1 = a4 at HC x4
          generalize (f3 i).2 = a5 at HC x5
          have HC := Lib.hid HC
          have i0 : (0 : Int) ≤ (i : Int) := by omega
          have i1 : (i : Int) < (M : Int) := by omega
          clear K3 C3 BX
          have LL : Hid (∀ (w3 : World), Below wr.heap.size wr w3 → w3.cell? ⟨H, 3, none⟩ = some (.int .i64 (p : Int)) ∧ w3.cell? ⟨H, 5, none⟩ = some (.slice (some ⟨b3, o3, none⟩) M c3) ∧ w3.cell? ⟨b3, o3 + i * 6 + 3, none⟩ = some (.int .i64 (a3 : Int)) ∧ H < w3.heap.size ∧ b3 < w3.heap.size) := fun w3 hb =>
            ⟨(hb.cell (p := ⟨H, 3, none⟩) zA).trans ((KA.out.below HX.out KA.out.lt).cell 3 _ rfl), (hb.cell (p := ⟨H, 5, none⟩) zA).trans A5, (hb.cell (p := ⟨b3, o3 + i * 6 + 3, none⟩) y3).trans x3, Nat.lt_of_lt_of_le zA hb.size, Nat.lt_of_lt_of_le y3 hb.size⟩
          go_wp2_with fail
          refine HC.out.mono ?_
          rintro e w3 ⟨rfl, hb3⟩
          obtain ⟨k3, k5, m3, kl, ml⟩ := LL.out w3 hb3
          have HB3 := Lib.hid (HX.out.trans (hb3.mono HX.out.size))
          have t2 : decide (a3 < p) = false := by simp; omega
          clear hb3 A5 zA x0 x1 x2 x3 x4 x5 y3 LL HC hpl
          go_wp2_with fail
          go_quiet (fail)
          have HY : Hid (Below W.heap.size W (w3.drewN nq)) := HB3.out.trans ⟨rfl, rfl, rfl, Nat.le_refl _, fun _ _ => rfl⟩
          go_wp2
          go_roundg g
          case rel => exact ⟨i + 1, by omega, by go_num, HY⟩
          case measure => omega
        · go_wp2
          go_ret
          exact ⟨rfl, BW.out.trans (HX.out.mono BW.out.size)⟩
theorem placed (ps : List Nat) (b o n c : Nat) (f : Nat → Nat) (hps : ∀ p ∈ ps, ∃ j, j < n ∧ f j = p) : ∀ (m : Nat), m ≤ 5001 → ∀ (a : Tree) (qa : Value × Value) (S : Nat → Prop) (w : World), tsize a ≤ m → plc ps a = true → HasN w S a qa → Toks w b o n f → Calls Tryz.prog 22 #[nval a qa, .slice (some ⟨b, o, none⟩) n c] w fun e w' => e = .returned (.bool true) ∧ Below w.heap.size w w'
  | 0, _, a, _, _, _, h, _, _, _ => absurd (tsize_pos a) (by omega)
  | m + 1, hm, .node k x ns ks nu p, qa, S, w, h, hs, ha, ht => by
    simp only [plc, Bool.and_eq_true, decide_eq_true_eq] at hs
    rw [size_mk] at h
    exact placed_step m (by omega) ps b o n c f hps (placed ps b o n c f hps m (by omega)) k p nu x ns ks qa S w (by omega) hs.1 hs.2 ha ht
end Go.Proofs.YtlcapkgbbgpdmaaGreatDoor.QK
