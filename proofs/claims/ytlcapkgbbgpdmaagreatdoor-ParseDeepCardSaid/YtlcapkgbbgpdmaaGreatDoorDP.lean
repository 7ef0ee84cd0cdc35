/- Brackets in one another, as deep as may be and deeper, plainly. Nothing of the program is in sight. -/
import Derived.Test.YtlcapkgbbgpdmaaGreatDoorZB
import Derived.Test.YtlcapkgbbgpdmaaGreatDoorTJ
namespace Go.Proofs.YtlcapkgbbgpdmaaGreatDoor.DP
open Go.Proofs.YtlcapkgbbgpdmaaGreatDoor.TK Go.Proofs.YtlcapkgbbgpdmaaGreatDoor.TJ Go.Proofs.YtlcapkgbbgpdmaaGreatDoor.GR Go.Proofs.YtlcapkgbbgpdmaaGreatDoor.MB
set_option linter.unusedVariables false
set_option maxRecDepth 100000

-- reading
abbrev RL (l : List UInt8) (i : Nat) : Except (Nat × Nat) (List Tok) := run (l.length + 1) l i
def glue (t : List Tok) (r : Except (Nat × Nat) (List Tok)) : Except (Nat × Nat) (List Tok) :=
  match r with
  | .ok ts => .ok (t ++ ts)
  | .error e => .error e
theorem glue_glue (a b : List Tok) (r : Except (Nat × Nat) (List Tok)) : glue a (glue b r) = glue (a ++ b) r := by
  cases r <;> simp [glue]
theorem rl_blank {c : UInt8} (r : List UInt8) (i : Nat) (h : bl c = true) : RL (c :: r) i = RL r (i + 1) := by
  show run ((r.length + 1) + 1) (c :: r) i = _
  rw [run_cons, if_pos h]
theorem rl_tok {c : UInt8} {r : List UInt8} (i : Nat) {k n m : Nat} {x : List UInt8} (hb : bl c = false) (h35 : c ≠ 35) (h : tk (c :: r) = ((k, x, n), m, 0)) (hm : 1 ≤ m) :
    RL (c :: r) i = glue [⟨k, x, n, i⟩] (RL ((c :: r).drop m) (i + m)) := by
  show run ((r.length + 1) + 1) (c :: r) i = _
  have e : (c :: r).drop m = r.drop (m - 1) := by
    obtain ⟨m', rfl⟩ : ∃ m', m = m' + 1 := ⟨m - 1, by omega⟩
    rfl
  rw [run_cons, if_neg (by rw [hb]; decide), if_neg h35, h, if_pos rfl, e]
  show (match run (r.length + 1) (r.drop (m - 1)) (i + m) with | .ok ts => (Except.ok (⟨k, x, n, i⟩ :: ts) : Except (Nat × Nat) (List Tok)) | .error e => Except.error e) = _
  rw [run_fuel (r.length + 1) ((r.drop (m - 1)).length + 1) _ _ (by simp; omega) (by omega)]
  rfl
theorem rl_40 (r : List UInt8) (i : Nat) : RL (40 :: r) i = glue [⟨5, [40], 0, i⟩] (RL r (i + 1)) := rl_tok (c := 40) (r := r) i (k := 5) (x := [40]) (n := 0) (m := 1) (by decide) (by decide) (by rfl) (by decide)
theorem rl_41 (r : List UInt8) (i : Nat) : RL (41 :: r) i = glue [⟨5, [41], 0, i⟩] (RL r (i + 1)) := rl_tok (c := 41) (r := r) i (k := 5) (x := [41]) (n := 0) (m := 1) (by decide) (by decide) (by rfl) (by decide)
def oFun : List UInt8 := [102, 117, 110, 32, 120, 32, 45, 62, 32]
def oMatch : List UInt8 := [109, 97, 116, 99, 104, 32, 49, 32, 119, 105, 116, 104, 32, 124, 32, 95, 32, 45, 62, 32]
def cEnd : List UInt8 := [32, 101, 110, 100]
def tFun (i : Nat) : List Tok := [⟨6, wFun, 0, i⟩, ⟨3, [120], 0, i + 4⟩, ⟨5, wArrow, 0, i + 6⟩]
def tMatch (i : Nat) : List Tok := [⟨6, wMatch, 0, i⟩, ⟨1, [], 1, i + 6⟩, ⟨6, wWith, 0, i + 8⟩, ⟨5, [124], 0, i + 13⟩, ⟨5, [95], 0, i + 15⟩, ⟨5, wArrow, 0, i + 17⟩]
theorem rl_fun (r : List UInt8) (i : Nat) : RL (oFun ++ r) i = glue (tFun i) (RL r (i + 9)) := by
  show RL (102 :: 117 :: 110 :: 32 :: 120 :: 32 :: 45 :: 62 :: 32 :: r) i = _
  rw [rl_tok i (k := 6) (x := wFun) (n := 0) (m := 3) (by decide) (by decide) (by rfl) (by decide)]
  show glue _ (RL (32 :: 120 :: 32 :: 45 :: 62 :: 32 :: r) (i + 3)) = _
  rw [rl_blank _ _ (by decide)]
  rw [rl_tok (i + 3 + 1) (k := 3) (x := [120]) (n := 0) (m := 1) (by decide) (by decide) (by rfl) (by decide)]
  show glue _ (glue _ (RL (32 :: 45 :: 62 :: 32 :: r) (i + 3 + 1 + 1))) = _
  rw [rl_blank _ _ (by decide)]
  rw [rl_tok (i + 3 + 1 + 1 + 1) (k := 5) (x := wArrow) (n := 0) (m := 2) (by decide) (by decide) (by rfl) (by decide)]
  show glue _ (glue _ (glue _ (RL (32 :: r) (i + 3 + 1 + 1 + 1 + 2)))) = _
  rw [rl_blank _ _ (by decide), glue_glue, glue_glue]
  rfl
theorem rl_match (r : List UInt8) (i : Nat) : RL (oMatch ++ r) i = glue (tMatch i) (RL r (i + 20)) := by
  show RL (109 :: 97 :: 116 :: 99 :: 104 :: 32 :: 49 :: 32 :: 119 :: 105 :: 116 :: 104 :: 32 :: 124 :: 32 :: 95 :: 32 :: 45 :: 62 :: 32 :: r) i = _
  rw [rl_tok i (k := 6) (x := wMatch) (n := 0) (m := 5) (by decide) (by decide) (by rfl) (by decide)]
  show glue _ (RL (32 :: 49 :: 32 :: 119 :: 105 :: 116 :: 104 :: 32 :: 124 :: 32 :: 95 :: 32 :: 45 :: 62 :: 32 :: r) (i + 5)) = _
  rw [rl_blank _ _ (by decide)]
  rw [rl_tok (i + 5 + 1) (k := 1) (x := []) (n := 1) (m := 1) (by decide) (by decide) (by rfl) (by decide)]
  show glue _ (glue _ (RL (32 :: 119 :: 105 :: 116 :: 104 :: 32 :: 124 :: 32 :: 95 :: 32 :: 45 :: 62 :: 32 :: r) (i + 5 + 1 + 1))) = _
  rw [rl_blank _ _ (by decide)]
  rw [rl_tok (i + 5 + 1 + 1 + 1) (k := 6) (x := wWith) (n := 0) (m := 4) (by decide) (by decide) (by rfl) (by decide)]
  show glue _ (glue _ (glue _ (RL (32 :: 124 :: 32 :: 95 :: 32 :: 45 :: 62 :: 32 :: r) (i + 5 + 1 + 1 + 1 + 4)))) = _
  rw [rl_blank _ _ (by decide)]
  rw [rl_tok (i + 5 + 1 + 1 + 1 + 4 + 1) (k := 5) (x := [124]) (n := 0) (m := 1) (by decide) (by decide) (by rfl) (by decide)]
  show glue _ (glue _ (glue _ (glue _ (RL (32 :: 95 :: 32 :: 45 :: 62 :: 32 :: r) (i + 5 + 1 + 1 + 1 + 4 + 1 + 1))))) = _
  rw [rl_blank _ _ (by decide)]
  rw [rl_tok (i + 5 + 1 + 1 + 1 + 4 + 1 + 1 + 1) (k := 5) (x := [95]) (n := 0) (m := 1) (by decide) (by decide) (by rfl) (by decide)]
  show glue _ (glue _ (glue _ (glue _ (glue _ (RL (32 :: 45 :: 62 :: 32 :: r) (i + 5 + 1 + 1 + 1 + 4 + 1 + 1 + 1 + 1)))))) = _
  rw [rl_blank _ _ (by decide)]
  rw [rl_tok (i + 5 + 1 + 1 + 1 + 4 + 1 + 1 + 1 + 1 + 1) (k := 5) (x := wArrow) (n := 0) (m := 2) (by decide) (by decide) (by rfl) (by decide)]
  show glue _ (glue _ (glue _ (glue _ (glue _ (glue _ (RL (32 :: r) (i + 5 + 1 + 1 + 1 + 4 + 1 + 1 + 1 + 1 + 1 + 2))))))) = _
  rw [rl_blank _ _ (by decide)]
  rw [glue_glue, glue_glue, glue_glue, glue_glue, glue_glue]
  rfl

-- the source of n brackets of a kind
def ahead3 : List UInt8 := [100, 111, 32]
def opens (o : List UInt8) : Nat → List UInt8
  | 0 => []
  | n + 1 => o ++ opens o n
def opT (f : Nat → List Tok) (d : Nat) : Nat → Nat → List Tok
  | 0, _ => []
  | n + 1, i => f i ++ opT f d n (i + d)
theorem rl_opens {o : List UInt8} {f : Nat → List Tok} {d : Nat} (h : ∀ r i, RL (o ++ r) i = glue (f i) (RL r (i + d))) (r : List UInt8) : ∀ n i, RL (opens o n ++ r) i = glue (opT f d n i) (RL r (i + n * d))
  | 0, i => by
    show RL r i = glue [] (RL r (i + 0 * d))
    rw [Nat.zero_mul, Nat.add_zero]
    cases RL r i <;> rfl
  | n + 1, i => by
    show RL ((o ++ opens o n) ++ r) i = _
    rw [List.append_assoc, h, rl_opens h r n, glue_glue, Nat.add_assoc, show d + n * d = (n + 1) * d by rw [Nat.succ_mul, Nat.add_comm]]
    rfl
def t40 (i : Nat) : List Tok := [⟨5, [40], 0, i⟩]
def t41 (i : Nat) : List Tok := [⟨5, [41], 0, i⟩]
def tEnd (i : Nat) : List Tok := [⟨6, wEnd, 0, i + 1⟩]
theorem rl_ends : ∀ (n i : Nat), ∃ ts, RL (opens cEnd n) i = .ok ts ∧ ts = opT tEnd 4 n i ++ [⟨0, [], 0, i + n * 4⟩]
  | 0, i => ⟨[⟨0, [], 0, i⟩], rfl, by rw [Nat.zero_mul]; rfl⟩
  | n + 1, i => by
    obtain ⟨ts, h1, h2⟩ := rl_ends n (i + 4)
    refine ⟨tEnd i ++ ts, ?_, ?_⟩
    · cases n with
      | zero =>
        show RL (32 :: 101 :: 110 :: 100 :: []) i = _
        rw [rl_blank _ _ (by decide), rl_tok (c := 101) (r := [110, 100]) (i + 1) (k := 6) (x := wEnd) (n := 0) (m := 3) (by decide) (by decide) (by rfl) (by decide)]
        show glue _ (RL [] (i + 1 + 3)) = _
        rw [show i + 1 + 3 = i + 4 by omega]
        rw [show opens cEnd 0 = [] from rfl] at h1
        rw [h1]; rfl
      | succ n =>
        show RL (32 :: 101 :: 110 :: 100 :: 32 :: (101 :: 110 :: 100 :: opens cEnd n)) i = _
        rw [rl_blank _ _ (by decide), rl_tok (c := 101) (r := 110 :: 100 :: 32 :: (101 :: 110 :: 100 :: opens cEnd n)) (i + 1) (k := 6) (x := wEnd) (n := 0) (m := 3) (by decide) (by decide) (by rfl) (by decide)]
        show glue _ (RL (32 :: (101 :: 110 :: 100 :: opens cEnd n)) (i + 1 + 3)) = _
        rw [show i + 1 + 3 = i + 4 by omega]
        rw [show opens cEnd (n + 1) = 32 :: (101 :: 110 :: 100 :: opens cEnd n) from rfl] at h1
        rw [h1]; rfl
    · rw [h2, show i + 4 + n * 4 = i + (n + 1) * 4 by omega, ← List.append_assoc]
      rfl
end Go.Proofs.YtlcapkgbbgpdmaaGreatDoor.DP
