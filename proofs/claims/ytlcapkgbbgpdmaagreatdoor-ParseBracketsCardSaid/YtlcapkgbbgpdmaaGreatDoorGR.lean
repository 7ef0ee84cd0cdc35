/- The grammar, plainly: a source's tokens as a tree. Nothing of the program is in sight. -/
import Derived.Test.YtlcapkgbbgpdmaaGreatDoorTK
namespace Go.Proofs.YtlcapkgbbgpdmaaGreatDoor.GR
open Go.Proofs.YtlcapkgbbgpdmaaGreatDoor.TK
set_option linter.unusedVariables false
set_option maxRecDepth 100000

abbrev By := List UInt8
/-- A node: its kind, text, names, kids, number and place. -/
inductive Tree where
  | node (kind : Nat) (text : By) (names : List By) (kids : List Tree) (num : Nat) (pl : Nat) : Tree
def Tree.kind : Tree → Nat | .node k _ _ _ _ _ => k
def Tree.text : Tree → By | .node _ t _ _ _ _ => t
def Tree.names : Tree → List By | .node _ _ n _ _ _ => n
def Tree.kids : Tree → List Tree | .node _ _ _ k _ _ => k
def Tree.num : Tree → Nat | .node _ _ _ _ n _ => n
def Tree.pl : Tree → Nat | .node _ _ _ _ _ p => p

/-- An answer and the tokens behind it, or a place and an error. -/
abbrev R (α : Type) := Except (Nat × Nat) (α × List Tok)
def bnd {α β : Type} (r : R α) (f : α → List Tok → R β) : R β :=
  match r with
  | .ok (a, ts) => f a ts
  | .error e => .error e
@[simp] theorem bnd_ok {α β : Type} (a : α) (ts : List Tok) (f : α → List Tok → R β) : bnd (.ok (a, ts)) f = f a ts := rfl
@[simp] theorem bnd_err {α β : Type} (e : Nat × Nat) (f : α → List Tok → R β) : bnd (.error e : R α) f = .error e := rfl

def hd : List Tok → Tok
  | [] => ⟨0, [], 0, 0⟩
  | t :: _ => t
@[simp] theorem hd_cons (t : Tok) (ts : List Tok) : hd (t :: ts) = t := rfl
def fail {α : Type} (e : Nat) (ts : List Tok) : R α := .error ((hd ts).p, e)
/-- Is the next token this sign or key? -/
def isT (s : By) (ts : List Tok) : Bool := (decide ((hd ts).k = 5) || decide ((hd ts).k = 6)) && decide ((hd ts).t = s)
def want (s : By) (ts : List Tok) : R Unit := if isT s ts = true then .ok ((), ts.tail) else fail 14 ts
def txt (k : Nat) (ts : List Tok) : R By := if (hd ts).k = k then .ok ((hd ts).t, ts.tail) else fail 14 ts
/-- Again and again. -/
def rep {α : Type} (f : α → List Tok → Option (R α)) : Nat → α → List Tok → R α
  | 0, _, _ => .error (0, 99)
  | n + 1, a, ts =>
    match f a ts with
    | none => .ok (a, ts)
    | some r => bnd r (rep f n)
def reps {α : Type} (f : α → List Tok → Option (R α)) (a : α) (ts : List Tok) : R α := rep f (ts.length + 1) a ts

def leaf (k : Nat) (ts : List Tok) : R Tree := .ok (.node k (hd ts).t [] [] (hd ts).n (hd ts).p, ts.tail)

-- the words
def wLet : By := [108, 101, 116]
def wRec : By := [114, 101, 99]
def wIn : By := [105, 110]
def wFun : By := [102, 117, 110]
def wIf : By := [105, 102]
def wThen : By := [116, 104, 101, 110]
def wElse : By := [101, 108, 115, 101]
def wMatch : By := [109, 97, 116, 99, 104]
def wWith : By := [119, 105, 116, 104]
def wEnd : By := [101, 110, 100]
def wTry : By := [116, 114, 121]
def wRetry : By := [114, 101, 116, 114, 121]
def wType : By := [116, 121, 112, 101]
def wOf : By := [111, 102]
def wDo : By := [100, 111]
def wArrow : By := [45, 62]
/-- print raise spawn atomically tvar read write orelse: the word, the node's kind, how many atoms. -/
def calls : List (By × Nat × Bool) :=
  [([112, 114, 105, 110, 116], 15, false), ([114, 97, 105, 115, 101], 16, false), ([115, 112, 97, 119, 110], 17, false), ([97, 116, 111, 109, 105, 99, 97, 108, 108, 121], 18, false),
   ([116, 118, 97, 114], 21, false), ([114, 101, 97, 100], 22, false), ([119, 114, 105, 116, 101], 23, true), ([111, 114, 101, 108, 115, 101], 20, true)]

-- types
def tyStep (T : List Tok → R Tree) (kids : List Tree) (ts : List Tok) : Option (R (List Tree)) :=
  if (hd ts).k = 3 then some (.ok (kids ++ [.node 27 (hd ts).t [] [] 0 (hd ts).p], ts.tail))
  else if isT [40] ts = true then some (bnd (T ts.tail) fun t r => bnd (want [41] r) fun _ r => .ok (kids ++ [t], r))
  else none
def tyapp : Nat → List Tok → R Tree
  | 0, ts => fail 15 ts
  | g + 1, ts => bnd (txt 3 ts) fun s r => bnd (reps (tyStep (tyapp g)) [] r) fun ks r => .ok (.node 27 s [] ks 0 (hd ts).p, r)
/-- One part behind 'of', or ','. -/
def conPart (kids : List Tree) (ts : List Tok) : R (List Tree) :=
  if kids.length = 4 then fail 16 ts else bnd (tyapp 40 ts) fun t r => .ok (kids ++ [t], r)
def conStep (kids : List Tree) (ts : List Tok) : Option (R (List Tree)) := if isT [44] ts = true then some (conPart kids ts.tail) else none
def con (ts : List Tok) : R Tree :=
  bnd (txt 4 ts) fun s r =>
    if isT wOf r = true then bnd (conPart [] r.tail) fun ks r => bnd (reps conStep ks r) fun ks r => .ok (.node 26 s [] ks 0 (hd ts).p, r)
    else .ok (.node 26 s [] [] 0 (hd ts).p, r)

-- patterns
def patom (Y : List Tok → R Tree) (ts : List Tok) : R Tree :=
  if (hd ts).k = 1 then leaf 1 ts
  else if (hd ts).k = 3 then leaf 4 ts
  else if (hd ts).k = 4 then leaf 5 ts
  else if isT [95] ts = true then .ok (.node 24 [] [] [] 0 (hd ts).p, ts.tail)
  else if isT [40] ts = true then bnd (Y ts.tail) fun n r => bnd (want [41] r) fun _ r => .ok (n, r)
  else fail 14 ts
def patBegins (ts : List Tok) : Bool := isT [95] ts || (isT [40] ts || (decide ((hd ts).k = 3) || (decide ((hd ts).k = 1) || decide ((hd ts).k = 4))))
def Tree.more (n t : Tree) : Tree := .node n.kind n.text n.names (n.kids ++ [t]) n.num n.pl
def patStep (Y : List Tok → R Tree) (n : Tree) (ts : List Tok) : Option (R Tree) :=
  if patBegins ts = true then some (if n.kids.length = 4 then fail 16 ts else bnd (patom Y ts) fun t r => .ok (n.more t, r)) else none
def pat : Nat → List Tok → R Tree
  | 0, ts => fail 15 ts
  | g + 1, ts => bnd (patom (pat g) ts) fun n r => if (hd ts).k = 4 then reps (patStep (pat g)) n r else .ok (n, r)

-- exps: X the exps one deeper (in a declaration's exp, or not), Y the patterns
section
variable (X : Bool → List Tok → R Tree) (Y : List Tok → R Tree)
def row (kids : List Tree) (ts : List Tok) : R (List Tree) :=
  if kids.length = 41 then fail 16 ts
  else bnd (want [124] ts) fun _ r => bnd (Y r) fun p r => bnd (want wArrow r) fun _ r => bnd (X false r) fun b r => .ok (kids ++ [p] ++ [b], r)
def rowStep (kids : List Tree) (ts : List Tok) : Option (R (List Tree)) := if isT [124] ts = true then some (row X Y kids ts) else none
def atom (ts : List Tok) : R Tree :=
  if (hd ts).k = 1 then leaf 1 ts
  else if (hd ts).k = 2 then leaf 2 ts
  else if (hd ts).k = 3 then leaf 4 ts
  else if (hd ts).k = 4 then leaf 5 ts
  else if isT wRetry ts = true then .ok (.node 19 [] [] [] 0 (hd ts).p, ts.tail)
  else if isT [40] ts = true then
    (if isT [41] ts.tail = true then .ok (.node 3 [] [] [] 0 (hd ts).p, ts.tail.tail)
     else bnd (X false ts.tail) fun x r => bnd (want [41] r) fun _ r => .ok (x, r))
  else if isT wTry ts = true then
    bnd (X false ts.tail) fun b r => bnd (want wWith r) fun _ r => bnd (txt 3 r) fun s r => bnd (want wArrow r) fun _ r => bnd (X false r) fun h r => bnd (want wEnd r) fun _ r =>
      .ok (.node 12 s [] [b, h] 0 (hd ts).p, r)
  else if isT wMatch ts = true then
    bnd (X false ts.tail) fun v r => bnd (want wWith r) fun _ r => bnd (row X Y [v] r) fun ks r => bnd (reps (rowStep X Y) ks r) fun ks r => bnd (want wEnd r) fun _ r =>
      .ok (.node 11 [] [] ks 0 (hd ts).p, r)
  else fail 14 ts
def begins (ts : List Tok) : Bool :=
  decide ((hd ts).k = 1) || (decide ((hd ts).k = 2) || (decide ((hd ts).k = 3) || (decide ((hd ts).k = 4) || (isT [40] ts || (isT wRetry ts || (isT wMatch ts || isT wTry ts))))))
def callStep (n : Tree) (ts : List Tok) : Option (R Tree) :=
  if begins ts = true then some (bnd (atom X Y ts) fun a r => .ok (.node 7 [] [] [n, a] 0 n.pl, r)) else none
def moreStep (n : Tree) (ts : List Tok) : Option (R Tree) :=
  if begins ts = true then some (if n.kids.length = 4 then fail 16 ts else bnd (atom X Y ts) fun a r => .ok (n.more a, r)) else none
/-- Which of the eight words stands there? -/
def callOf (ts : List Tok) : Option (By × Nat × Bool) := calls.find? fun c => isT c.1 ts
def app (ts : List Tok) : R Tree :=
  match callOf ts with
  | some c => bnd (atom X Y ts.tail) fun a r =>
      if c.2.2 = true then bnd (atom X Y r) fun b r => .ok (.node c.2.1 [] [] [a, b] 0 (hd ts).p, r) else .ok (.node c.2.1 [] [] [a] 0 (hd ts).p, r)
  | none => bnd (atom X Y ts) fun n r => if (hd ts).k = 4 then reps (moreStep X Y) n r else reps (callStep X Y) n r
/-- One of these signs, and what stands behind it. -/
def opStep (l : List By) (Z : List Tok → R Tree) (n : Tree) (ts : List Tok) : Option (R Tree) :=
  match l.find? (fun s => isT s ts) with
  | some s => some (bnd (Z ts.tail) fun m r => .ok (.node 13 s [] [n, m] 0 n.pl, r))
  | none => none
def prod (ts : List Tok) : R Tree := bnd (app X Y ts) fun n r => reps (opStep [[42], [47], [37]] (app X Y)) n r
def sum (ts : List Tok) : R Tree := bnd (prod X Y ts) fun n r => reps (opStep [[43], [45], [94]] (prod X Y)) n r
def cmp (ts : List Tok) : R Tree :=
  bnd (sum X Y ts) fun n r =>
    match opStep [[61], [60]] (sum X Y) n r with
    | some q => q
    | none => .ok (n, r)
/-- What a name is to mean, is it rec? 'room': is one deeper not too deep? -/
def value (room : Bool) (flat : Bool) (ts : List Tok) : R (Bool × By × Tree) :=
  bnd (txt 3 (if isT wRec ts = true then ts.tail else ts)) fun s r => bnd (want [61] r) fun _ r =>
    if isT wRec ts = true ∧ isT wFun r = false ∧ room = true then fail 14 r
    else bnd (X flat r) fun v r => .ok ((isT wRec ts, s, v), r)
def inner (room : Bool) (flat : Bool) (ts : List Tok) : R Tree :=
  if isT wLet ts = true then
    bnd (value X room flat ts.tail) fun v r => bnd (want wIn r) fun _ r => bnd (X flat r) fun b r => .ok (.node (if v.1 = true then 9 else 8) v.2.1 [] [v.2.2, b] 0 (hd ts).p, r)
  else if isT wFun ts = true then
    bnd (txt 3 ts.tail) fun s r => bnd (want wArrow r) fun _ r => bnd (X flat r) fun b r => .ok (.node 6 s [] [b] 0 (hd ts).p, r)
  else if isT wIf ts = true then
    bnd (X flat ts.tail) fun a r => bnd (want wThen r) fun _ r => bnd (X flat r) fun b r => bnd (want wElse r) fun _ r => bnd (X flat r) fun c r =>
      .ok (.node 10 [] [] [a, b, c] 0 (hd ts).p, r)
  else bnd (cmp X Y ts) fun a r => if isT [59] r = true ∧ flat = false then bnd (X flat r.tail) fun b r => .ok (.node 14 [] [] [a, b] 0 a.pl, r) else .ok (a, r)
end
def exp : Nat → Bool → List Tok → R Tree
  | 0, _, ts => fail 15 ts
  | g + 1, f, ts => inner (exp g) (pat g) (decide (0 < g)) f ts

-- declarations
def nameStep (ns : List By) (ts : List Tok) : Option (R (List By)) :=
  if (hd ts).k = 3 then some (if ns.length = 4 then fail 16 ts else .ok (ns ++ [(hd ts).t], ts.tail)) else none
def conMore (kids : List Tree) (ts : List Tok) : R (List Tree) := if kids.length = 20 then fail 16 ts else bnd (con ts) fun c r => .ok (kids ++ [c], r)
def barStep (kids : List Tree) (ts : List Tok) : Option (R (List Tree)) := if isT [124] ts = true then some (conMore kids ts.tail) else none
def decl (ts : List Tok) : R Tree :=
  if isT wType ts = true then
    bnd (txt 3 ts.tail) fun s r => bnd (reps nameStep [] r) fun ns r => bnd (want [61] r) fun _ r => bnd (conMore [] r) fun ks r => bnd (reps barStep ks r) fun ks r => bnd (want [59] r) fun _ r =>
      .ok (.node 25 s ns ks 0 (hd ts).p, r)
  else
    bnd (value (exp 40) true true ts.tail) fun v r => bnd (want [59] r) fun _ r => .ok (.node (if v.1 = true then 29 else 28) v.2.1 [] [v.2.2] 0 (hd ts).p, r)
def declStep (kids : List Tree) (ts : List Tok) : Option (R (List Tree)) :=
  if (isT wType ts || isT wLet ts) = true then some (if kids.length = 60 then fail 16 ts else bnd (decl ts) fun d r => .ok (kids ++ [d], r)) else none
def prog (ts : List Tok) : R Tree :=
  bnd (reps declStep [] ts) fun ks r => bnd (want wDo r) fun _ r => bnd (exp 40 false r) fun x r =>
    if (hd r).k = 0 then .ok (.node 30 [] [] (ks ++ [x]) 0 (hd ts).p, r) else fail 14 r

-- the same, but for places
mutual
def same : Tree → Tree → Bool
  | .node k t ns ks n _, .node k' t' ns' ks' n' _ => decide (k = k') && (decide (t = t') && (decide (n = n') && (decide (ns = ns') && sames ks ks')))
def sames : List Tree → List Tree → Bool
  | [], [] => true
  | a :: as, b :: bs => same a b && sames as bs
  | _, _ => false
end
/-- A source's node, or a place and an error. -/
def program (s : By) : Except (Nat × Nat) Tree :=
  if 2000 < s.length then .error (0, 12) else
  match run (s.length + 1) s 0 with
  | .error e => .error e
  | .ok ts => match prog ts with
    | .ok (t, _) => .ok t
    | .error e => .error e
end Go.Proofs.YtlcapkgbbgpdmaaGreatDoor.GR
