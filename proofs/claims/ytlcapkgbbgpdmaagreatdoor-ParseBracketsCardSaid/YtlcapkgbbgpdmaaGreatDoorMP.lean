/- The program's parser, plainly: what each part makes of its state. Nothing of the program is in sight. -/
import Derived.Test.YtlcapkgbbgpdmaaGreatDoorGR
namespace Go.Proofs.YtlcapkgbbgpdmaaGreatDoor.MP
open Go.Proofs.YtlcapkgbbgpdmaaGreatDoor.TK Go.Proofs.YtlcapkgbbgpdmaaGreatDoor.GR
set_option linter.unusedVariables false
set_option maxRecDepth 100000

/-- Tokens that are left, the error, its place. -/
structure St where
  ts : List Tok
  e : Nat
  p : Nat

/-- No node. -/
abbrev zero : Tree := .node 0 [] [] [] 0 0
def St.fail (s : St) (e : Nat) : St := if s.e = 0 then ⟨s.ts.drop (s.ts.length - 1), e, (hd s.ts).p⟩ else s
def St.take (s : St) : St := { s with ts := s.ts.tail }
def St.is (s : St) (w : By) : Bool := isT w s.ts
def St.pl (s : St) : Nat := (hd s.ts).p
def St.k (s : St) : Nat := (hd s.ts).k
def St.word (s : St) : By := if s.k = 6 ∨ s.k = 5 then (hd s.ts).t else []
def accept (w : By) (s : St) : Bool × St := if s.is w = true then (true, s.take) else (false, s)
def expect (w : By) (s : St) : St := if s.is w = true then s.take else s.fail 14
def text (k : Nat) (s : St) : By × St := if s.k = k then ((hd s.ts).t, s.take) else ([], s.fail 14)
def failed (e : Nat) (s : St) : Tree × St := (zero, s.fail e)

def leafKind (k : Nat) : Nat := if k = 1 then 1 else if k = 2 then 2 else if k = 3 then 4 else if k = 4 then 5 else 0
def leaf (s : St) : Tree × St := (.node (leafKind s.k) (hd s.ts).t [] [] (hd s.ts).n s.pl, s.take)

abbrev Part := St → Tree × St

/-- The parts one deeper: an exp (is a ';' a NodeSeq's?), a fun, a pattern. -/
structure Lev where
  x : Bool → Part
  f : Bool → Part
  y : Part

-- types
def tyStops (s : St) : Bool := decide (s.k = 3) || s.is [40]
def bracketed (R : Part) : Part := fun s => ((R s).1, expect [41] (R s).2)
def tyatom (T : Part) : Part := fun s =>
  if s.is [40] = true then bracketed T s.take else (.node 27 (text 3 s).1 [] [] 0 s.pl, (text 3 s).2)
def tyLoop (T : Part) : Nat → Tree → St → Tree × St
  | 0, n, s => (n, s)
  | k + 1, n, s => if tyStops s = true then tyLoop T k (n.more (tyatom T s).1) (tyatom T s).2 else (n, s)
def tyappP (T : Part) : Part := fun s => tyLoop T (text 3 s).2.ts.length (.node 27 (text 3 s).1 [] [] 0 s.pl) (text 3 s).2
def levT : Nat → Part
  | 0 => failed 15
  | g + 1 => tyappP (levT g)

-- lists
def listLoop (word : By) (most : Nat) (R : Part) : Nat → List Tree → St → List Tree × St
  | 0, l, s => (l, s)
  | k + 1, l, s =>
    if l.length = most then ([], s.fail 16)
    else if (R s).2.is word = true then listLoop word most R k (l ++ [(R s).1]) (R s).2.take
    else (l ++ [(R s).1], (R s).2)
def list (word : By) (most : Nat) (R : Part) (s : St) : List Tree × St := listLoop word most R (most + 1) [] s
def defP (T : Part) : Part := fun s =>
  if (text 4 s).2.is wOf = true then (.node 26 (text 4 s).1 [] (list [44] 4 T (text 4 s).2.take).1 0 s.pl, (list [44] 4 T (text 4 s).2.take).2)
  else (.node 26 (text 4 s).1 [] [] 0 s.pl, (text 4 s).2)

-- a constructor, and what stands behind it
def conLoop (more : St → Bool) (R : Part) : Nat → Tree → St → Tree × St
  | 0, n, s => (n, s)
  | k + 1, n, s => if more s = true then (if n.kids.length = 4 then (zero, s.fail 16) else conLoop more R k (n.more (R s).1) (R s).2) else (n, s)
def conP (more : St → Bool) (R : Part) : Part := fun s => conLoop more R 5 (leaf s).1 (leaf s).2

-- patterns
def atPatom (s : St) : Bool := (decide (leafKind s.k ≠ 0) && decide (leafKind s.k ≠ 2)) || (s.is [95] || s.is [40])
def patomP (L : Lev) : Part := fun s =>
  if atPatom s = false then (zero, s.fail 14)
  else if s.is [40] = true then bracketed L.y s.take
  else if s.is [95] = true then (.node 24 [] [] [] 0 s.pl, s.take)
  else leaf s
def patP (L : Lev) : Part := fun s => if s.k = 4 then conP atPatom (patomP L) s else patomP L s

-- atoms
def bracketsP (L : Lev) : Part := fun s =>
  if (expect [40] s).is [41] = true then (.node 3 [] [] [] 0 s.pl, (expect [40] s).take) else bracketed (L.x true) (expect [40] s)
def retryP : Part := fun s => (.node 19 [] [] [] 0 s.pl, s.take)
def rowsLoop (L : Lev) : Nat → Nat → List Tree → St → Option (List Tree) × St
  | 0, _, ks, s => (some ks, s)
  | n + 1, rows, ks, s =>
    if (decide (rows = 0) || s.is [124]) = true then
      (if rows = 20 then (none, s.fail 16)
       else rowsLoop L n (rows + 1) (ks ++ [(L.y (expect [124] s)).1] ++ [(L.x true (expect wArrow (L.y (expect [124] s)).2)).1]) (L.x true (expect wArrow (L.y (expect [124] s)).2)).2)
    else (some ks, s)
def matchP (L : Lev) : Part := fun s =>
  match rowsLoop L 21 0 [(L.x true (expect wMatch s)).1] (expect wWith (L.x true (expect wMatch s)).2) with
  | (none, r) => (zero, r)
  | (some ks, r) => (.node 11 [] [] ks 0 s.pl, expect wEnd r)
def tryP (L : Lev) : Part := fun s =>
  let a := L.x true (expect wTry s)
  let n := text 3 (expect wWith a.2)
  let b := L.x true (expect wArrow n.2)
  (.node 12 n.1 [] [a.1, b.1] 0 s.pl, expect wEnd b.2)
def atomWord (w : By) : Nat := if w = [40] then 1 else if w = wRetry then 2 else if w = wMatch then 3 else if w = wTry then 4 else 0
def atAtom (s : St) : Bool := decide (leafKind s.k ≠ 0) || decide (atomWord s.word ≠ 0)
def atomP (L : Lev) : Part := fun s =>
  if leafKind s.k ≠ 0 then leaf s
  else if atomWord s.word = 1 then bracketsP L s
  else if atomWord s.word = 2 then retryP s
  else if atomWord s.word = 3 then matchP L s
  else if atomWord s.word = 4 then tryP L s
  else (zero, s.fail 14)

-- apps, products, sums, comparisons
/-- The node's kind that a key makes, and how many atoms stand behind it. -/
def keyed (w : By) : Nat × Nat :=
  match calls.find? (fun c => decide (c.1 = w)) with
  | some c => (c.2.1, if c.2.2 = true then 2 else 1)
  | none => (0, 0)
def callLoop (L : Lev) : Nat → Tree → St → Tree × St
  | 0, n, s => (n, s)
  | k + 1, n, s => if atAtom s = true then callLoop L k (.node 7 [] [] [n, (atomP L s).1] 0 n.pl) (atomP L s).2 else (n, s)
def appP (L : Lev) : Part := fun s =>
  if (keyed s.word).1 ≠ 0 then
    (if (keyed s.word).2 = 2 then
       (.node (keyed s.word).1 [] [] [(atomP L s.take).1, (atomP L (atomP L s.take).2).1] 0 s.pl, (atomP L (atomP L s.take).2).2)
     else (.node (keyed s.word).1 [] [] [(atomP L s.take).1] 0 s.pl, (atomP L s.take).2))
  else if s.k = 4 then conP atAtom (atomP L) s
  else callLoop L (atomP L s).2.ts.length (atomP L s).1 (atomP L s).2
def opP (R : Part) (n : Tree) : Part := fun s => (.node 13 (hd s.ts).t [] [n, (R s.take).1] 0 n.pl, (R s.take).2)
def anyOf (l : List By) (s : St) : Bool := l.any fun w => s.is w
def opLoop (l : List By) (R : Part) : Nat → Tree → St → Tree × St
  | 0, n, s => (n, s)
  | k + 1, n, s => if anyOf l s = true then opLoop l R k (opP R n s).1 (opP R n s).2 else (n, s)
def prodP (L : Lev) : Part := fun s => opLoop [[42], [47], [37]] (appP L) (appP L s).2.ts.length (appP L s).1 (appP L s).2
def sumP (L : Lev) : Part := fun s => opLoop [[43], [45], [94]] (prodP L) (prodP L s).2.ts.length (prodP L s).1 (prodP L s).2
def cmpP (L : Lev) : Part := fun s => if anyOf [[61], [60]] (sumP L s).2 = true then opP (sumP L) (sumP L s).1 (sumP L s).2 else sumP L s
def seqP (L : Lev) (j : Bool) : Part := fun s =>
  if (j && (cmpP L s).2.is [59]) = true then
    (.node 14 [] [] [(cmpP L s).1, (L.x j (cmpP L s).2.take).1] 0 (cmpP L s).1.pl, (L.x j (cmpP L s).2.take).2)
  else cmpP L s

-- exps
/-- What a name is to mean: rec?, the name, the value. -/
def bindP (L : Lev) (j : Bool) (plain rec_ : Nat) : Part := fun s =>
  let a := accept wRec (expect wLet s)
  let n := text 3 a.2
  let v := if a.1 = true then L.f j (expect [61] n.2) else L.x j (expect [61] n.2)
  (.node (if a.1 = true then rec_ else plain) n.1 [] [v.1] 0 s.pl, v.2)
def letP (L : Lev) (j : Bool) : Part := fun s =>
  let b := bindP L j 8 9 s
  let x := L.x j (expect wIn b.2)
  (b.1.more x.1, x.2)
def funP (L : Lev) (j : Bool) : Part := fun s =>
  let n := text 3 (expect wFun s)
  let x := L.x j (expect wArrow n.2)
  (.node 6 n.1 [] [x.1] 0 s.pl, x.2)
def condP (L : Lev) (j : Bool) : Part := fun s =>
  let a := L.x j (expect wIf s)
  let b := L.x j (expect wThen a.2)
  let c := L.x j (expect wElse b.2)
  (.node 10 [] [] [a.1, b.1, c.1] 0 s.pl, c.2)
def expWord (w : By) : Nat := if w = wLet then 1 else if w = wFun then 2 else if w = wIf then 3 else 0
def anyExpP (L : Lev) (j : Bool) : Part := fun s =>
  if expWord s.word = 1 then letP L j s else if expWord s.word = 2 then funP L j s else if expWord s.word = 3 then condP L j s else seqP L j s
def lev : Nat → Lev
  | 0 => ⟨fun _ => failed 15, fun _ => failed 15, failed 15⟩
  | g + 1 => ⟨fun j => anyExpP (lev g) j, fun j => funP (lev g) j, patP (lev g)⟩

-- declarations
def namesLoop : Nat → List By → St → Option (List By) × St
  | 0, l, s => (some l, s)
  | k + 1, l, s => if s.k = 3 then (if l.length = 4 then (none, s.fail 16) else namesLoop k (l ++ [(text 3 s).1]) (text 3 s).2) else (some l, s)
def typeDeclP : Part := fun s =>
  let n := text 3 (expect wType s)
  match namesLoop 5 [] n.2 with
  | (none, r) => (zero, r)
  | (some l, r) => (.node 25 n.1 l (list [124] 20 (defP (levT 40)) (expect [61] r)).1 0 s.pl, (list [124] 20 (defP (levT 40)) (expect [61] r)).2)
def declP : Part := fun s =>
  let d := if s.is wType = true then typeDeclP s else bindP (lev 40) false 28 29 s
  (d.1, expect [59] d.2)
def declsLoop : Nat → List Tree → St → Option (List Tree) × St
  | 0, l, s => (some l, s)
  | k + 1, l, s => if anyOf [wType, wLet] s = true then (if l.length = 60 then (none, s.fail 16) else declsLoop k (l ++ [(declP s).1]) (declP s).2) else (some l, s)
def progP : Part := fun s =>
  match declsLoop 61 [] s with
  | (none, r) => (zero, r)
  | (some l, r) =>
    let x := (lev 40).x true (expect wDo r)
    if x.2.k ≠ 0 then (zero, x.2.fail 14) else (.node 30 [] [] (l ++ [x.1]) 0 s.pl, x.2)
end Go.Proofs.YtlcapkgbbgpdmaaGreatDoor.MP
