package parse_test

import (
	"strconv"
	"strings"
	"testing"

	"selvage/api"
	"selvage/parse"
)

// kinds are the names of nodes' kinds, as they are shown here.
var kinds = map[int]string{
	api.NodeInt: "int", api.NodeText: "text", api.NodeUnit: "unit", api.NodeName: "name", api.NodeCon: "con", api.NodeFun: "fun",
	api.NodeCall: "call", api.NodeLet: "let", api.NodeRec: "rec", api.NodeIf: "if", api.NodeMatch: "match", api.NodeTry: "try",
	api.NodeOp: "op", api.NodeSeq: "seq", api.NodePrint: "print", api.NodeRaise: "raise", api.NodeSpawn: "spawn", api.NodeAtom: "atom",
	api.NodeRetry: "retry", api.NodeElse: "else", api.NodeTvar: "tvar", api.NodeRead: "read", api.NodeWrite: "write", api.NodeAny: "any",
	api.NodeType: "type", api.NodeDef: "def", api.NodeTy: "ty", api.NodeVal: "val", api.NodeValRec: "valrec", api.NodeProg: "prog",
}

// shown is a node with each field that is not nought: kind@place:text=number<names>(Kids). Places are told from a place on.
func shown(n api.Node, from int) string {
	s := kinds[n.Kind]
	if s == "" {
		s = strconv.Itoa(n.Kind)
	}
	s += "@" + strconv.Itoa(n.At-from)
	if n.Text != "" {
		s += ":" + n.Text
	}
	if n.Number != 0 {
		s += "=" + strconv.Itoa(n.Number)
	}
	if len(n.Names) != 0 {
		s += "<" + strings.Join(n.Names, " ") + ">"
	}
	if len(n.Kids) == 0 {
		return s
	}
	kids := make([]string, len(n.Kids))
	for i, k := range n.Kids {
		kids[i] = shown(k, from)
	}
	return s + "(" + strings.Join(kids, " ") + ")"
}

// reads holds that a source is a program's node.
func reads(t *testing.T, s, want string) {
	t.Helper()
	if n, at, e := parse.Program(s); shown(n, 0) != want || at != 0 || e != api.OK {
		t.Errorf("Program(%.100q) is\n%s, %d, %v, not\n%s", s, shown(n, 0), at, e, want)
	}
}

// goes holds that a source is some program's node, and is that node.
func goes(t *testing.T, s string) api.Node {
	t.Helper()
	n, at, e := parse.Program(s)
	if n.Kind != api.NodeProg || at != 0 || e != api.OK {
		t.Errorf("Program(%.100q) is %.50s, %d, %v", s, shown(n, 0), at, e)
	}
	return n
}

// fails holds that a source has a fault at the place that `!` marks: it stands in no token.
func fails(t *testing.T, marked string, want api.Errno) {
	t.Helper()
	at := strings.IndexByte(marked, '!')
	failsAt(t, marked[:at]+marked[at+1:], at, want)
}

// failsAt holds that a source has a fault at a place.
func failsAt(t *testing.T, s string, at int, want api.Errno) {
	t.Helper()
	n, place, e := parse.Program(s)
	if shown(n, 0) != "0@0" || place != at || e != want {
		t.Errorf("Program(%.100q) is %.50s, %d, %v, not %d, %v", s, shown(n, 0), place, e, at, want)
	}
}

// syntax holds that a token may not stand there.
func syntax(t *testing.T, marked ...string) {
	t.Helper()
	for _, s := range marked {
		fails(t, s, api.ErrSyntax)
	}
}

// context is a source round an exp, and the path to it.
type context struct {
	ahead, behind string
	path          []int
}

// joining are those in which a `;` is a NodeSeq's.
var joining = []context{
	{"do ", "", []int{0}},
	{"do\n", "# no", []int{0}},
	{"do (", ")", []int{0}},
	{"do ((( ", ") )\n)", []int{0}},
	{"let z = 1; let y = 2; do ", "", []int{2}},
	{"do let z = ", " in 1", []int{0, 0}},
	{"do let z = 1 in ", "", []int{0, 1}},
	{"do let rec z = fun y -> ", " in 1", []int{0, 0, 0}},
	{"do let rec z = fun y -> 1 in ", "", []int{0, 1}},
	{"do fun z -> ", "", []int{0, 0}},
	{"do if ", " then 1 else 2", []int{0, 0}},
	{"do if 1 then ", " else 2", []int{0, 1}},
	{"do if 1 then 2 else ", "", []int{0, 2}},
	{"do 1; ", "", []int{0, 1}},
	{"do 1; 2; 3;", "", []int{0, 1, 1, 1}},
	{"do f (", ")", []int{0, 1}},
	{"do (", ") x", []int{0, 0}},
	{"do (", ") = 1", []int{0, 0}},
	{"do 1 + (", ") * 2", []int{0, 1, 0}},
	{"do (", "); 1", []int{0, 0}},
	{"do Con 1 (", ") 2", []int{0, 1}},
	{"do print (", ")", []int{0, 0}},
	{"do write (", ") 1", []int{0, 0}},
	{"do orelse 1 (", ")", []int{0, 1}},
	{"do match ", " with | z -> 1 end", []int{0, 0}},
	{"do match 1 with | z -> ", " end", []int{0, 2}},
	{"do match 1 with | z -> ", " | y -> 1 end", []int{0, 2}},
	{"do match 1 with | 1 -> 1 | z -> ", " end", []int{0, 4}},
	{"do try ", " with z -> 1 end", []int{0, 0}},
	{"do try 1 with z -> ", " end", []int{0, 1}},
	{"let z = (", "); do 1", []int{0, 0}},
	{"let rec z = fun y -> (", "); do 1", []int{0, 0, 0}},
	{"let z = match ", " with | z -> 1 end; do 1", []int{0, 0, 0}},
	{"let z = try 1 with y -> ", " end; do 1", []int{0, 0, 1}},
}

// ending are those in which a `;` ends a declaration.
var ending = []context{
	{"let z = ", "; do 1", []int{0, 0}},
	{"type t = A; let z=", ";do 1", []int{1, 0}},
	{"let rec z = fun y -> ", "; do 1", []int{0, 0, 0}},
	{"let z = let y = ", " in 1; do 1", []int{0, 0, 0}},
	{"let z = let y = 1 in ", "; do 1", []int{0, 0, 1}},
	{"let z = if 1 then ", " else 1; do 1", []int{0, 0, 1}},
	{"let z = if 1 then 1 else ", "; do 1", []int{0, 0, 2}},
	{"let z = (1; 2) + 3; let y = ", "; do 1", []int{1, 0}},
}

// holds tells whether an exp is that node, in a source round it.
func (c context) holds(t *testing.T, s, want string) {
	t.Helper()
	n, at, e := parse.Program(c.ahead + s + c.behind)
	if e != api.OK || at != 0 {
		t.Errorf("Program(%.100q) is %d, %v", c.ahead+s+c.behind, at, e)
		return
	}
	for _, i := range c.path {
		n = n.Kids[i]
	}
	if got := shown(n, len(c.ahead)); got != want {
		t.Errorf("%q within %q is\n%s, not\n%s", s, c.ahead, got, want)
	}
}

// exp holds that an exp is that node, wherever an exp may stand.
func exp(t *testing.T, s, want string) {
	t.Helper()
	seq(t, s, want)
	for _, c := range ending {
		c.holds(t, s, want)
	}
}

// seq holds that an exp is that node, wherever an exp with a `;` may stand.
func seq(t *testing.T, s, want string) {
	t.Helper()
	for _, c := range joining {
		c.holds(t, s, want)
	}
}

// pat holds that a pattern is that node, wherever one may stand.
func pat(t *testing.T, s, want string) {
	t.Helper()
	for _, c := range []context{
		{"do match 1 with | ", " -> 1 end", []int{0, 1}},
		{"do match 1 with |(", ")-> 1 end", []int{0, 1}},
		{"do match 1 with | ((( ", ") )\n) -> 1 end", []int{0, 1}},
		{"do match 1 with | 1 -> 1 | ", " -> 1 | _ -> 1 end", []int{0, 3}},
		{"do match 1 with | Con _ (", ") y -> 1 end", []int{0, 1, 1}},
		{"do match 1 with | Con (", ") -> 1 end", []int{0, 1, 0}},
		{"let z = match 1 with | ", " -> 1 end; do 1", []int{0, 0, 1}},
	} {
		c.holds(t, s, want)
	}
}

// ty holds that a tyapp is that node, wherever one may stand.
func ty(t *testing.T, s, want string) {
	t.Helper()
	for _, c := range []context{
		{"type t = A of ", "; do 1", []int{0, 0, 0}},
		{"type t = A of ", ", b; do 1", []int{0, 0, 0}},
		{"type t = A of a, b c, ", "; do 1", []int{0, 0, 2}},
		{"type t = A | B of ", " | C; do 1", []int{0, 1, 0}},
		{"type t = A of u (", ") v; do 1", []int{0, 0, 0, 0}},
		{"let z = 1; type t a b = A of u v ( u (", ")); do 1", []int{1, 0, 0, 1, 0}},
	} {
		c.holds(t, s, want)
	}
}

// P5.1: atoms.

func TestAtoms(t *testing.T) {
	exp(t, "0", "int@0")
	exp(t, "1", "int@0=1")
	exp(t, "0042", "int@0=42")
	exp(t, "4611686018427387903", "int@0=4611686018427387903")
	exp(t, `""`, "text@0")
	exp(t, `"a b"`, "text@0:a b")
	exp(t, `"\x41\n\""`, "text@0:A\n\"")
	exp(t, "x", "name@0:x")
	exp(t, "x1_Y", "name@0:x1_Y")
	exp(t, "Con", "con@0:Con")
	exp(t, "()", "unit@0")
	exp(t, "( )", "unit@0")
	exp(t, "(\n# a\n\t)", "unit@0")
	exp(t, "retry", "retry@0")
}

// A string is never a word, though its text be one's.
func TestStringsAreNoWords(t *testing.T) {
	for _, w := range append(strings.Fields("let rec in fun if then else match with end try print raise spawn atomically retry orelse tvar read write type of do"),
		"->", "=", "<", "+", "-", "*", "/", "%", "^", ";", "|", "(", ")", ",", "_", "()", "A", "x", "1") {
		exp(t, strconv.Quote(w), "text@0:"+w)
		exp(t, "f "+strconv.Quote(w)+" 1", "call@0(call@0(name@0:f text@2:"+w+") int@"+strconv.Itoa(len(w)+5)+"=1)")
		fails(t, "do match 1 with | !"+strconv.Quote(w)+" -> 1 end", api.ErrSyntax)
		fails(t, "do match 1 with | A !"+strconv.Quote(w)+" -> 1 end", api.ErrSyntax)
		fails(t, "let !"+strconv.Quote(w)+" = 1; do 1", api.ErrSyntax)
		fails(t, "!"+strconv.Quote(w)+" 1", api.ErrSyntax)
		fails(t, "type t = !"+strconv.Quote(w)+"; do 1", api.ErrSyntax)
		fails(t, "type t = A of !"+strconv.Quote(w)+"; do 1", api.ErrSyntax)
		fails(t, "type t = A of a !"+strconv.Quote(w)+"; do 1", api.ErrSyntax)
		fails(t, "type t !"+strconv.Quote(w)+" = A; do 1", api.ErrSyntax)
	}
}

// P5.1: apps.

func TestCalls(t *testing.T) {
	exp(t, "f x", "call@0(name@0:f name@2:x)")
	exp(t, "f x y", "call@0(call@0(name@0:f name@2:x) name@4:y)")
	exp(t, "f x y z", "call@0(call@0(call@0(name@0:f name@2:x) name@4:y) name@6:z)")
	exp(t, "f (x y)", "call@0(name@0:f call@3(name@3:x name@5:y))")
	exp(t, "(f x) y", "call@1(call@1(name@1:f name@3:x) name@6:y)")
	exp(t, "f()", "call@0(name@0:f unit@1)")
	exp(t, "f () 1 \"a\" A retry", "call@0(call@0(call@0(call@0(call@0(name@0:f unit@2) int@5=1) text@7:a) con@11:A) retry@13)")
	exp(t, "1 2", "call@0(int@0=1 int@2=2)")
	exp(t, "\"a\" 2", "call@0(text@0:a int@4=2)")
	exp(t, "() ()", "call@0(unit@0 unit@3)")
	exp(t, "retry retry", "call@0(retry@0 retry@6)")
	exp(t, "f A 1", "call@0(call@0(name@0:f con@2:A) int@4=1)")
	exp(t, "f A 1 2 3 4 5", "call@0(call@0(call@0(call@0(call@0(call@0(name@0:f con@2:A) int@4=1) int@6=2) int@8=3) int@10=4) int@12=5)")
	exp(t, "(A) 1", "call@1(con@1:A int@4=1)")
	exp(t, "(A 1) 2", "call@1(con@1:A(int@3=1) int@6=2)")
	exp(t, "((A 1 2)) 3 4 5", "call@2(call@2(call@2(con@2:A(int@4=1 int@6=2) int@10=3) int@12=4) int@14=5)")
	exp(t, "(fun x -> x) 1", "call@1(fun@1:x(name@10:x) int@13=1)")
	exp(t, "(print f) x", "call@1(print@1(name@7:f) name@10:x)")
	exp(t, "(match a with | b -> c end) d", "call@1(match@1(name@7:a name@16:b name@21:c) name@28:d)")
	exp(t, "match a with | b -> c end d", "call@0(match@0(name@6:a name@15:b name@20:c) name@26:d)")
	exp(t, "f try a with b -> c end d", "call@0(call@0(name@0:f try@2:b(name@6:a name@18:c)) name@24:d)")
	long := strings.Repeat("call@0(", 300) + "name@0:f"
	for i := range 300 {
		long += " name@" + strconv.Itoa(2*i+2) + ":x)"
	}
	exp(t, "f"+strings.Repeat(" x", 300), long)
}

// keyed are the keys with atoms behind them, what they make, and how many atoms they take.
var keyed = []struct {
	key, kind string
	atoms     int
}{
	{"print", "print", 1}, {"raise", "raise", 1}, {"spawn", "spawn", 1}, {"atomically", "atom", 1},
	{"tvar", "tvar", 1}, {"read", "read", 1}, {"write", "write", 2}, {"orelse", "else", 2},
}

func TestKeysWithAtoms(t *testing.T) {
	for _, k := range keyed {
		at := func(n int) string { return "@" + strconv.Itoa(len(k.key)+n) }
		if k.atoms == 1 {
			exp(t, k.key+" a", k.kind+"@0(name"+at(1)+":a)")
			exp(t, k.key+"(a)", k.kind+"@0(name"+at(1)+":a)")
			exp(t, k.key+"()", k.kind+"@0(unit"+at(0)+")")
			exp(t, k.key+" A * 2", "op@0:*("+k.kind+"@0(con"+at(1)+":A) int"+at(5)+"=2)")
			exp(t, "2 - "+k.key+" a", "op@0:-(int@0=2 "+k.kind+"@4(name"+at(5)+":a))")
			exp(t, k.key+" ("+k.key+" a)", k.kind+"@0("+k.kind+at(2)+"(name@"+strconv.Itoa(2*len(k.key)+3)+":a))")
			exp(t, "f ("+k.key+" a)", "call@0(name@0:f "+k.kind+"@3(name"+at(4)+":a))")
		} else {
			exp(t, k.key+" a b", k.kind+"@0(name"+at(1)+":a name"+at(3)+":b)")
			exp(t, k.key+"(f a)()", k.kind+"@0(call"+at(1)+"(name"+at(1)+":f name"+at(3)+":a) unit"+at(5)+")")
			exp(t, k.key+" A B / 2", "op@0:/("+k.kind+"@0(con"+at(1)+":A con"+at(3)+":B) int"+at(7)+"=2)")
			exp(t, "2 ^ "+k.key+" a 1", "op@0:^(int@0=2 "+k.kind+"@4(name"+at(5)+":a int"+at(7)+"=1))")
		}
		exp(t, "("+k.key+" a"+strings.Repeat(" a", k.atoms-1)+") 1", "call@1("+k.kind+"@1(name"+at(2)+":a"+strings.Repeat(" name"+at(4)+":a", k.atoms-1)+") int"+at(3+2*k.atoms)+"=1)")
		exp(t, k.key+" match a with | b -> c end"+strings.Repeat(" d", k.atoms-1), k.kind+"@0(match"+at(1)+"(name"+at(7)+":a name"+at(16)+":b name"+at(21)+":c)"+strings.Repeat(" name"+at(27)+":d", k.atoms-1)+")")
	}
}

// Each word that takes one atom, or two, with one too few, or one too many.
func TestKeysWithTooFewOrTooManyAtoms(t *testing.T) {
	for _, k := range keyed {
		enough := strings.Repeat(" a", k.atoms)
		few := strings.Repeat(" a", k.atoms-1)
		syntax(t, "do "+k.key+few+"!", "do "+k.key+few+" # no\n!", "do ("+k.key+few+"!)", "do "+k.key+few+" !; 1", "do "+k.key+few+" !+ 1", "let z = "+k.key+few+"!; do 1",
			"do "+k.key+few+" !fun x -> x", "do "+k.key+few+" !let x = 1 in x", "do "+k.key+few+" !if a then b else c", "do "+k.key+few+" !_", "do "+k.key+few+" !in",
			"do "+k.key+enough+" !b", "do "+k.key+enough+" !1", "do "+k.key+enough+" !\"a\"", "do "+k.key+enough+" !B", "do "+k.key+enough+" !()", "do "+k.key+enough+" !(b)", "do "+k.key+enough+" !retry",
			"do "+k.key+enough+" !match a with | b -> c end", "do "+k.key+enough+" !try a with b -> c end",
			"do f !"+k.key+enough, "do A !"+k.key+enough, "do A 1 2 3 4 !"+k.key+enough, "do "+k.key+enough+" !"+k.key+enough)
		for _, other := range keyed {
			syntax(t, "do "+k.key+few+" !"+other.key+" a a")
		}
	}
}

func TestConstructors(t *testing.T) {
	exp(t, "A 1", "con@0:A(int@2=1)")
	exp(t, "A 1 2", "con@0:A(int@2=1 int@4=2)")
	exp(t, "A 1 b C", "con@0:A(int@2=1 name@4:b con@6:C)")
	exp(t, "A 1 2 3 4", "con@0:A(int@2=1 int@4=2 int@6=3 int@8=4)")
	exp(t, "A () \"b\" retry (C 1)", "con@0:A(unit@2 text@5:b retry@9 con@16:C(int@18=1))")
	exp(t, "A match a with | b -> c end try a with b -> c end", "con@0:A(match@2(name@8:a name@17:b name@22:c) try@28:b(name@32:a name@44:c))")
	exp(t, "A + B 1", "op@0:+(con@0:A con@4:B(int@6=1))")
	exp(t, "Cons 1 (Cons 2 Nil)", "con@0:Cons(int@5=1 con@8:Cons(int@13=2 con@15:Nil))")
}

// P5.1: signs bind from the left; products ahead of sums, sums ahead of comparisons.

func TestOperations(t *testing.T) {
	for _, sign := range []string{"+", "-", "^", "*", "/", "%", "=", "<"} {
		exp(t, "a "+sign+" 1", "op@0:"+sign+"(name@0:a int@4=1)")
		exp(t, "a"+sign+"1", "op@0:"+sign+"(name@0:a int@2=1)")
		exp(t, "(a "+sign+" b) "+sign+" c", "op@1:"+sign+"(op@1:"+sign+"(name@1:a name@5:b) name@10:c)")
		exp(t, "a "+sign+" (b "+sign+" c)", "op@0:"+sign+"(name@0:a op@5:"+sign+"(name@5:b name@9:c))")
	}
	for _, kind := range [][]string{{"+", "-", "^"}, {"*", "/", "%"}} {
		for _, a := range kind {
			for _, b := range kind {
				exp(t, "x "+a+" y "+b+" z", "op@0:"+b+"(op@0:"+a+"(name@0:x name@4:y) name@8:z)")
				exp(t, "x "+a+" y "+b+" z "+a+" 1", "op@0:"+a+"(op@0:"+b+"(op@0:"+a+"(name@0:x name@4:y) name@8:z) int@12=1)")
			}
		}
	}
	for _, sum := range []string{"+", "-", "^"} {
		for _, prod := range []string{"*", "/", "%"} {
			exp(t, "x "+sum+" y "+prod+" z", "op@0:"+sum+"(name@0:x op@4:"+prod+"(name@4:y name@8:z))")
			exp(t, "x "+prod+" y "+sum+" z", "op@0:"+sum+"(op@0:"+prod+"(name@0:x name@4:y) name@8:z)")
			exp(t, "x "+prod+" (y "+sum+" z)", "op@0:"+prod+"(name@0:x op@5:"+sum+"(name@5:y name@9:z))")
			for _, is := range []string{"=", "<"} {
				exp(t, "a "+sum+" b "+is+" c "+prod+" d", "op@0:"+is+"(op@0:"+sum+"(name@0:a name@4:b) op@8:"+prod+"(name@8:c name@12:d))")
				exp(t, "a "+prod+" b "+is+" c "+sum+" d", "op@0:"+is+"(op@0:"+prod+"(name@0:a name@4:b) op@8:"+sum+"(name@8:c name@12:d))")
			}
		}
	}
	exp(t, "1 + 2 * 3 - 4 / 5", "op@0:-(op@0:+(int@0=1 op@4:*(int@4=2 int@8=3)) op@12:/(int@12=4 int@16=5))")
	exp(t, "f x + g y * h z < 1", "op@0:<(op@0:+(call@0(name@0:f name@2:x) op@6:*(call@6(name@6:g name@8:y) call@12(name@12:h name@14:z))) int@18=1)")
	exp(t, "read a + 1", "op@0:+(read@0(name@5:a) int@9=1)")
	long := strings.Repeat("op@0:-(", 300) + "int@0=1"
	for i := range 300 {
		long += " int@" + strconv.Itoa(2*i+2) + "=1)"
	}
	exp(t, "1"+strings.Repeat("-1", 300), long)
}

// Only one comparison stands in a cmp.
func TestOneComparison(t *testing.T) {
	for _, a := range []string{"=", "<"} {
		for _, b := range []string{"=", "<"} {
			syntax(t, "do x "+a+" y !"+b+" z", "do x + 1 "+a+" y * 2 !"+b+" z", "do (x "+a+" y !"+b+" z)", "let x = y "+a+" z !"+b+" 1; do 1", "do f; x "+a+" y !"+b+" z")
			exp(t, "(x "+a+" y) "+b+" z", "op@1:"+b+"(op@1:"+a+"(name@1:x name@5:y) name@10:z)")
			seq(t, "x "+a+" y; z "+b+" 1", "seq@0(op@0:"+a+"(name@0:x name@4:y) op@7:"+b+"(name@7:z int@11=1))")
		}
	}
}

// A sign has something on both its sides.
func TestSignsAlone(t *testing.T) {
	for _, sign := range []string{"+", "-", "^", "*", "/", "%", "=", "<"} {
		syntax(t, "do !"+sign, "do !"+sign+" 1", "do 1 "+sign+"!", "do (1 "+sign+"!)", "do (!"+sign+")", "do (!"+sign+" 1)", "do 1 "+sign+" # no!", "let x = !"+sign+" 1; do 1", "do a; !"+sign+" 1", "do 1 "+sign+" !; 2")
		for _, other := range []string{"+", "-", "^", "*", "/", "%", "=", "<", "->"} {
			syntax(t, "do 1 "+sign+" !"+other+" 2")
		}
		for _, key := range []string{"fun", "let", "if", "then", "in", "do", "end", "with", "rec", "of", "type", "else"} {
			syntax(t, "do 1 "+sign+" !"+key+" x")
		}
	}
}

// P5.1: exps.

func TestLet(t *testing.T) {
	exp(t, "let x = 1 in x", "let@0:x(int@8=1 name@13:x)")
	exp(t, "let x = let y = 1 in y in let z = 2 in z", "let@0:x(let@8:y(int@16=1 name@21:y) let@26:z(int@34=2 name@39:z))")
	exp(t, "let x = 1 in a = b", "let@0:x(int@8=1 op@13:=(name@13:a name@17:b))")
	exp(t, "let x = a = b in c", "let@0:x(op@8:=(name@8:a name@12:b) name@17:c)")
	exp(t, "let x = fun y -> y in x", "let@0:x(fun@8:y(name@17:y) name@22:x)")
	exp(t, "let rec f = fun x -> f x in f", "rec@0:f(fun@12:x(call@21(name@21:f name@23:x)) name@28:f)")
	exp(t, "let rec f = fun x -> fun y -> 1 in f", "rec@0:f(fun@12:x(fun@21:y(int@30=1)) name@35:f)")
	exp(t, "let rec f = fun x -> let rec g = fun y -> 1 in 2 in 3", "rec@0:f(fun@12:x(rec@21:g(fun@33:y(int@42=1) int@47=2)) int@52=3)")
	seq(t, "let x = a; b in c; d", "let@0:x(seq@8(name@8:a name@11:b) seq@16(name@16:c name@19:d))")
	seq(t, "let rec f = fun x -> a; b in c; d", "rec@0:f(fun@12:x(seq@21(name@21:a name@24:b)) seq@29(name@29:c name@32:d))")
	syntax(t, "do let!", "do let !1 = 2 in 3", "do let !X = 2 in 3", "do let !_ = 2 in 3", "do let !let = 2 in 3", "do let !(x) = 2 in 3", "do let x!", "do let x !y = 1 in 2", "do let x !-> 1 in 2", "do let x !in 2",
		"do let x =!", "do let x = !in 2", "do let x = 1!", "do let x = 1 !)", "do let x = 1 !then 2", "do let x = 1 !fun y -> y", "do let x = 1 !let y = 2 in y", "do let x = 1 !print y", "do let rec f = fun x -> 1 !if a then b else c", "do let x = 1 !do 2", "do let x = 1 in!", "do let x = 1 in !in", "do let x = 1 in 2 !in 3", "do f !let x = 1 in 2", "do 1 + !let x = 1 in 2")
}

// Behind `let rec` stands fun, in an exp and in a declaration: no other exp, though it be one in brackets.
func TestLetRecWithoutFun(t *testing.T) {
	for _, value := range []string{"1", "\"a\"", "x", "A", "f x", "()", "(fun x -> x)", "((fun x -> x))", "let y = 1 in fun x -> x", "if a then b else c", "match a with | b -> c end", "try a with b -> c end", "print a", "retry", "rec", "do", "in", "=", "->", "\"fun\"", ";", ")"} {
		syntax(t, "do let rec f = !"+value+" in f", "let rec f = !"+value+"; do f", "do (let rec f = !"+value+" in f)", "let g = let rec f = !"+value+" in f; do g", "type t = A; let rec f = !"+value+"; do f")
	}
	syntax(t, "do let rec f =!", "let rec f =!", "do let rec!", "let rec!", "do let rec !rec f = fun x -> x in f", "let rec !rec f = fun x -> x; do f", "do let rec !fun = fun x -> x in f", "do let rec !A = fun x -> x in f", "let rec f !x = fun y -> y; do f",
		"let rec f !fun x -> x; do f", "do let rec f = fun!", "do let rec f = fun !-> 1 in f", "do let rec f = fun !A -> 1 in f", "do let rec f = fun x !y -> 1 in f", "do let rec f = fun x ->!", "do let rec f = fun x -> !in f", "do let rec f = fun x -> x!", "do let rec f = fun x -> x !then f")
}

func TestFun(t *testing.T) {
	exp(t, "fun x -> x", "fun@0:x(name@9:x)")
	exp(t, "fun x -> fun y -> x y", "fun@0:x(fun@9:y(call@18(name@18:x name@20:y)))")
	exp(t, "fun x -> 1 + 2", "fun@0:x(op@9:+(int@9=1 int@13=2))")
	exp(t, "fun x -> a < b", "fun@0:x(op@9:<(name@9:a name@13:b))")
	seq(t, "fun x -> a; b", "fun@0:x(seq@9(name@9:a name@12:b))")
	syntax(t, "do fun!", "do fun !1 -> 1", "do fun !_ -> 1", "do fun !X -> 1", "do fun !() -> 1", "do fun !(x) -> 1", "do fun !fun -> 1", "do fun !-> 1", "do fun x!", "do fun x !y -> 1", "do fun x != 1", "do fun x !1", "do fun x ->!", "do fun x -> !->", "do fun x -> !)", "do (fun x -> !)", "do f !fun x -> x", "do 1 * !fun x -> x", "do fun x -> x !-> y")
}

func TestIf(t *testing.T) {
	exp(t, "if a then b else c", "if@0(name@3:a name@10:b name@17:c)")
	exp(t, "if a then if b then c else d else e", "if@0(name@3:a if@10(name@13:b name@20:c name@27:d) name@34:e)")
	exp(t, "if a then b else if c then d else e", "if@0(name@3:a name@10:b if@17(name@20:c name@27:d name@34:e))")
	exp(t, "if a < b then 1 else 2 + 3", "if@0(op@3:<(name@3:a name@7:b) int@14=1 op@21:+(int@21=2 int@25=3))")
	exp(t, "if if a then b else c then d else e", "if@0(if@3(name@6:a name@13:b name@20:c) name@27:d name@34:e)")
	seq(t, "if a; b then c; d else e; f", "if@0(seq@3(name@3:a name@6:b) seq@13(name@13:c name@16:d) seq@23(name@23:e name@26:f))")
	syntax(t, "do if!", "do if !then 1 else 2", "do if a!", "do if a !else c", "do if a !in b", "do if a !print b else c", "do if a !let x = 1 in x else c", "do if a then b !fun x -> x", "do if a then b !write c d", "do if a then!", "do if a then !else c", "do if a then b!", "do if a then b !then c", "do if a then b !end", "do (if a then b!)", "do if a then b else!", "do if a then b else !else c", "do if a then b else c !else d",
		"do f !if a then b else c", "do 1 - !if a then b else c")
}

func TestSeq(t *testing.T) {
	seq(t, "a; b", "seq@0(name@0:a name@3:b)")
	seq(t, "a; b; c", "seq@0(name@0:a seq@3(name@3:b name@6:c))")
	seq(t, "(a; b); c", "seq@1(seq@1(name@1:a name@4:b) name@8:c)")
	seq(t, "a; (b; c)", "seq@0(name@0:a seq@4(name@4:b name@7:c))")
	seq(t, "a = b; c < d", "seq@0(op@0:=(name@0:a name@4:b) op@7:<(name@7:c name@11:d))")
	seq(t, "a; let x = b in c; d", "seq@0(name@0:a let@3:x(name@11:b seq@16(name@16:c name@19:d)))")
	seq(t, "a; fun x -> b; c", "seq@0(name@0:a fun@3:x(seq@12(name@12:b name@15:c)))")
	seq(t, "a; if b then c else d; e", "seq@0(name@0:a if@3(name@6:b name@13:c seq@20(name@20:d name@23:e)))")
	seq(t, "print a; f x; 1 + 2", "seq@0(print@0(name@6:a) seq@9(call@9(name@9:f name@11:x) op@14:+(int@14=1 int@18=2)))")
	seq(t, "match a with | b -> c end; d", "seq@0(match@0(name@6:a name@15:b name@20:c) name@27:d)")
	syntax(t, "do a;!", "do a; !;", "do a;\n!", "do !;", "do !; a", "do (a;!)", "do (!;a)", "do a; !; b", "do a; !in", "do a; b;!", "do a; !do b", "do if a; !then b else c", "do match a; !with | b -> c end", "do a; let!")
}

func TestMatch(t *testing.T) {
	exp(t, "match a with | b -> c end", "match@0(name@6:a name@15:b name@20:c)")
	exp(t, "match a with | 1 -> b | A -> c | _ -> d end", "match@0(name@6:a int@15=1 name@20:b con@24:A name@29:c any@33 name@38:d)")
	exp(t, "match f a with | A x _ -> x + 1 end", "match@0(call@6(name@6:f name@8:a) con@17:A(name@19:x any@21) op@26:+(name@26:x int@30=1))")
	exp(t, "match match a with | b -> c end with | d -> match e with | f -> g | h -> i end | j -> k end",
		"match@0(match@6(name@12:a name@21:b name@26:c) name@39:d match@44(name@50:e name@59:f name@64:g name@68:h name@73:i) name@81:j name@86:k)")
	exp(t, "match a with | b -> fun x -> c | d -> e end", "match@0(name@6:a name@15:b fun@20:x(name@29:c) name@33:d name@38:e)")
	exp(t, "match a; b with | c -> d; e | f -> g; h end", "match@0(seq@6(name@6:a name@9:b) name@18:c seq@23(name@23:d name@26:e) name@30:f seq@35(name@35:g name@38:h))")
	exp(t, "1 + match a with | b -> c end * 2", "op@0:+(int@0=1 op@4:*(match@4(name@10:a name@19:b name@24:c) int@32=2))")
	syntax(t, "do match!", "do match !with | b -> c end", "do match a!", "do match a !| b -> c end", "do match a !end", "do match print a !b", "do match a with!", "do match a with !end", "do match a with !b -> c end", "do match a with |!", "do match a with | !-> c end", "do match a with | !| b -> c end", "do match a with | b!",
		"do match a with | b != c end", "do match a with | b !c -> d end", "do match a with | b !| c -> d end", "do match a with | b ->!", "do match a with | b -> !end", "do match a with | b -> !| c -> d end", "do match a with | b -> c!", "do match a with | b -> c !)", "do (match a with | b -> c !)", "do match a with | b -> c !-> d end",
		"do match a with | b -> c !with | d -> e end", "do match a with | b -> c !in", "do match a with | b -> c | !end", "do match a with | b -> c end !end", "do match a with | b -> c end !| d -> e end", "do match a with | b -> match c with | d -> e end!")
}

func TestTry(t *testing.T) {
	exp(t, "try a with b -> c end", "try@0:b(name@4:a name@16:c)")
	exp(t, "try f a with e -> e + 1 end", "try@0:e(call@4(name@4:f name@6:a) op@18:+(name@18:e int@22=1))")
	exp(t, "try try a with b -> c end with d -> try e with f -> g end end", "try@0:d(try@4:b(name@8:a name@20:c) try@36:f(name@40:e name@52:g))")
	exp(t, "try a; b with c -> d; e end", "try@0:c(seq@4(name@4:a name@7:b) seq@19(name@19:d name@22:e))")
	exp(t, "try let x = 1 in a; b with c -> fun x -> d; e end", "try@0:c(let@4:x(int@12=1 seq@17(name@17:a name@20:b)) fun@32:x(seq@41(name@41:d name@44:e)))")
	exp(t, "try a with b -> c end = 1", "op@0:=(try@0:b(name@4:a name@16:c) int@24=1)")
	syntax(t, "do try!", "do try !with b -> c end", "do try a!", "do try a !end", "do try a !-> c end", "do try print a !e -> c end", "do try write a b !e -> c end", "do try a with!", "do try a with !| b -> c end", "do try a with !_ -> c end", "do try a with !1 -> c end", "do try a with !A -> c end", "do try a with !(b) -> c end", "do try a with !-> c end", "do try a with b!", "do try a with b !c -> d end", "do try a with b !c end",
		"do try a with b ->!", "do try a with b -> !end", "do try a with b -> c!", "do try a with b -> c !| d -> e end", "do (try a with b -> c !)", "do try a with b -> c !with d -> e end", "do try a with b -> c end !end")
}

// Brackets leave no trace but in places: none is theirs.
func TestBrackets(t *testing.T) {
	exp(t, "(1)", "int@1=1")
	exp(t, "(((x)))", "name@3:x")
	exp(t, "(())", "unit@1")
	exp(t, "((()))", "unit@2")
	exp(t, "(1) + 2", "op@1:+(int@1=1 int@6=2)")
	exp(t, "((1) + 2) * 3", "op@2:*(op@2:+(int@2=1 int@7=2) int@12=3)")
	exp(t, "1 + (2)", "op@0:+(int@0=1 int@5=2)")
	exp(t, "(\n f) x", "call@3(name@3:f name@6:x)")
	exp(t, "((f) x) y", "call@2(call@2(name@2:f name@5:x) name@8:y)")
	exp(t, "(a; b)", "seq@1(name@1:a name@4:b)")
	exp(t, "(let x = 1 in x)", "let@1:x(int@9=1 name@14:x)")
	exp(t, "(print 1)", "print@1(int@7=1)")
	exp(t, "(A 1)", "con@1:A(int@3=1)")
	exp(t, "A (1) ((B)) (())", "con@0:A(int@3=1 con@8:B unit@13)")
	seq(t, "(a); b", "seq@1(name@1:a name@5:b)")
	seq(t, "((a)); ((b))", "seq@2(name@2:a name@9:b)")
	seq(t, "(a + 1); b", "seq@1(op@1:+(name@1:a int@5=1) name@9:b)")
	seq(t, "() = (); ()", "seq@0(op@0:=(unit@0 unit@5) unit@9)")
	syntax(t, "do (!", "do !)", "do ()!)", "do (1!", "do (1)!)", "do ((1)!", "do (1 !, 2)", "do (1 !| 2)", "do (1 !->)", "do f (!", "do f !)", "do (!=)", "do (!in)", "do (1 !in)", "do (!type)", "do (!do 1)", "do (1 !do 1)")
}

// P5.1: patterns.

func TestPatterns(t *testing.T) {
	pat(t, "_", "any@0")
	pat(t, "x", "name@0:x")
	pat(t, "0", "int@0")
	pat(t, "007", "int@0=7")
	pat(t, "A", "con@0:A")
	pat(t, "A x", "con@0:A(name@2:x)")
	pat(t, "A _ 1", "con@0:A(any@2 int@4=1)")
	pat(t, "A x y z", "con@0:A(name@2:x name@4:y name@6:z)")
	pat(t, "A x B 1 _", "con@0:A(name@2:x con@4:B int@6=1 any@8)")
	pat(t, "A B", "con@0:A(con@2:B)")
	pat(t, "A (B x) ((C)) (_)", "con@0:A(con@3:B(name@5:x) con@10:C any@15)")
	pat(t, "A x x", "con@0:A(name@2:x name@4:x)")
	pat(t, "(A)", "con@1:A")
	pat(t, "(( x ))", "name@3:x")
	pat(t, "(_)", "any@1")
	pat(t, "((A (1)))", "con@2:A(int@5=1)")
	for _, p := range []string{"(!)", "!\"a\"", "!retry", "!- 1", "!-1", "!fun", "!let", "!|", "!+", "!<", "!;", "!,", "!)", "!end", "!match"} {
		syntax(t, "do match a with | "+p+" -> b end", "do match a with | b -> c | "+p+" -> d end")
	}
	for _, p := range []string{"A (!)", "x !y", "x !1", "1 !2", "_ !_", "(A) !x", "(x !y)", "A !\"a\"", "A (B) !retry", "A !+ 1", "A !- 1", "A x !, y", "A !fun", "(A !| B)", "A !| B", "1 !+ 1", "A (!-1)", "(x)!)", "A !;", "A !="} {
		syntax(t, "do match a with | "+p+" -> b end")
	}
	syntax(t, "do match a with | (!", "do match a with | (!-> b end", "do match a with | (A x!", "do match a with | (A x !-> b end", "do match a with | (x) !(y) -> b end", "do match a with | A (_!", "do match a with | A!")
}

// P5.1: declarations.

func TestPrograms(t *testing.T) {
	reads(t, "do 1", "prog@0(int@3=1)")
	reads(t, " \n do 1 ", "prog@3(int@6=1)")
	reads(t, "# a\n do # b\n 1 # c", "prog@5(int@13=1)")
	reads(t, "let x = 1; do x", "prog@0(val@0:x(int@8=1) name@14:x)")
	reads(t, "\tlet x=1;do x", "prog@1(val@1:x(int@7=1) name@12:x)")
	reads(t, "let rec f = fun x -> f x; do f", "prog@0(valrec@0:f(fun@12:x(call@21(name@21:f name@23:x))) name@29:f)")
	reads(t, "type t = A; do A", "prog@0(type@0:t(def@9:A) con@15:A)")
	reads(t, "let a = 1; type t = A; let rec f = fun x -> x; let b = a = 1; do a; b",
		"prog@0(val@0:a(int@8=1) type@11:t(def@20:A) valrec@23:f(fun@35:x(name@44:x)) val@47:b(op@55:=(name@55:a int@59=1)) seq@65(name@65:a name@68:b))")
	reads(t, "let x = (1); do (x)", "prog@0(val@0:x(int@9=1) name@17:x)")
	syntax(t, "!", "!1", "!x", "!;", "!in", "!(do 1)", "!fun x -> x", "!of", "!rec", "!\"do\"", "# do\n!", "do!", "do !do", "do !do 1", "do !type t = A; do 1", "let!", "let x!", "let x =!", "let x = !;", "let x = 1!", "let x = 1 !do 1", "let x = 1 !let y = 2; do 1", "let x = 1;!", "let x = 1; !;", "let x = 1; !x",
		"let x = 1; !1", "let x = 1 !in x; do 1", "let !X = 1; do 1", "let !1 = 1; do 1", "let !_ = 1; do 1", "let !(x) = 1; do 1", "let x !y = 1; do 1", "let x !1; do 1", "let x !-> 1; do 1", "type t = A; !", "do 1; let x = 2!", "let x = 1; !in")
}

// What stands behind the last exp.
func TestWhatStandsBehind(t *testing.T) {
	for _, w := range strings.Fields("let rec in fun if then else with end print raise spawn atomically orelse tvar read write type of do -> | ) , _") {
		syntax(t, "do 1 !"+w, "do f x !"+w+" 1", "do (1) !"+w+" do 1", "do print 1 !"+w, "do let x = 1 in x !"+w+" x", "do fun x -> x !"+w, "do match a with | b -> c end !"+w, "let x = 1; do A !"+w, "do a; b !"+w, "do a = b !"+w, "do retry !"+w)
	}
	syntax(t, "do 1 !) )", "do 1 !let x = 2; do 3", "do 1 !type t = A;", "do 1 !do 2", "do print 1 !2", "do a = b != c", "do 1 + 2 !|", "do 1;!", "do 1; !")
	goes(t, "do 1 # do 2")
	goes(t, "do 1 \n\t# a\n # ) )\n\n")
}

func TestTypes(t *testing.T) {
	reads(t, "type t a = A; do 1", "prog@0(type@0:t<a>(def@11:A) int@17=1)")
	reads(t, "type t a b c d = A; do 1", "prog@0(type@0:t<a b c d>(def@17:A) int@23=1)")
	reads(t, "type t a a = A; do 1", "prog@0(type@0:t<a a>(def@13:A) int@19=1)")
	reads(t, "type list a = Nil | Cons of a, list a; do 1", "prog@0(type@0:list<a>(def@14:Nil def@20:Cons(ty@28:a ty@31:list(ty@36:a))) int@42=1)")
	reads(t, " type t=A|B|C of t|D;do 1", "prog@1(type@1:t(def@8:A def@10:B def@12:C(ty@17:t) def@19:D) int@24=1)")
	reads(t, "type t = A of a, b, c, d | B; do 1", "prog@0(type@0:t(def@9:A(ty@14:a ty@17:b ty@20:c ty@23:d) def@27:B) int@33=1)")
	reads(t, "type t = A; type t = A; do 1", "prog@0(type@0:t(def@9:A) type@12:t(def@21:A) int@27=1)")
	reads(t, "type int = True; do 1", "prog@0(type@0:int(def@11:True) int@20=1)")
	ty(t, "a", "ty@0:a")
	ty(t, "f a", "ty@0:f(ty@2:a)")
	ty(t, "f a b", "ty@0:f(ty@2:a ty@4:b)")
	ty(t, "f (g a) b", "ty@0:f(ty@3:g(ty@5:a) ty@8:b)")
	ty(t, "f (a)", "ty@0:f(ty@3:a)")
	ty(t, "f (g (h a b) c) (d)", "ty@0:f(ty@3:g(ty@6:h(ty@8:a ty@10:b) ty@13:c) ty@17:d)")
	ty(t, "f a b c d e f g h i j", "ty@0:f(ty@2:a ty@4:b ty@6:c ty@8:d ty@10:e ty@12:f ty@14:g ty@16:h ty@18:i ty@20:j)")
	syntax(t, "type!", "type !T = A; do 1", "type !1 = A; do 1", "type != A; do 1", "type !type = A; do 1", "type t!", "type t !1 = A; do 1", "type t !A", "type t a !A = B; do 1", "type t a !, b = A; do 1", "type t !(a) = A; do 1", "type t a b c d !A; do 1", "type t a b c d !1", "type t a b c d!", "type t =!", "type t = !; do 1", "type t = !a; do 1", "type t = !1; do 1", "type t = !| A; do 1",
		"type t = A!", "type t = A !do 1", "type t = A !a; do 1", "type t = A !B; do 1", "type t = A !(a); do 1", "type t = A !, B; do 1", "type t = A |!", "type t = A | !; do 1", "type t = A | !a; do 1", "type t = A | !| B; do 1", "type t = A of!", "type t = A of !; do 1", "type t = A of !| B; do 1", "type t = A of !A; do 1", "type t = A of !1; do 1", "type t = A of !(a); do 1", "type t = A of !, a; do 1",
		"type t = A of a!", "type t = A of a !A; do 1", "type t = A of a !1; do 1", "type t = A of a !of a; do 1", "type t = A of a !do 1", "type t = A of a,!", "type t = A of a, !; do 1", "type t = A of a, !(b); do 1", "type t = A of a, !| B; do 1", "type t = A of a (!); do 1", "type t = A of a (!", "type t = A of a (b!", "type t = A of a (b !, c); do 1", "type t = A of a (b !; do 1", "type t = A of a (!(b)); do 1", "type t = A of a (!B); do 1", "type t = A of a !); do 1", "type t = A of a (b) !-> c; do 1", "type t = A of a (b)!", "type t = A;!", "type t = A; !;")
}
