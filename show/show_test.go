package show_test

import (
	"slices"
	"strings"
	"testing"

	"selvage/api"
	"selvage/parse"
	"selvage/show"
)

// node is a source's node.
func node(t *testing.T, s string) api.Node {
	t.Helper()
	n, at, e := parse.Program(s)
	if e != api.OK {
		t.Fatalf("Program(%.200q) is %d, %v", s, at, e)
	}
	return n
}

// shows holds that a node's text is that, and that it is read as the same node.
func shows(t *testing.T, n api.Node, want string) {
	t.Helper()
	s, e := show.Program(n)
	if s != want || e != api.OK {
		t.Errorf("the text is\n%s, %v, not\n%s", s, e, want)
	}
	if back, _, e := parse.Program(s); e != api.OK || !parse.Same(back, n) {
		t.Errorf("%q is read as another node", s)
	}
}

// becomes holds that a source's node has that text, which itself stays as it is.
func becomes(t *testing.T, s, want string) {
	t.Helper()
	shows(t, node(t, s), want)
	shows(t, node(t, want), want)
}

// stays holds that sources are texts.
func stays(t *testing.T, l ...string) {
	t.Helper()
	for _, s := range l {
		shows(t, node(t, s), s)
	}
}

// refused holds that a node is no program's.
func refused(t *testing.T, what string, n api.Node) {
	t.Helper()
	if s, e := show.Program(n); s != "" || e != api.ErrArg {
		t.Errorf("%s: the text is %.100q, %v", what, s, e)
	}
}

// P6.1: the text of each kind of node.

func TestTextOfEachExp(t *testing.T) {
	stays(t,
		"do 7",
		"do \"a b\"",
		"do ( )",
		"do x",
		"do Con",
		"do Con 1 x ( ) Nil",
		"do fun x -> y",
		"do f x",
		"do let x = 1 in y",
		"do let rec f = fun x -> y in z",
		"do if a then b else c",
		"do match a with | x -> b end",
		"do match a with | 1 -> b | Con x _ -> c | _ -> d end",
		"do try a with x -> b end",
		"do a ; b",
		"do print a",
		"do raise a",
		"do spawn a",
		"do atomically a",
		"do retry",
		"do orelse a b",
		"do tvar a",
		"do read a",
		"do write a b",
	)
	for _, sign := range strings.Fields("= < + - ^ * / %") {
		stays(t, "do a "+sign+" b")
	}
}

func TestTextOfEachPat(t *testing.T) {
	for _, pat := range []string{"_", "x", "0", "42", "Con", "Con 1", "Con x _ 2 Nil", "Con ( Con x ) y", "Con ( Con ( Con _ ) )"} {
		stays(t, "do match a with | "+pat+" -> b end", "do match a with | x -> b | "+pat+" -> c end")
	}
}

func TestTextOfEachDeclaration(t *testing.T) {
	stays(t,
		"type t = A ; do 1",
		"type t a = A ; do 1",
		"type t a b c d = A ; do 1",
		"type t = A | B | C ; do 1",
		"type t = A of u ; do 1",
		"type t = A of u , v , w , x ; do 1",
		"type t = A of u v w ; do 1",
		"type t = A of u ( v w ) ; do 1",
		"type t = A of u ( v ( w x ) y ) z , int | B | C of t ; do 1",
		"let x = 1 ; do x",
		"let rec f = fun x -> f x ; do f",
	)
}

func TestTextOfSeveralDeclarations(t *testing.T) {
	becomes(t, "type list a=Nil|Cons of a,list a;let x=1;let rec f=fun x->f(x);type u=U;let y=x;do f(y)",
		"type list a = Nil | Cons of a , list a ; let x = 1 ; let rec f = fun x -> f x ; type u = U ; let y = x ; do f y")
	becomes(t, strings.Repeat("let a=1;", 60)+"do a", strings.Repeat("let a = 1 ; ", 60)+"do a")
}

// The chapter's example.
func TestExample(t *testing.T) {
	becomes(t, "do(1+2)*3;f(x)(Cons 1 Nil)", "do ( 1 + 2 ) * 3 ; f x ( Cons 1 Nil )")
}

// One blank stands between tokens, none ahead and none behind, whatever stands between them in a source.
func TestBlanks(t *testing.T) {
	becomes(t, " \n\tdo # a\n 1\t+\n\n2 # b", "do 1 + 2")
	becomes(t, "type t a=A of u(v),w|B;do()", "type t a = A of u v , w | B ; do ( )")
	becomes(t, "let x=fun y->match y with|_->0-1 end;do x;try 1 with z->2 end", "let x = fun y -> match y with | _ -> 0 - 1 end ; do x ; try 1 with z -> 2 end")
}

// class is what an exp is, where places ask for one.
type class struct {
	text, name string
}

// exps are exps of each kind, by what the grammar has them be. What binds less loosely stands within.
var exps = []class{
	{"1", "atom"}, {"\"a\"", "atom"}, {"x", "atom"}, {"( )", "atom"}, {"retry", "atom"},
	{"match a with | b -> c end", "atom"}, {"match a with | B 1 -> c ; d | _ -> e end", "atom"}, {"try a with b -> c end", "atom"}, {"try a ; b with c -> d ; e end", "atom"},
	{"Con", "con"}, {"Con 1", "app"}, {"Con 1 x", "app"}, {"Con Con", "app"}, {"Con ( Con 1 )", "app"},
	{"f x", "call"}, {"f x y", "call"}, {"1 2", "call"}, {"( ) Con", "call"}, {"( Con ) 1", "call"}, {"match a with | b -> c end 1", "call"},
	{"print x", "app"}, {"raise x", "app"}, {"spawn x", "app"}, {"atomically x", "app"}, {"tvar x", "app"}, {"read x", "app"}, {"write x y", "app"}, {"orelse x y", "app"},
	{"print ( f x )", "app"}, {"write Con ( a ; b )", "app"},
	{"a * b", "prod"}, {"a / b", "prod"}, {"a % b", "prod"}, {"a * b / c", "prod"}, {"f x * Con 1", "prod"},
	{"a + b", "sum"}, {"a - b", "sum"}, {"a ^ b", "sum"}, {"a + b - c", "sum"}, {"a * b + c % d", "sum"},
	{"a = b", "cmp"}, {"a < b", "cmp"}, {"a + b = c * d", "cmp"},
	{"fun a -> b", "open"}, {"fun a -> fun b -> c", "open"}, {"let a = b in c", "open"}, {"let rec a = fun b -> c in d", "open"}, {"if a then b else c", "open"},
	{"a ; b", "seq"}, {"a ; b ; c", "seq"}, {"a = b ; fun c -> d", "seq"}, {"( fun a -> b ) ; c", "seq"},
}

// place is where an exp stands, and what may stand there without brackets.
type place struct {
	ahead, behind, bare string
}

const (
	asAtom = "atom con"
	asHead = "atom call"
	asApp  = "atom con call app"
	asProd = asApp + " prod"
	asSum  = asProd + " sum"
	asCmp  = asSum + " cmp"
	asOpen = asCmp + " open"
	asSeq  = asOpen + " seq"
)

// places are those of the grammar that ask for an exp, or for something that an exp may be.
var places = []place{
	{"do ", "", asSeq},
	{"let z = 1 ; do ", "", asSeq},
	{"do let z = ", " in 1", asSeq},
	{"do let z = 1 in ", "", asSeq},
	{"do let rec z = fun y -> ", " in 1", asSeq},
	{"do let rec z = fun y -> 1 in ", "", asSeq},
	{"do fun z -> ", "", asSeq},
	{"do if ", " then 1 else 2", asSeq},
	{"do if 1 then ", " else 2", asSeq},
	{"do if 1 then 2 else ", "", asSeq},
	{"do ", " ; 1", asCmp},
	{"do 1 ; ", "", asSeq},
	{"do 1 ; ", " ; 2", asCmp},
	{"do 1 ; 2 ; ", "", asSeq},
	{"do ", " = 1", asSum},
	{"do 1 = ", "", asSum},
	{"do ", " < 1", asSum},
	{"do 1 < ", "", asSum},
	{"do ", " + 1", asSum},
	{"do 1 + ", "", asProd},
	{"do ", " - 1", asSum},
	{"do 1 - ", "", asProd},
	{"do ", " ^ 1", asSum},
	{"do 1 ^ ", "", asProd},
	{"do 1 + ", " + 2", asProd},
	{"do ", " * 1", asProd},
	{"do 1 * ", "", asApp},
	{"do ", " / 1", asProd},
	{"do 1 / ", "", asApp},
	{"do ", " % 1", asProd},
	{"do 1 % ", "", asApp},
	{"do 1 * ", " * 2", asApp},
	{"do 1 * ", " + 2", asApp},
	{"do 1 + ", " * 2", asProd},
	{"do 1 = ", " + 2", asSum},
	{"do ", " 1", asHead},
	{"do ", " 1 2", asHead},
	{"do z ", "", asAtom},
	{"do z ", " 1", asAtom},
	{"do z 1 ", "", asAtom},
	{"do ( Con ) ", "", asAtom},
	{"do Con ", "", asAtom},
	{"do Con ", " 1", asAtom},
	{"do Con 1 ", "", asAtom},
	{"do Con 1 2 3 ", "", asAtom},
	{"do print ", "", asAtom},
	{"do raise ", "", asAtom},
	{"do spawn ", "", asAtom},
	{"do atomically ", "", asAtom},
	{"do tvar ", "", asAtom},
	{"do read ", "", asAtom},
	{"do write ", " 1", asAtom},
	{"do write 1 ", "", asAtom},
	{"do orelse ", " 1", asAtom},
	{"do orelse 1 ", "", asAtom},
	{"do match ", " with | z -> 1 end", asSeq},
	{"do match 1 with | z -> ", " end", asSeq},
	{"do match 1 with | 1 -> ", " | z -> 1 end", asSeq},
	{"do match 1 with | 1 -> 2 | z -> ", " end", asSeq},
	{"do try ", " with z -> 1 end", asSeq},
	{"do try 1 with z -> ", " end", asSeq},
	// In a declaration's exp no `;` stands by itself.
	{"let z = ", " ; do 1", asOpen},
	{"type t = A ; let z = ", " ; let y = 1 ; do 1", asOpen},
	{"let rec z = fun y -> ", " ; do 1", asOpen},
	{"let z = fun y -> ", " ; do 1", asOpen},
	{"let z = let y = ", " in 1 ; do 1", asOpen},
	{"let z = let y = 1 in ", " ; do 1", asOpen},
	{"let z = let rec y = fun x -> ", " in 1 ; do 1", asOpen},
	{"let z = let rec y = fun x -> 1 in ", " ; do 1", asOpen},
	{"let z = if ", " then 1 else 2 ; do 1", asOpen},
	{"let z = if 1 then ", " else 2 ; do 1", asOpen},
	{"let z = if 1 then 2 else ", " ; do 1", asOpen},
	{"let z = if 1 then 2 else fun y -> let x = 1 in ", " ; do 1", asOpen},
	{"let z = ", " = 1 ; do 1", asSum},
	{"let z = 1 < ", " ; do 1", asSum},
	{"let z = ", " + 1 ; do 1", asSum},
	{"let z = 1 - ", " ; do 1", asProd},
	{"let z = ", " * 1 ; do 1", asProd},
	{"let z = 1 / ", " ; do 1", asApp},
	{"let z = ", " 1 ; do 1", asHead},
	{"let z = 1 ", " ; do 1", asAtom},
	{"let z = Con ", " ; do 1", asAtom},
	{"let z = print ", " ; do 1", asAtom},
	{"let z = write 1 ", " ; do 1", asAtom},
	// But within brackets, match and try it does.
	{"let z = ( fun y -> ", " ) 1 ; do 1", asSeq},
	{"let z = 1 + ( let y = ", " in 1 ) ; do 1", asSeq},
	{"let z = print ( if 1 then 2 else ", " ) ; do 1", asSeq},
	{"let z = ( ", " ; 1 ) ; do 1", asCmp},
	{"let z = ( 1 ; ", " ) ; do 1", asSeq},
	{"let z = ( 1 ; fun y -> ", " ) ; do 1", asSeq},
	{"let rec z = fun y -> ( 1 ; ", " ) ; do 1", asSeq},
	{"let z = match ", " with | y -> 1 end ; do 1", asSeq},
	{"let z = match 1 with | y -> ", " end ; do 1", asSeq},
	{"let z = match 1 with | 1 -> fun x -> ", " | y -> 2 end ; do 1", asSeq},
	{"let z = try ", " with y -> 1 end ; do 1", asSeq},
	{"let z = try 1 with y -> ", " end ; do 1", asSeq},
	{"let z = try 1 with y -> if 1 then ", " else 2 end ; do 1", asSeq},
	{"let z = 1 + match 1 with | y -> ", " end ; do 1", asSeq},
	// And behind them it does no more.
	{"let z = if ( 1 ; 2 ) then 3 else ", " ; do 1", asOpen},
	{"let z = if match 1 with | y -> 2 ; 3 end then ", " else 4 ; do 1", asOpen},
	{"let z = let y = try 1 ; 2 with x -> 3 ; 4 end in ", " ; do 1", asOpen},
}

// P6.1: at every place of the grammar each kind of exp stands in brackets just where the place asks for something that it is not.
func TestEveryExpAtEveryPlace(t *testing.T) {
	for _, p := range places {
		bare := strings.Fields(p.bare)
		for _, x := range exps {
			want := p.ahead + "( " + x.text + " )" + p.behind
			if slices.Contains(bare, x.name) {
				want = p.ahead + x.text + p.behind
			}
			becomes(t, p.ahead+"("+x.text+")"+p.behind, want)
			becomes(t, p.ahead+"( ( "+x.text+") )"+p.behind, want)
		}
	}
}

// A constructor with nothing behind it is an atom; with something behind it, it is none; and none is called by it without brackets.
func TestConstructors(t *testing.T) {
	becomes(t, "do f (Con)", "do f Con")
	becomes(t, "do f (Con 1)", "do f ( Con 1 )")
	becomes(t, "do (Con)", "do Con")
	becomes(t, "do (Con 1)", "do Con 1")
	becomes(t, "do (Con) (Con)", "do ( Con ) Con")
	becomes(t, "do ((Con) 1) 2", "do ( Con ) 1 2")
	becomes(t, "do (Con 1) 2", "do ( Con 1 ) 2")
	becomes(t, "do ((Con 1) 2) 3", "do ( Con 1 ) 2 3")
	becomes(t, "do Con (Con) (Con 1) ((Con) 1)", "do Con Con ( Con 1 ) ( ( Con ) 1 )")
	becomes(t, "do (Con) + (Con 1) * (Con 2) = Con", "do Con + Con 1 * Con 2 = Con")
	becomes(t, "do (Con); (Con 1)", "do Con ; Con 1")
	becomes(t, "do print (Con)", "do print Con")
	becomes(t, "do print (Con 1)", "do print ( Con 1 )")
	becomes(t, "let x = (Con) 1; do 1", "let x = ( Con ) 1 ; do 1")
	becomes(t, "do match (Con) with | ((Con)) -> (Con) | (Con (Con) (Con 1)) -> ((Con 1)) end", "do match Con with | Con -> Con | Con Con ( Con 1 ) -> Con 1 end")
}

// Pats in brackets: only what has something behind it, behind a constructor.
func TestEveryPatAtEveryPlace(t *testing.T) {
	for _, p := range []place{
		{"do match 1 with | ", " -> 2 end", "atom app"},
		{"do match 1 with | 1 -> 2 | ", " -> 3 | _ -> 4 end", "atom app"},
		{"let z = match 1 with | ", " -> 2 end ; do 1", "atom app"},
		{"do match 1 with | Con ", " -> 2 end", "atom"},
		{"do match 1 with | Con ", " 1 -> 2 end", "atom"},
		{"do match 1 with | Con _ x ", " 2 -> 2 end", "atom"},
		{"do match 1 with | Con ( Con ", " ) -> 2 end", "atom"},
	} {
		for _, x := range []class{{"_", "atom"}, {"x", "atom"}, {"0", "atom"}, {"12", "atom"}, {"Con", "atom"}, {"Con 1", "app"}, {"Con x _", "app"}, {"Con Con", "app"}, {"Con ( Con 1 )", "app"}} {
			for _, s := range []string{"(" + x.text + ")", "((" + x.text + "))"} {
				if slices.Contains(strings.Fields(p.bare), x.name) {
					becomes(t, p.ahead+s+p.behind, p.ahead+x.text+p.behind)
				} else {
					becomes(t, p.ahead+s+p.behind, p.ahead+"( "+x.text+" )"+p.behind)
				}
			}
		}
	}
}

// Tyapps in brackets: only what has something behind it, behind a name.
func TestEveryTyappAtEveryPlace(t *testing.T) {
	for _, x := range []class{{"a", "atom"}, {"int", "atom"}, {"u a", "app"}, {"u a b", "app"}, {"u ( v a )", "app"}} {
		stays(t, "type t = A of "+x.text+" ; do 1", "type t a = B | A of int , "+x.text+" , u ; do 1")
		for _, p := range []place{{"type t = A of u ", " ; do 1", ""}, {"type t = A of u ", " a ; do 1", ""}, {"type t = A of u a ", " ; do 1", ""}, {"type t = A of int , u ( v ", " ) ; do 1", ""}} {
			if x.name == "atom" {
				becomes(t, p.ahead+"("+x.text+")"+p.behind, p.ahead+x.text+p.behind)
			} else {
				becomes(t, p.ahead+"("+x.text+")"+p.behind, p.ahead+"( "+x.text+" )"+p.behind)
			}
		}
	}
}

// A declaration's seqs: in brackets themselves, not what they stand in.
func TestSeqsOfDeclarations(t *testing.T) {
	becomes(t, "let x = (if a then b; c else d); do 1", "let x = if a then ( b ; c ) else d ; do 1")
	becomes(t, "let x = (if a; b then c; d else e; f); do 1", "let x = if ( a ; b ) then ( c ; d ) else ( e ; f ) ; do 1")
	becomes(t, "let x = (let y = a; b in c; d; e); do 1", "let x = let y = ( a ; b ) in ( c ; d ; e ) ; do 1")
	becomes(t, "let rec f = fun x -> ((a; fun y -> b; c)); do 1", "let rec f = fun x -> ( a ; fun y -> b ; c ) ; do 1")
	becomes(t, "let x = (fun y -> a; b) (c; d); do 1", "let x = ( fun y -> a ; b ) ( c ; d ) ; do 1")
	becomes(t, "let x = match (a; b) with | c -> (d; (e; f)) end; do (1; 2)", "let x = match a ; b with | c -> d ; e ; f end ; do 1 ; 2")
	becomes(t, "let x = try (a; b) with c -> fun y -> (d; e) end; do 1", "let x = try a ; b with c -> fun y -> d ; e end ; do 1")
	becomes(t, "let x = fun y -> match a with | b -> (c; d) end + (e; f); do 1", "let x = fun y -> match a with | b -> c ; d end + ( e ; f ) ; do 1")
	becomes(t, "let x = (a; b); let y = (c; d); do (e; f)", "let x = ( a ; b ) ; let y = ( c ; d ) ; do e ; f")
	becomes(t, "do (let x = (a; b) in (c; d)); e", "do ( let x = a ; b in c ; d ) ; e")
}

// Strings are written as chapter 3 has it: each byte.
func TestStrings(t *testing.T) {
	becomes(t, `do "\x41\x0a\n\"\\\x22\x5c\x20~\x7e"`, `do "A\n\n\"\\\"\\ ~~"`)
	becomes(t, `do ""`, `do ""`)
	const digits = "0123456789abcdef"
	for b := range 256 {
		want := `\x` + digits[b/16:b/16+1] + digits[b%16:b%16+1]
		switch {
		case b == '"':
			want = `\"`
		case b == '\\':
			want = `\\`
		case b == '\n':
			want = `\n`
		case b >= 32 && b <= 126:
			want = string(rune(b))
		}
		becomes(t, `do "\x`+digits[b/16:b/16+1]+digits[b%16:b%16+1]+`"`, `do "`+want+`"`)
		shows(t, does(api.Node{Kind: api.NodeText, Text: "a" + string([]byte{byte(b)}) + "1"}), `do "a`+want+`1"`)
		shows(t, does(api.Node{Kind: api.NodeText, Text: strings.Repeat(string([]byte{byte(b)}), 60)}), `do "`+strings.Repeat(want, 60)+`"`)
	}
	for _, s := range []string{"let", "( )", "# no", "a  b", ";", " ", "in"} {
		becomes(t, `do f "`+s+`" ("`+s+`")`, `do f "`+s+`" "`+s+`"`)
	}
}

// does is a program that does an exp.
func does(n api.Node) api.Node {
	return api.Node{Kind: api.NodeProg, Kids: []api.Node{n}}
}

// Digits stand in tens, without noughts ahead.
func TestDigits(t *testing.T) {
	becomes(t, "do 0", "do 0")
	becomes(t, "do 000", "do 0")
	becomes(t, "do 007 + 10", "do 7 + 10")
	becomes(t, "do f 1000000000 099", "do f 1000000000 99")
	becomes(t, "do match 00 with | 0010 -> 01 end", "do match 0 with | 10 -> 1 end")
	becomes(t, "do 0000000000000000000000004611686018427387903", "do 4611686018427387903")
	shows(t, does(api.Node{Kind: api.NodeInt, Number: api.MaxInt}), "do 4611686018427387903")
}

// Names and constructors of each form, as long as may be.
func TestNames(t *testing.T) {
	stays(t, "do abcdefghijklmnop", "do Abcdefghijklmnop", "do x_1Yz_", "do C__9", "do lets Let iff", "let abcdefghijklmnop = 1 ; do fun dos -> dos",
		"type int abcdefghijklmnop = Abcdefghijklmnop of abcdefghijklmnop ; do try 1 with ends -> ends end")
}

// P6.1: nodes that differ in their places only have one text.
func TestPlacesDoNotCount(t *testing.T) {
	for i, s := range whole {
		a := node(t, s)
		want, e := show.Program(a)
		if e != api.OK {
			t.Fatal(s, e)
		}
		b := copied(a)
		for j, p := range parts(&b) {
			p.At = (i+3)*j - 77
		}
		shows(t, b, want)
		shows(t, node(t, strings.ReplaceAll(s, " ", "\n# a ( 1\n ")), want)
	}
}

// whole are programs with nodes of all kinds; none of them is as its text is.
var whole = []string{
	"do 1+2", "do (x)", "do ()", "do(1+2)*3;f(x)(Cons 1 Nil)",
	"type list a=Nil|Cons of a,list a; let rec map=fun f->fun l->match l with|Nil->Nil|Cons x r->Cons(f x)(map f r)end; do print(map(fun x->x)(Cons 1 Nil))",
	"type t=A; type pair a b=Pair of a,b|None|One of list(list (int)); let x=(1;2); do match x with|_->1|Pair(One y)0->y;2|None->retry end",
	"let a=tvar 0;do spawn(atomically(write a(read a+1)));atomically(if read a<1 then retry else());print \"w\\n\"",
	"do try 1/0 with e->raise e end;orelse(atomically(retry))(fun x->(x;x))",
	"do let x=1 in let rec f=fun y->if y=0 then x else f(y-1) in f 10%3^\"a\"",
	"let x=fun y->(a;b);do (let x=1 in x);(if a then b else c)=(fun x->x)1 2",
}

// copied is a node anew, at each depth.
func copied(n api.Node) api.Node {
	n.Names, n.Kids = slices.Clone(n.Names), slices.Clone(n.Kids)
	for i := range n.Kids {
		n.Kids[i] = copied(n.Kids[i])
	}
	return n
}

// parts are a node and all within it.
func parts(n *api.Node) []*api.Node {
	l := []*api.Node{n}
	for i := range n.Kids {
		l = append(l, parts(&n.Kids[i])...)
	}
	return l
}
