package parse_test

import (
	"strconv"
	"strings"
	"testing"

	"selvage/api"
)

// P5.1, one in another: at most 39 exps, pats and tyapps stand around one.

// around is what an exp may stand in, so that it is deeper by some. Where more stands ahead of the exp, it must hold some itself, lest that be too deep ahead of it.
type around struct {
	ahead, behind string
	deeper, holds int
}

// arounds are the ways in which an exp stands in another one.
var arounds = []around{
	{"(", ")", 1, 0}, {"f (", ") x", 1, 0}, {"1 + (", ") * 2", 1, 0}, {"A 1 (", ")", 1, 0}, {"print (", ")", 1, 0}, {"write 1 (", ")", 1, 0},
	{"let x = ", " in x", 1, 0}, {"let x = 1 in ", "", 1, 1}, {"let rec f = fun x -> ", " in f", 2, 0}, {"let rec f = fun x -> x in ", "", 1, 2},
	{"fun x -> ", "", 1, 0}, {"if ", " then 1 else 2", 1, 0}, {"if 1 then ", " else 2", 1, 1}, {"if 1 then 2 else ", "", 1, 1},
	{"1; ", "", 1, 0}, {"match ", " with | x -> 1 end", 1, 0}, {"match 1 with | x -> ", " end", 1, 1}, {"match 1 with | 1 -> 2 | x -> ", " end", 1, 1},
	{"try ", " with x -> 1 end", 1, 0}, {"try 1 with x -> ", " end", 1, 1}, {"f match ", " with | x -> 1 end", 1, 0}, {"print try 1 with x -> ", " end", 1, 1},
}

// nest is an exp in others, the innermost one first, as a source, and the place of that exp.
func nest(s string, around ...around) (string, int) {
	at := 0
	for _, a := range around {
		s = a.ahead + s + a.behind
		at += len(a.ahead)
	}
	return s, at
}

// depth is how deep an exp is in others.
func depth(around ...around) int {
	n := 0
	for _, a := range around {
		n += a.deeper
	}
	return n
}

// holders are what an exp may stand in that is in no other one.
var holders = [][2]string{{"do ", ""}, {"let z = (1); do ", ""}, {"let z = ", "; do 1"}, {"let z = 1; type t = A of a (b); let z = ", "; do z"}}

// deepest holds that an exp may stand 39 deep, and none any deeper, so that the first token of one that is 40 deep is told, whatever it is.
func deepest(t *testing.T, around ...around) {
	t.Helper()
	for _, h := range holders {
		sequel := false
		for _, a := range around {
			sequel = sequel || a.ahead == "1; "
		}
		if sequel && h[1] != "" {
			continue
		}
		for _, s := range []string{"1", "x", "f x + 1 = 2", "A 1 2", "()", "\"a\"", "retry", "print 1"} {
			source, at := nest(s, around...)
			switch d := depth(around...); {
			case d < 40 && len(h[0]+source+h[1]) <= 2000:
				goes(t, h[0]+source+h[1])
			case d == 40:
				failsAt(t, h[0]+source+h[1], len(h[0])+at, api.ErrDeep)
			}
		}
		if depth(around...) != 40 {
			continue
		}
		for _, s := range []string{"(1)", "(((", "fun x -> x", "let x = 1 in x", "if a then b else c", "match a with | b -> c end", "+", "->", "; 1", "in", "do", "rec", "type t = A", "_", "|", ",", "with", "end", "= 1"} {
			source, at := nest(s, around...)
			failsAt(t, h[0]+source+h[1], len(h[0])+at, api.ErrDeep)
		}
		source, at := nest("", around...)
		failsAt(t, h[0]+source[:at], len(h[0])+at, api.ErrDeep)
		failsAt(t, h[0]+source[:at]+"\n # \n ", len(h[0])+at+6, api.ErrDeep)
	}
}

// times is one way, so often that an exp is so deep; brackets are the innermost ones, where it must hold some, and the outermost one, where the way goes by two.
func times(a around, deep int) []around {
	var l []around
	for range a.holds {
		l = append(l, arounds[0])
	}
	for depth(l...)+a.deeper <= deep {
		l = append(l, a)
	}
	for depth(l...) < deep {
		l = append(l, arounds[0])
	}
	return l
}

func TestDeepExps(t *testing.T) {
	for _, a := range arounds {
		for _, deep := range []int{1, 2, 38, 39, 40} {
			deepest(t, times(a, deep)...)
		}
	}
}

func TestDeepExpsOfAllKinds(t *testing.T) {
	d := dice(3)
	for range 400 {
		var l []around
		deep := 38 + d.below(3)
		for depth(l...) < deep {
			if a := arounds[d.below(len(arounds))]; depth(l...)+a.deeper <= deep && depth(l...) >= a.holds {
				l = append(l, a)
			}
		}
		deepest(t, l...)
	}
}

func TestDeepBrackets(t *testing.T) {
	open, shut := strings.Repeat("(", 39), strings.Repeat(")", 39)
	reads(t, "do "+open+"1"+shut, "prog@0(int@42=1)")
	reads(t, "do "+open+"()"+shut, "prog@0(unit@42)")
	fails(t, "do "+open+"(!1)"+shut, api.ErrDeep)
	fails(t, "do "+open+"(!())"+shut, api.ErrDeep)
	fails(t, "do "+open+"(!", api.ErrDeep)
	fails(t, "do "+open+"(!+)"+shut, api.ErrDeep)
	syntax(t, "do "+open+")!", "do "+open+")"+shut[1:]+"!)", "do "+open+"!", "do "+open+"1!", "do "+open+"()"+shut+"!)")
	fails(t, "do "+open+"(!(((((", api.ErrDeep)
	fails(t, "do "+strings.Repeat("(", 40)+"!"+strings.Repeat("(", 1900), api.ErrDeep)
}

func TestDeepSeqs(t *testing.T) {
	reads(t, "do 1"+strings.Repeat(";1", 39), "prog@0("+deepSeq(3, 40)+")")
	fails(t, "do 1"+strings.Repeat(";1", 39)+";!1", api.ErrDeep)
	fails(t, "do 1"+strings.Repeat(";1", 39)+";!", api.ErrDeep)
	fails(t, "do 1"+strings.Repeat(";1", 39)+";!;", api.ErrDeep)
	fails(t, "do (1"+strings.Repeat(";1", 38)+";!1)", api.ErrDeep)
	goes(t, "do (1"+strings.Repeat(";1", 38)+")")
	goes(t, "let x = (1"+strings.Repeat(";1", 38)+"); do 1")
	fails(t, "let x = (1"+strings.Repeat(";1", 38)+";!1); do 1", api.ErrDeep)
	// On the left of a `;` it is no deeper, on the right it is by one.
	goes(t, "do "+strings.Repeat("(", 39)+"1"+strings.Repeat(")", 39)+"; 1")
	fails(t, "do 1; "+strings.Repeat("(", 39)+"!1"+strings.Repeat(")", 39), api.ErrDeep)
	goes(t, "do 1; "+strings.Repeat("(", 38)+"1"+strings.Repeat(")", 38))
}

// deepSeq is a NodeSeq of n digits, from a place on.
func deepSeq(at, n int) string {
	one := "int@" + strconv.Itoa(at) + "=1"
	if n == 1 {
		return one
	}
	return "seq@" + strconv.Itoa(at) + "(" + one + " " + deepSeq(at+2, n-1) + ")"
}

// Behind `let rec` stands an exp as any other one: where it is too deep, that is told, also if it does not begin with fun.
func TestDeepLetRec(t *testing.T) {
	for _, a := range arounds {
		for _, value := range []string{"fun x -> x", "1", "+", "(fun x -> x)", "\"fun\""} {
			for _, h := range holders[:2] {
				s, at := nest("let rec f = "+value+" in f", times(a, 39)...)
				failsAt(t, h[0]+s+h[1], len(h[0])+at+len("let rec f = "), api.ErrDeep)
			}
		}
		s, at := nest("let rec f = fun x -> x in f", times(a, 38)...)
		failsAt(t, "do "+s, len("do let rec f = fun x -> ")+at, api.ErrDeep)
		s, at = nest("let rec f = 1 in f", times(a, 38)...)
		failsAt(t, "do "+s, len("do let rec f = ")+at, api.ErrSyntax)
		s, _ = nest("let rec f = fun x -> x in f", times(a, 37)...)
		goes(t, "do "+s)
	}
	s, _ := nest("1", times(arounds[0], 38)...)
	goes(t, "let rec f = fun x -> "+s+"; do f")
	s, at := nest("1", times(arounds[0], 39)...)
	failsAt(t, "let rec f = fun x -> "+s+"; do f", len("let rec f = fun x -> ")+at, api.ErrDeep)
}

// All parts of an exp that is 39 deep are too deep, the first one is told.
func TestEachPartIsDeeper(t *testing.T) {
	for _, s := range []string{"let x = !1 in 2", "fun x -> !1", "if !1 then 2 else 3", "match !1 with | x -> 2 end", "try !1 with x -> 2 end", "1; !2", "let rec f = !fun x -> 1 in 2", "f (!1)", "(!1)", "A 1 (!2) 3", "1 + (!2) + 3", "raise (!1)", "orelse 1 (!2)", "write (!1) 2", "1 = (!2)", "(!1) = 2"} {
		source, _ := nest(s, times(arounds[0], 39)...)
		fails(t, "do "+source, api.ErrDeep)
		source, _ = nest(s, times(arounds[6], 39)...)
		fails(t, "do "+source, api.ErrDeep)
		source, _ = nest(strings.Replace(s, "!", "", 1), times(arounds[0], 37)...)
		goes(t, "do "+source)
	}
}

// What is one deeper is less deep again, behind it.
func TestLessDeepAgain(t *testing.T) {
	deep, _ := nest("1", times(arounds[0], 39)...)
	less, _ := nest("1", times(arounds[0], 38)...)
	more, at := nest("1", times(arounds[0], 39)...)
	goes(t, "do f "+deep+" "+deep+" + "+deep+" < "+deep)
	goes(t, "do "+deep+"; "+less)
	goes(t, "let x = "+deep+"; let y = "+deep+"; do "+deep)
	goes(t, "do match "+less+" with | 1 -> "+less+" | 2 -> "+less+" end "+deep)
	goes(t, "do try "+less+" with e -> "+less+" end "+deep)
	goes(t, "do let x = "+less+" in "+less)
	goes(t, "do if "+less+" then "+less+" else "+less)
	goes(t, "do write "+deep+" "+deep)
	goes(t, "do A "+deep+" "+deep+" "+deep+" "+deep)
	for _, ahead := range []string{"match 1 with | 1 -> ", "match 1 with | 1 -> 1 | 2 -> ", "match " + less + " with | 1 -> " + less + " | 2 -> ", "try 1 with e -> ", "let x = 1 in ", "if 1 then ", "if " + less + " then 1 else "} {
		failsAt(t, "do "+ahead+more, len("do "+ahead)+at, api.ErrDeep)
	}
}

// P5.1: pats.

func TestDeepPats(t *testing.T) {
	for _, deep := range []int{1, 5, 30, 39} { // of the exps, and of the first pat
		for _, h := range [][2]string{{"do ", ""}, {"let z = ", "; do 1"}} {
			for _, wrap := range [][2]string{{"(", ")"}, {"A (", ")"}, {"A 1 (", ") _"}} {
				n := 39 - deep
				open, shut := strings.Repeat(wrap[0], n), strings.Repeat(wrap[1], n)
				row := func(p string) (string, int) {
					s, at := nest("match 1 with | "+p+" -> 1 end", times(arounds[0], deep-1)...)
					return h[0] + s + h[1], len(h[0]) + at + len("match 1 with | ")
				}
				for _, p := range []string{"x", "_", "1", "A", "A x _ 1 B"} {
					s, _ := row(open + p + shut)
					if deep < 39 {
						goes(t, s)
					}
					s, at := row(open + wrap[0] + p + wrap[1] + shut)
					failsAt(t, s, at+len(open+wrap[0]), api.ErrDeep)
				}
				for _, p := range []string{"", ")", "\"a\"", "+", "->", "| 1", "end", "()", "(x)", "((("} {
					s, at := row(open + wrap[0] + p)
					if p == "" {
						s = s[:at+len(open+wrap[0])]
					}
					failsAt(t, s, at+len(open+wrap[0]), api.ErrDeep)
				}
			}
		}
	}
	goes(t, "do match 1 with | A "+strings.Repeat("(", 38)+"x"+strings.Repeat(")", 38)+" "+strings.Repeat("(", 38)+"x"+strings.Repeat(")", 38)+" -> 1 end")
	goes(t, "do match 1 with | "+strings.Repeat("(", 38)+"x"+strings.Repeat(")", 38)+" -> "+strings.Repeat("(", 38)+"x"+strings.Repeat(")", 38)+" end")
}

// P5.1: tyapps.

func TestDeepTyapps(t *testing.T) {
	open, shut := strings.Repeat("a (", 39), strings.Repeat(")", 39)
	for _, ahead := range []string{"type t = A of ", "type t b = A | B of b, c (d), ", "let z = (((1))); type t = B | A of "} {
		for _, last := range []string{"a", "a b", "a b c d e f"} {
			goes(t, ahead+open+last+shut+"; do 1")
			goes(t, ahead+open+last+shut+", "+open+last+shut+"; do 1")
			fails(t, ahead+open+"a (!"+last+")"+shut+"; do 1", api.ErrDeep)
		}
		for _, last := range []string{"", ")", "A", "1", "()", "(a)", ";", ",", "| B", "do", "+", "\"a\""} {
			fails(t, ahead+open+"a (!"+last, api.ErrDeep)
			fails(t, ahead+open+"a b c (!"+last+")"+shut+"; do 1", api.ErrDeep)
		}
		goes(t, ahead+"a"+strings.Repeat(" (b)", 100)+"; do 1")
	}
}

// P5.1: too many.

// listed are some of the same, with a word between.
func listed(s, between string, n int) string {
	return strings.TrimSuffix(strings.Repeat(s+between, n), between)
}

func TestAtMost60Declarations(t *testing.T) {
	for _, decl := range []string{"let a = 1; ", "let rec f = fun x -> x; ", "type t = A; ", "let a = (1; 2); "} {
		for _, n := range []int{0, 1, 59, 60} {
			if p := goes(t, strings.Repeat(decl, n)+"do 1"); len(p.Kids) != n+1 {
				t.Errorf("%d declarations are %d Kids", n, len(p.Kids))
			}
		}
		all := strings.Repeat(decl, 60)
		for _, more := range []string{"let a = 1; do 1", "let rec f = fun x -> x; do 1", "type t = A; do 1", "let", "type", "let let", "type 1", "let a = 1; let a = 1; let a = 1; do 1", "let # $\n", "let )"} {
			fails(t, all+"!"+more, api.ErrMany)
		}
		// What is no first token of a declaration is none too many.
		syntax(t, all+"!1", all+"!", all+"!; do 1", all+"!in", all+"!x", all+"!) do 1")
		syntax(t, all+"do 1 !let a = 1;", all+"do 1 !type t = A;")
	}
	mixed := strings.Repeat("type t = A; let a = 1; ", 30)
	goes(t, mixed+"do 1")
	fails(t, mixed+"!let a = 1; do 1", api.ErrMany)
	fails(t, mixed+"!type t = A; do 1", api.ErrMany)
	fails(t, strings.Repeat("let a=1;", 60)+strings.Repeat("# a\n", 50)+"!let a=1;do 1", api.ErrMany)
}

func TestAtMost20Constructors(t *testing.T) {
	for _, con := range []string{"A", "A of a", "A of a, b c"} {
		for _, n := range []int{1, 2, 19, 20} {
			if p := goes(t, "type t = "+listed(con, " | ", n)+"; do 1"); len(p.Kids[0].Kids) != n {
				t.Errorf("%d constructors are %d Kids", n, len(p.Kids[0].Kids))
			}
		}
		all := "type t = " + listed(con, " | ", 20)
		for _, more := range []string{"A; do 1", "B of a; do 1", "B", "B | C; do 1", "A )"} {
			fails(t, all+" | !"+more, api.ErrMany)
		}
		// Behind the `|` stands what is one too many, also if it is no constructor.
		for _, more := range []string{"", "a; do 1", "; do 1", "| A; do 1", "1", "of", "do", ")", "\"A\""} {
			fails(t, all+" | !"+more, api.ErrMany)
		}
		syntax(t, all+" !A; do 1", all+" !1; do 1", all+"!", all+" !do 1", all+" !) | A; do 1", all+";!")
		goes(t, all+";"+all+"; do 1")
	}
}

func TestAtMost4Parameters(t *testing.T) {
	for n := range 5 {
		if p := goes(t, "type t"+strings.Repeat(" a", n)+" = A; do 1"); len(p.Kids[0].Names) != n {
			t.Errorf("%d parameters are %d Names", n, len(p.Kids[0].Names))
		}
	}
	for _, more := range []string{"e = A; do 1", "e", "e f = A; do 1", "e )", "a = A; do 1", "abcdefghijklmnop"} {
		fails(t, "type t a b c d !"+more, api.ErrMany)
		fails(t, "type t = A; type u a a a a !"+more, api.ErrMany)
	}
	// What is no name is none too many.
	syntax(t, "type t a b c d !1 = A; do 1", "type t a b c d !A = B; do 1", "type t a b c d !(e) = A; do 1", "type t a b c d !", "type t a b c d !let = A; do 1", "type t a b c d !_ = A; do 1", "type t a b c d !, e = A; do 1")
	goes(t, "type t a b c d = A; type u a b c d = B; do 1")
}

func TestAtMost20Rows(t *testing.T) {
	for _, row := range []string{"|1->1", "| A _ -> (2; 3)", "|_->f x"} {
		for _, n := range []int{1, 2, 19, 20} {
			if p := goes(t, "do match a with "+strings.Repeat(row, n)+" end"); len(p.Kids[0].Kids) != 2*n+1 {
				t.Errorf("%d rows are %d Kids", n, len(p.Kids[0].Kids))
			}
		}
		all := "do match a with " + strings.Repeat(row, 20)
		for _, more := range []string{"| 1 -> 2 end", "|", "| |", "| )", "| end", "| -> 1 end", row + row + " end", "|\"a\" -> 1 end"} {
			fails(t, all+"!"+more, api.ErrMany)
		}
		// What is no `|` is no row too many.
		syntax(t, all+"!", all+" !with", all+" !-> 1 end", all+" !)", all+" !in 1", all+" !, 1")
		goes(t, "do (match a with "+strings.Repeat(row, 20)+" end; match b with "+strings.Repeat(row, 20)+" end)")
	}
	rows := strings.Repeat("|1->1", 19)
	goes(t, "do match match a with "+rows+"|1->1 end with "+rows+"|1->match a with "+rows+"|1->1 end end")
	fails(t, "do match a with "+rows+"|1->match a with |1->1 end !|1->1 end", api.ErrMany)
	fails(t, "do match a with "+rows+"|1->match a with "+rows+"|1->1 !|1->1 end end", api.ErrMany)
	goes(t, "let z = match a with "+rows+"|1->1 end; do 1")
	fails(t, "let z = match a with "+rows+"|1->1 !|1->1 end; do 1", api.ErrMany)
}

func TestAtMost4AtomsBehindAConstructor(t *testing.T) {
	for n := range 5 {
		if p := goes(t, "do A"+strings.Repeat(" 1", n)); len(p.Kids[0].Kids) != n {
			t.Errorf("%d atoms are %d Kids", n, len(p.Kids[0].Kids))
		}
	}
	for _, more := range []string{"5", "x", "\"a\"", "B", "()", "(5)", "(", "((", "(+)", "retry", "match a with | b -> c end", "match", "try a with b -> c end", "try )", "5 6 7", "5 + 1", "5 )"} {
		for _, ahead := range []string{"A 1 2 3 4", "A () B (C 1 2 3 4) \"a\"", "A match a with | b -> c end 2 3 retry", "1 + A 1 2 3 4", "(A 1 2 3 4", "let x = A 1 2 3 4"} {
			for _, h := range holders {
				fails(t, h[0]+ahead+" !"+more, api.ErrMany)
			}
		}
	}
	// What is no first token of an atom is none too many.
	syntax(t, "do A 1 2 3 4 !_", "do A 1 2 3 4 !print 5", "do A 1 2 3 4 !fun x -> x", "do A 1 2 3 4 !let x = 1 in x", "do A 1 2 3 4 !if a then b else c", "do A 1 2 3 4 !)", "do A 1 2 3 4 !in", "do A 1 2 3 4 !->", "do A 1 2 3 4 +!", "do (A 1 2 3 4!")
	exp(t, "A 1 2 3 4 + 5", "op@0:+(con@0:A(int@2=1 int@4=2 int@6=3 int@8=4) int@12=5)")
	exp(t, "(A 1 2 3 4) 5", "call@1(con@1:A(int@3=1 int@5=2 int@7=3 int@9=4) int@12=5)")
	exp(t, "A (B 1 2 3 4) (C 1 2 3 4) 3 4", "con@0:A(con@3:B(int@5=1 int@7=2 int@9=3 int@11=4) con@15:C(int@17=1 int@19=2 int@21=3 int@23=4) int@26=3 int@28=4)")
	exp(t, "f A 1 2 3 4 5 6", "call@0(call@0(call@0(call@0(call@0(call@0(call@0(name@0:f con@2:A) int@4=1) int@6=2) int@8=3) int@10=4) int@12=5) int@14=6)")
	fails(t, "do A (B 1 2 3 4 !5)", api.ErrMany)
}

func TestAtMost4PatomsBehindAConstructor(t *testing.T) {
	for n := range 5 {
		if p := goes(t, "do match a with | A"+strings.Repeat(" _", n)+" -> 1 end"); len(p.Kids[0].Kids[1].Kids) != n {
			t.Errorf("%d patoms are %d Kids", n, len(p.Kids[0].Kids[1].Kids))
		}
	}
	for _, more := range []string{"_", "x", "5", "B", "(x)", "()", "(", "(+", "x y", "x )"} {
		fails(t, "do match a with | A 1 2 3 4 !"+more, api.ErrMany)
		fails(t, "do match a with | A _ (B _ _ _ _) x C !"+more+" -> 1 end", api.ErrMany)
		fails(t, "do match a with | B _ -> 1 | C (A 1 2 3 4 !"+more+") -> 1 end", api.ErrMany)
		fails(t, "let z = match a with | A 1 2 3 4 !"+more+" -> 1 end; do 1", api.ErrMany)
	}
	// What is no first token of a patom is none too many.
	syntax(t, "do match a with | A 1 2 3 4 !\"a\" -> 1 end", "do match a with | A 1 2 3 4 !retry -> 1 end", "do match a with | A 1 2 3 4 !) -> 1 end", "do match a with | A 1 2 3 4 !| _ -> 1 end", "do match a with | A 1 2 3 4!", "do match a with | A 1 2 3 4 !- -> 1 end")
	pat(t, "A (B 1 2 3 4) 2 3 (C _ _ _ _)", "con@0:A(con@3:B(int@5=1 int@7=2 int@9=3 int@11=4) int@14=2 int@16=3 con@19:C(any@21 any@23 any@25 any@27))")
}

func TestAtMost4TyappsBehindAConstructor(t *testing.T) {
	for n := range 4 {
		if p := goes(t, "type t = A of "+listed("a", ", ", n+1)+"; do 1"); len(p.Kids[0].Kids[0].Kids) != n+1 {
			t.Errorf("%d tyapps are %d Kids", n+1, len(p.Kids[0].Kids[0].Kids))
		}
	}
	for _, ahead := range []string{"type t = A of a, b, c, d, !", "type t = A | B of a b c d e, f (g), h, i | C of a (b c), d, e, f, !"} {
		for _, more := range []string{"e; do 1", "e", "e f; do 1", "e, f; do 1", "e )"} {
			fails(t, ahead+more, api.ErrMany)
		}
		// Behind the `,` stands what is one too many, also if it is no tyapp.
		for _, more := range []string{"", "; do 1", "A; do 1", "(e); do 1", "1; do 1", "| B; do 1", ", e; do 1", "of", "do 1", "\"e\""} {
			fails(t, ahead+more, api.ErrMany)
		}
	}
	syntax(t, "type t = A of a, b, c, d !A; do 1", "type t = A of a, b, c, d!", "type t = A of a, b, c, d !of e; do 1", "type t = A of a, b, c, d !) ; do 1")
	goes(t, "type t = A of a, b, c, d | B of a, b, c, d; do 1")
	goes(t, "type t = A of f a b c d e f g h i j k l; do 1")
}

// Of two faults the first one is told, whatever they are.
func TestTheFirstFaultIsTold(t *testing.T) {
	deep, _ := nest("", times(arounds[0], 40)...)
	deep = deep[:40]
	cons := "type t = " + listed("A", " | ", 20)
	for _, second := range []string{")", deep + "1", "A 1 2 3 4 5", "match a with " + strings.Repeat("|1->1", 21)} {
		fails(t, "do !) "+second, api.ErrSyntax)
		fails(t, "do "+deep+"!1 "+second, api.ErrDeep)
		fails(t, "do A 1 2 3 4 !5 "+second, api.ErrMany)
		fails(t, "do match a with "+strings.Repeat("|1->1", 20)+"!|1->1 "+second, api.ErrMany)
		fails(t, cons+"|!A; do "+second, api.ErrMany)
		fails(t, "type t a b c d !e f = 1 "+second, api.ErrMany)
		fails(t, strings.Repeat("let a=1;", 60)+"!let )"+second, api.ErrMany)
	}
}
