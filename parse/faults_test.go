package parse_test

import (
	"strings"
	"testing"

	"selvage/api"
	"selvage/lex"
	"selvage/parse"
	"selvage/strs"
)

// Words: in a declaration's exp a `;` is that of a NodeSeq within brackets, match and try alone.

func TestSemicolonEndsADeclaration(t *testing.T) {
	reads(t, "let x = a; do b; c", "prog@0(val@0:x(name@8:a) seq@14(name@14:b name@17:c))")
	reads(t, "let x = fun y -> a; do b", "prog@0(val@0:x(fun@8:y(name@17:a)) name@23:b)")
	reads(t, "let x = let y = a in b; do c", "prog@0(val@0:x(let@8:y(name@16:a name@21:b)) name@27:c)")
	reads(t, "let x = if a then b else c; do d", "prog@0(val@0:x(if@8(name@11:a name@18:b name@25:c)) name@31:d)")
	reads(t, "let rec f = fun x -> fun y -> a; do b", "prog@0(valrec@0:f(fun@12:x(fun@21:y(name@30:a))) name@36:b)")
	for _, decl := range []string{
		"let x = a", "let x = a + 1", "let x = a = b", "let x = A 1", "let x = f a", "let x = print a", "let x = ()", "let x = (a)", "let x = (a; b)", "let x = retry",
		"let x = fun y -> a", "let x = let y = a in b", "let x = if a then b else c", "let rec f = fun x -> a", "let rec f = fun x -> fun y -> a",
		"let x = let rec f = fun y -> a in b", "let x = fun y -> let z = a in if b then c else d", "let x = let y = (a; b) in c", "let x = if (a; b) then c else d",
		"let x = match a with | b -> c; d end", "let x = try a; b with c -> d end", "let x = f (a; b) match c; d with | e -> (f; g) end", "let x = (a; b) + 1", "let x = fun y -> try a; b with c -> d; e end",
		"let x = (match a; b with | c -> (d; e); f end; g)", "let x = try (a; b); c with d -> (e); f end = 1", "let x = match a with | (b) -> (c) | d -> e end",
	} {
		syntax(t, decl+"; !b; do 1", decl+"; !(b; c); do 1", decl+"; !b", decl+"; !1 + 2; do 1", decl+"; !match a with | b -> c end; do 1", decl+"; !fun x -> x; do 1", decl+";!", decl+"!", decl+"; !; do 1", "type t = A; "+decl+"; !b in c")
		goes(t, decl+"; do 1")
		goes(t, decl+"; "+decl+"; type t = A; "+decl+"; do 1; 2")
	}
}

// Where the declaration can't end, a `;` may not stand.
func TestSemicolonWhereADeclarationCannotEnd(t *testing.T) {
	syntax(t, "let x = let y = a !; b in c; do 1", "let x = let y = fun z -> a !; b in c; do 1", "let x = let rec f = fun y -> a !; b in c; do 1", "let x = if a !; b then c else d; do 1", "let x = if a then b !; c else d; do 1", "let rec f = fun x -> let y = a !; b in c; do 1",
		"let x = let y = if a then b !; c else d in e; do 1", "let x = let y = (a; b) !; c in d; do 1", "let x = if match a with | b -> c; d end !; e then f else g; do 1", "let x = let y = try a; b with c -> d; e end !; f in g; do 1", "let x = fun y -> if a then (b; c) !; d else e; do 1",
		"let x = let y = (match a with | b -> (c; d); e end; f) !; g in h; do 1", "let x = !; do 1", "let x = a + !; do 1", "let x = print !; do 1", "let x = fun y -> !; do 1", "let x = let y = a in !; do 1")
}

// Within brackets, and between match, or try, and its end, it is a NodeSeq's, whatever stands between; and behind them no more.
func TestSemicolonWithinBrackets(t *testing.T) {
	for _, w := range []context{
		{"let x = (", "); do 1", []int{0, 0}},
		{"let x = ((", ")); do 1", []int{0, 0}},
		{"let x = f (", ") y; do 1", []int{0, 0, 0, 1}},
		{"let x = 1 + (", ") * 2; do 1", []int{0, 0, 1, 0}},
		{"let x = fun y -> (", "); do 1", []int{0, 0, 0}},
		{"let x = let y = (", ") in 1; do 1", []int{0, 0, 0}},
		{"let x = if (", ") then 1 else 2; do 1", []int{0, 0, 0}},
		{"let x = if 1 then (", ") else (a; b); do 1", []int{0, 0, 1}},
		{"let rec f = fun x -> print (", "); do 1", []int{0, 0, 0, 0}},
		{"let x = match ", " with | a -> 1 end; do 1", []int{0, 0, 0}},
		{"let x = match 1 with | a -> ", " end; do 1", []int{0, 0, 2}},
		{"let x = match 1 with | a -> ", " | b -> 1 end; do 1", []int{0, 0, 2}},
		{"let x = match 1 with | (a) -> (b) | b -> ", " end; do 1", []int{0, 0, 4}},
		{"let x = try ", " with e -> 1 end; do 1", []int{0, 0, 0}},
		{"let x = try 1 with e -> ", " end; do 1", []int{0, 0, 1}},
		{"let x = try (1) with e -> ", " end; do 1", []int{0, 0, 1}},
		{"let x = let y = match 1 with | a -> ", " end in 2; do 1", []int{0, 0, 0, 2}},
		{"let x = f try ", " with e -> 1 end; do 1", []int{0, 0, 1, 0}},
		{"let x = (1; 2) = (", "); do 1", []int{0, 0, 1}},
		{"let x = (match (1) with | a -> (2) end; ", "); do 1", []int{0, 0, 1}},
		{"let x = match (1; 2) with | a -> try 3 with e -> 4 end; ", " end; do 1", []int{0, 0, 2, 1}},
		{"let x = a; let y = (", "); do 1", []int{1, 0}},
	} {
		w.holds(t, "a; b", "seq@0(name@0:a name@3:b)")
		w.holds(t, "a; b; c", "seq@0(name@0:a seq@3(name@3:b name@6:c))")
		w.holds(t, "let y = a; b in c; d", "let@0:y(seq@8(name@8:a name@11:b) seq@16(name@16:c name@19:d))")
		w.holds(t, "let rec f = fun y -> a; b in c; d", "rec@0:f(fun@12:y(seq@21(name@21:a name@24:b)) seq@29(name@29:c name@32:d))")
		w.holds(t, "fun y -> a; b", "fun@0:y(seq@9(name@9:a name@12:b))")
		w.holds(t, "if a; b then c; d else e; f", "if@0(seq@3(name@3:a name@6:b) seq@13(name@13:c name@16:d) seq@23(name@23:e name@26:f))")
		w.holds(t, "(a); b", "seq@1(name@1:a name@5:b)")
		w.holds(t, "f (a; b); c", "seq@0(call@0(name@0:f seq@3(name@3:a name@6:b)) name@10:c)")
		w.holds(t, "match a; b with | c -> d; e end; f", "seq@0(match@0(seq@6(name@6:a name@9:b) name@18:c seq@23(name@23:d name@26:e)) name@33:f)")
		w.holds(t, "try a; b with c -> d; e end; f", "seq@0(try@0:c(seq@4(name@4:a name@7:b) seq@19(name@19:d name@22:e)) name@29:f)")
		s := w.ahead + "a; b" + strings.Replace(w.behind, "; do 1", "; !c; do 1", 1)
		syntax(t, s)
	}
}

// P5.1: the errors of tokens, at their places, ahead of all faults of the grammar.

// wrong are tokens that may not be, and what is told of them.
var wrong = []struct {
	s string
	e api.Errno
}{
	{"$", api.ErrChar}, {"\x00", api.ErrChar}, {"\r", api.ErrChar}, {">", api.ErrChar}, {"\"a", api.ErrOpen}, {"\"a\n\"", api.ErrOpen}, {"\"\\q\"", api.ErrChar},
	{"\"" + strings.Repeat("a", 61) + "\"", api.ErrLong}, {"4611686018427387904", api.ErrRange}, {"00099999999999999999999", api.ErrRange},
	{"abcdefghijklmnopq", api.ErrLong}, {"Abcdefghijklmnopq", api.ErrLong},
}

func TestWrongTokens(t *testing.T) {
	for _, w := range wrong {
		for _, ahead := range []string{"", "do ", "do 1 ", "do 1 + ", "let x = 1; do (x ", "do f # \"\n ", "type t = A of ", "do match a with | "} {
			failsAt(t, ahead+w.s, len(ahead), w.e)
			failsAt(t, ahead+w.s+" do 1", len(ahead), w.e)
			failsAt(t, ahead+w.s+"\n$ \"", len(ahead), w.e)
		}
		// A fault of the grammar ahead of it does not count, nor one too many, or too deep.
		for _, ahead := range []string{") ", "1 ", "do ) ", "do 1 2 ) ", "let x = 1 do ", "do a = b = c ", "do let rec f = 1 in f ", "in in in ", "type t a b c d e ", "do A 1 2 3 4 5 ", "do " + strings.Repeat("(", 50),
			"do match a with " + strings.Repeat("|1->1 ", 21), strings.Repeat("let a=1;", 61), "type t = " + strings.Repeat("A|", 21), "do 1 do 1 "} {
			failsAt(t, ahead+w.s, len(ahead), w.e)
		}
	}
	for _, s := range []string{"do 1", "", ")", "let", "\"", "$", "do " + strings.Repeat("(", 60)} {
		failsAt(t, s+strings.Repeat(" ", 2001-len(s)), 0, api.ErrLong)
		failsAt(t, strings.Repeat(" ", 5000)+s, 0, api.ErrLong)
	}
	reads(t, strings.Repeat("\n", 1996)+"do 1", "prog@1996(int@1999=1)")
	reads(t, "do 1"+strings.Repeat(" ", 1996), "prog@0(int@3=1)")
	failsAt(t, strings.Repeat(" ", 2000), 2000, api.ErrSyntax)
	failsAt(t, "do"+strings.Repeat(" ", 1998), 2000, api.ErrSyntax)
}

// whole are sources with each line of the grammar.
var whole = []string{
	"do 1", "do \"a\"", "do ()", "do f x (y) A", "do A 1 (B 2) retry", "do print a", "do raise 1", "do spawn (f x)", "do atomically (write a 1)", "do tvar 1", "do read a", "do write a (b)", "do orelse (retry) (1)",
	"do let x = 1 in x", "do let rec f = fun x -> f x in f", "do fun x -> x", "do if a then b else c", "do a; b; c", "do a = b + c * d", "do a < b - c / d", "do a ^ b % c", "do (a; b) c",
	"do match a with | A (B x) _ 1 -> c | x -> d | (_) -> e end", "do try f x with e -> e; 1 end",
	"let x = 1; do x", "let rec f = fun x -> f x; do f", "let x = (a; b); let y = match a with | b -> c; d end; do x", "type t = A; do A", "type t a b = A | B of a, t (t a b) b | C of b; let x = A; do x",
	"do let x = match fun y -> y with | A -> if a then (b; c) else d | B -> try raise 1 with e -> e end end in x = 1; x",
}

// A source that ends too early, at each place where it may.
func TestSourcesThatEndTooEarly(t *testing.T) {
	for _, s := range whole {
		goes(t, s)
		tokens, _, e := lex.Tokens(s)
		if e != api.OK {
			t.Fatal(s, e)
		}
		cut := 0
		for i := range tokens[:len(tokens)-1] {
			// Up to this token, without and with what stands between.
			for _, part := range []string{s[:cut], s[:tokens[i].At], s[:tokens[i].At] + "# " + s} {
				n, at, e := parse.Program(part)
				if e == api.OK && at == 0 && n.Kind == api.NodeProg {
					continue // it may end here, too
				}
				if e != api.ErrSyntax || at != len(part) || shown(n, 0) != "0@0" {
					t.Errorf("Program(%q) is %s, %d, %v", part, shown(n, 0), at, e)
				}
			}
			cut = behind(s, tokens[i])
		}
	}
	// Those that may end, and those that may not, one by one.
	goes(t, "do f x")
	goes(t, "do f")
	syntax(t, "!", "do!", "do f (!", "do f (x!", "do f (x) +!", "do f (x) + 1 =!", "do let!", "do let rec!", "do let x!", "do let x =!", "do let x = 1!", "do let x = 1 in!", "do let rec f = fun!", "do fun!", "do fun x!", "do fun x ->!", "do if!", "do if a!", "do if a then!", "do if a then b!", "do if a then b else!", "do a;!", "do print!", "do write!", "do write a!",
		"do match!", "do match a!", "do match a with!", "do match a with |!", "do match a with | A!", "do match a with | A (!", "do match a with | A (x!", "do match a with | A x ->!", "do match a with | A x -> 1!", "do match a with | A x -> 1 |!", "do try!", "do try a!", "do try a with!", "do try a with e!", "do try a with e ->!", "do try a with e -> 1!",
		"let!", "let x!", "let x =!", "let x = 1!", "let x = 1;!", "let rec!", "let rec f!", "let rec f =!", "let rec f = fun!", "type!", "type t!", "type t a!", "type t =!", "type t = A!", "type t = A |!", "type t = A of!", "type t = A of a!", "type t = A of a,!", "type t = A of a (!", "type t = A of a (b!", "type t = A of a (b)!", "type t = A;!")
}

// behind is the place behind a token of a source.
func behind(s string, x api.Token) int {
	switch x.Kind {
	case api.TokInt:
		return len(s) - len(strings.TrimLeft(s[x.At:], "0123456789"))
	case api.TokText:
		_, n, _ := strs.Unquote(s[x.At:])
		return x.At + n
	}
	return x.At + len(x.Text)
}

// Beside an error stands the zero node, beside none no place.
func TestNothingBesideAnError(t *testing.T) {
	for _, s := range []string{"", ")", "do", "let x = 1; do x )", "do $", "do A 1 2 3 4 5", "do " + strings.Repeat("(", 99), "let x = 1; type t a = A; do f (x; y) 1 2 in", strings.Repeat(" ", 2001)} {
		n, _, e := parse.Program(s)
		if e == api.OK || n.Kind != 0 || n.Text != "" || n.Number != 0 || n.At != 0 || len(n.Names) != 0 || len(n.Kids) != 0 {
			t.Errorf("Program(%.50q) is %+v, %v", s, n, e)
		}
	}
	for _, s := range whole {
		if n, at, e := parse.Program(" " + s); e != api.OK || at != 0 || n.Kind != api.NodeProg || n.At != 1 {
			t.Errorf("Program(%q) is %s, %d, %v", s, shown(n, 0), at, e)
		}
	}
}
