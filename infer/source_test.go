package infer_test

import (
	"slices"
	"strings"
	"testing"

	"selvage/api"
	"selvage/infer"
	"selvage/lex"
	"selvage/parse"
	"selvage/show"
)

// P8.1: what is no node that a source has.

// each is a source with each kind of node.
var each = []string{
	"do 1", "do \"a\"", "do ()", "do x", "do A", "do A 1 x () B", "do fun x -> y", "do f x", "do f x (g y) z", "do let x = 1 in y", "do let rec f = fun x -> y in z", "do if a then b else c", "do retry", "do a; b; c",
	"do match a with | x -> b end", "do match a with | 1 -> b | A x _ -> c | A (B y) C -> d | _ -> e end", "do try a with x -> b end", "do a + b * c - d", "do a = b", "do a < b ^ c", "do (a = b) = (c < d)", "do (a / b) % (c / d)",
	"do print a", "do raise a", "do spawn a", "do atomically a", "do tvar a", "do read a", "do write a b", "do orelse a b", "do (A) b", "do (A b) c", "do (print a) b", "do print (A b)", "do f (fun x -> x; y)", "do (a; b) + c",
	"type t = A; do 1", "type t a b = A of a, t a b | B | C of list (pair a (b c)) d; do 1", "let x = 1; do x", "let rec f = fun x -> y; do f", "let x = (a; b); do x", "let x = fun y -> (a; b); do x", "let x = match a with | b -> c; d end; do x",
	"let x = if a then (b; c) else (d; e); do x", "let x = let y = (a; b) in (c; d); do x", "let rec f = fun x -> (let y = (a; b) in (c; d)); let rec g = fun x -> let rec h = fun y -> (a; b) in (c; d); do x", "let x = try a; b with c -> d; e end; do x",
}

// refused holds whether a node is refused.
func refused(t *testing.T, what string, n api.Node, want bool) {
	t.Helper()
	r, at, e := infer.Program(n)
	if (e == api.ErrArg) != want || want && at != 0 || e != api.OK && told(r) != "" {
		t.Errorf("%.300s: %d, %v", what, at, e)
	}
}

func TestNodesOfSources(t *testing.T) {
	for _, s := range each {
		refused(t, s, node(t, s), false)
	}
}

// parts are all nodes in a node, itself the first one.
func parts(n *api.Node) []*api.Node {
	l := []*api.Node{n}
	for i := range n.Kids {
		l = append(l, parts(&n.Kids[i])...)
	}
	return l
}

// copied is a node with lists of its own.
func copied(n api.Node) api.Node {
	n.Names, n.Kids = slices.Clone(n.Names), slices.Clone(n.Kids)
	for i, k := range n.Kids {
		n.Kids[i] = copied(k)
	}
	return n
}

// Each change of one node, of which show tells whether a source has it so.
func TestChangedNodes(t *testing.T) {
	leaf, wide := api.Node{Kind: api.NodeName, Text: "x"}, api.Node{Kind: api.NodeLet, Text: "x", Kids: []api.Node{{Kind: api.NodeInt}, {Kind: api.NodeUnit}}}
	changes := map[string]func(n *api.Node){
		"nothing":       func(n *api.Node) { *n = api.Node{} },
		"no Kids":       func(n *api.Node) { n.Kids = nil },
		"a Kid less":    func(n *api.Node) { n.Kids = n.Kids[:max(0, len(n.Kids)-1)] },
		"a Kid more":    func(n *api.Node) { n.Kids = append(n.Kids, leaf) },
		"two Kids more": func(n *api.Node) { n.Kids = append(n.Kids, leaf, leaf) },
		"a Kid ahead":   func(n *api.Node) { n.Kids = append([]api.Node{wide}, n.Kids...) },
		"other Kids":    func(n *api.Node) { slices.Reverse(n.Kids) },
		"itself as Kid": func(n *api.Node) { n.Kids = []api.Node{copied(*n)} },
		"a name":        func(n *api.Node) { n.Names = append(n.Names, "z") },
		"five names":    func(n *api.Node) { n.Names = []string{"a", "b", "c", "d", "e"} },
		"a key's name":  func(n *api.Node) { n.Names = []string{"in"} },
		"another node":  func(n *api.Node) { *n = wide },
		"a seq":         func(n *api.Node) { *n = api.Node{Kind: api.NodeSeq, Kids: []api.Node{copied(*n), leaf}} },
		"a program":     func(n *api.Node) { *n = api.Node{Kind: api.NodeProg, Kids: []api.Node{copied(*n)}} },
		"a declaration": func(n *api.Node) { *n = api.Node{Kind: api.NodeVal, Text: "v", Kids: []api.Node{copied(*n)}} },
		"called":        func(n *api.Node) { *n = api.Node{Kind: api.NodeCall, Kids: []api.Node{copied(*n), leaf}} },
	}
	for _, number := range []int{-1, 1, api.MaxInt, api.MaxInt + 1, -1 << 63, 1<<63 - 1} {
		changes["number "+string(rune('a'+number&15))] = func(n *api.Node) { n.Number = number }
	}
	for _, text := range []string{"", "x", "X", "_", "let", "do", "x y", "x'", "(x)", "1", "+", "-", "=", "->", "^", "\"", "x # ", "a\n", "x;y", strings.Repeat("x", 16), strings.Repeat("x", 17), strings.Repeat("X", 16), strings.Repeat("X", 17), strings.Repeat("\xff", 60), strings.Repeat("x", 61), "TEXT", "EXP", "ANY", "end"} {
		changes["text "+text] = func(n *api.Node) { n.Text = text }
	}
	for kind := -2; kind < 35; kind++ {
		changes["kind "+string(rune('A'+kind))] = func(n *api.Node) { n.Kind = kind }
	}
	many := 0
	for _, s := range each {
		whole := node(t, s)
		for i := range parts(&whole) {
			for what, change := range changes {
				n := copied(whole)
				change(parts(&n)[i])
				_, e := show.Program(n)
				refused(t, what+" in "+s, n, e != api.OK)
				if e != api.OK {
					many++
				}
			}
		}
	}
	if many < 10000 {
		t.Errorf("%d changed nodes are none of a source", many)
	}
}

// Places do not count: what is told of a node is told at its own one.
func TestPlacesInNodes(t *testing.T) {
	for s, want := range map[string]api.Errno{
		"do @x": api.ErrName, "do 1 + @\"a\"": api.ErrType, "let x = @retry; do 1": api.ErrEffect, "type t = A of @x; do 1": api.ErrName, "do fun x -> @x x": api.ErrLoop, "@type t a a = A; do 1": api.ErrTwice,
		list + "do match Nil with | Cons x @x -> 1 end": api.ErrTwice, list + "do @Cons": api.ErrArity, list + "do 1": api.OK, "let x = fun y -> y; do x 1": api.OK,
	} {
		place := max(0, strings.IndexByte(s, '@'))
		was := node(t, strings.Replace(s, "@", "", 1))
		r, at, _ := infer.Program(was)
		for _, moved := range []func(at int) int{func(at int) int { return at + 7 }, func(at int) int { return -at - 1 }, func(at int) int { return at * 1e15 }, func(at int) int { return 5000 - at }} {
			n := copied(was)
			for _, p := range parts(&n) {
				p.At = moved(p.At)
			}
			is, to, e := infer.Program(n)
			if e != want || e == api.OK && to != 0 || e != api.OK && (to != moved(place) || at != place) || told(is) != told(r) {
				t.Errorf("%s, moved: %d, %v", s, to, e)
			}
		}
	}
}

// filled is a node behind declarations that take so many bytes at least.
func filled(t *testing.T, n api.Node, bytes int) api.Node {
	t.Helper()
	var ahead []api.Node
	for left := bytes; left > 0; {
		take := left
		if left > 69 {
			take = min(69, left-9)
		}
		left -= take
		ahead = append(ahead, node(t, "let z=\""+strings.Repeat("z", take-9)+"\";do 1").Kids[0])
	}
	n.Kids = append(ahead, n.Kids...)
	return n
}

// takes holds that a source's node takes so many bytes at least, whatever source has it.
func takes(t *testing.T, s string, bytes int) {
	t.Helper()
	n := node(t, s)
	refused(t, s+", in 2000 bytes", filled(t, n, 2000-bytes), false)
	refused(t, s+", in 2001 bytes", filled(t, n, 2001-bytes), true)
}

// A node that no source of 2000 bytes has is none that a source has.
func TestNodesThatAreTooLong(t *testing.T) {
	for _, s := range []string{
		// As short as they can be.
		"do 1", "do\"\"", "do()", "do f", "do F", "do F 1a()B", "do fun f->a", "do f 1a\"\"()b", "do 1 1", "do 1a", "do(F)1", "do(F 1)1", "do let a=1in a", "do let a=\"\"in()", "do let rec f=fun a->a in 1", "do if 1then 1else 1",
		"do if()then()else()", "do if a then a else a", "do retry", "do 1;1;a", "do match 1with|1->1end", "do match a with|a->a|A _b->()|_->1end", "do match a with|A(B 1a)_->1|A->2end", "do try 1with a->1end", "do try a with a->a end",
		"do 1+1", "do a-1", "do 1*1/1%1", "do 1+1*1-1", "do(1+1)*(1-1)", "do 1-(1-1)", "do 1=1", "do(1=1)<1", "do a^\"\"", "do print\"\"", "do print 1", "do print a", "do print()", "do print(f a)", "do raise 1", "do spawn()", "do atomically retry",
		"do tvar\"\"", "do read a", "do write a 1", "do write\"\"1", "do orelse retry 1", "do orelse(f a)(f a)", "do f match a with|_->1end", "do f(1;a)", "do(1;a)1", "do(fun a->a)1", "do f(fun a->1;a)", "do 1+(let a=1in a)",
		"do 12345678 1", "do 1 9", "do f 9", "do f 90", "do 9 9", "do a9 a", "do Z z", "do z Z", "do a=a;1", "do a<1;a=a;a", "do 1*print a*read a", "do 1*raise 1", "do 1/spawn a", "do 1%atomically a", "do 1*tvar 1", "do a*write a a",
		"do 1*orelse a a", "do 1+print a", "do 1=print a", "do 1*A a", "do A a*A a", "do print a;1", "do a=print a;A a", "do f(print a)", "do f(A a)A", "do(A)A", "do(A)A A", "do f A A", "do 0", "do 4611686018427387903", "type t=A;do 1", "type t a b=A of a,t a b|B|C of l(p a(b c))d;do 1", "type t=A of int;type u=B;do 1", "let a=1;do a", "let rec f=fun a->1;do 1",
		"do\"\\n\\\"\\\\a \\x00\\x1f\\x7f\\xff~\"", "do\"#\"", "do a_ 1", "do A_ a", "do match a with|A __->1end", "do match a with|A 1_->1end",
		// In a declaration's exp brackets stand round each seq, or round what they stand in.
		"let a=(1;1);do 1", "let a=fun a->(1;1);do 1", "let a=if 1then(1;1)else 1;do 1", "let a=if 1then(1;1)else(1;1);do 1", "let a=if a then(a;a)else(a;a);do 1", "let a=(let b=1;1in let b=1;1in 1;1);do 1", "let a=let b=1in(1;1);do 1",
		"let a=(let b=1;1in 1;1);do 1", "let a=let b=(a;a)in(a;a);do 1", "let rec f=fun a->(1;1);do 1", "let rec f=fun a->(let b=1;1in 1;1);do 1", "let a=(let rec f=fun b->1;1in 1;1);do 1",
		"let a=match 1with|1->1;1|1->1;1end;do 1", "let a=try 1;1with a->1;1end;do 1", "let a=f(1;1);do 1", "let a=1+(1;1);do 1", "let a=fun a->f(fun b->1;1)(1;1);do 1", "let a=if(a;a)then a else(if 1;1then 1;1else 1;1);do 1",
		"let a=(if 1;1then 1;1else 1;1);do 1", "let a=fun a->fun b->(if 1;1then 1;1else 1;1);do 1",
	} {
		takes(t, s, len(s))
	}
	for s, bytes := range map[string]int{
		"  do  1  ": 4, "do (1)": 4, "do 007": 4, "do ((a) (b))": 6, "do \"\\x61\"": 5, "do 1 # more": 4, "do (f a) b": 8, "do f (\"\")": 6, "do a + (b * c)": 8, "do (fun a -> (a))": 11, "do (a; b)": 6, "do match (a) with | (_) -> (b) end": 24,
		"do match a with | (A (B) (C c)) -> b end": 31, "type t=A of l(int);do 1": 22, "type t a=A of l (a)(a);do 1": 24, "let a=(if a then a;a else a;a);do 1": 34, "let a=(1);do 1": 12, "let a=(fun a->(1;1));do 1": 23, "let a=let b=(1;1)in(1;1);do 1": 28,
		"let a=((1;1));do 1": 16, "let a=((fun b->1;1));do 1": 23, "let a=fun b->((if 1then 1;1else 1;1));do 1": 40,
	} {
		takes(t, s, bytes)
	}
}

// dice are thrown to make programs.
type dice uint64

func (d *dice) below(n int) int {
	*d = *d*6364136223846793005 + 1442695040888963407
	return int(uint64(*d) >> 33 % uint64(n))
}

func (d *dice) pick(l ...string) string { return l[d.below(len(l))] }

// bracketed is an exp with some other ones in it, with brackets round each of them, and round itself.
func (d *dice) bracketed(many int) string {
	if many <= 0 {
		return d.pick("1", "a", "\"\"", "()", "A", "retry", "b")
	}
	half := d.below(many)
	one, two, all := d.bracketed(half), d.bracketed(many-1-half), d.bracketed(many-1)
	switch d.below(16) {
	case 0, 1, 2, 3:
		return "(" + one + ";" + two + ")"
	case 4:
		return "(let a=" + one + " in " + two + ")"
	case 5:
		return "(let rec f=fun a->" + one + " in " + two + ")"
	case 6, 7:
		return "(if " + one + " then " + two + " else " + d.pick("1", "a", "()") + ")"
	case 8:
		return "(if " + d.pick("1", "a", "()") + " then " + one + " else " + two + ")"
	case 9, 10:
		return "(fun a->" + all + ")"
	case 11:
		return "(" + one + d.pick("+", "=", "*", "-") + two + ")"
	case 12:
		return "(" + one + " " + two + ")"
	case 13:
		return "(match " + one + " with|" + d.pick("a", "(A)", "_", "(A a)", "(A (A 1) _)") + "->" + two + " end)"
	case 14:
		return "(" + d.pick("A ", "print ", "write 1 ", "A 1 ") + all + ")"
	}
	return "(try " + one + " with a->" + two + " end)"
}

// least is how few bytes a node takes, if it is written by some words of which any brackets may be left out.
func least(t *testing.T, words []string) int {
	t.Helper()
	all := node(t, strings.Join(words, " "))
	var open []int
	var pairs [][2]int
	for i, w := range words {
		switch {
		case w == "(":
			open = append(open, i)
		case w == ")":
			pairs = append(pairs, [2]int{open[len(open)-1], i})
			open = open[:len(open)-1]
		}
	}
	most := 1 << 20
	for out := range 1 << len(pairs) {
		left := slices.Clone(words)
		for i, p := range pairs {
			if out>>i&1 == 1 {
				left[p[0]], left[p[1]] = "", ""
			}
		}
		s := tight(left)
		if n, _, e := parse.Program(s); e == api.OK && len(s) < most && parse.Same(n, all) {
			most = len(s)
		}
	}
	return most
}

// tight is words as a source, with blanks where they would be other words without.
func tight(words []string) string {
	s, ahead := "", ""
	for _, w := range words {
		if w == "" {
			continue
		}
		if l, _, _ := lex.Tokens(ahead + w); ahead != "" && (len(l) != 3 || l[1].At != len(ahead)) {
			s += " "
		}
		s += w
		ahead = w
	}
	return s
}

// No source has a node in fewer bytes than that one that is reckoned with.
func TestNodesByAllTheirSources(t *testing.T) {
	d := dice(1)
	for range 250 {
		s := "let a=" + d.bracketed(1+d.below(6)) + ";"
		switch d.below(4) {
		case 0:
			s = "let rec f=fun a->" + d.bracketed(1+d.below(6)) + ";"
		case 1:
			s = ""
		}
		s += "do " + d.bracketed(d.below(3))
		l, _, e := lex.Tokens(s)
		if e != api.OK {
			t.Fatal(s)
		}
		var words []string
		for i, x := range l[:len(l)-1] {
			words = append(words, strings.TrimSpace(s[x.At:l[i+1].At]))
		}
		takes(t, s, least(t, words))
	}
}

// How deep a node is counts for which brackets there may be.
func TestNodesThatAreTooLongAndDeep(t *testing.T) {
	var many [2]int // how many are as short with brackets round all, and how many there are
	for round := 20; round <= 40; round++ {
		for deep := 1; deep <= 9; deep++ {
			for _, l := range [][2]string{{"", "a"}, {"match 1with|_->", "a end"}, {"try a with a->", "a end"}, {"match ", "a with|_->1end"}, {"let rec f=fun b->", "a in a"}, {"let rec f=fun b->a in ", "a"}, {"A(", "a)"}} {
				end := l[0] + strings.Repeat("fun b->", deep) + l[1]
				// Three seqs take a byte more each with brackets of their own, and two in all with brackets round them all, by which all is one deeper.
				s := "let a=" + strings.Repeat("fun a->", round) + strings.Repeat("let b=(a;a)in ", 3) + end + ";do 1"
				n, _, e := parse.Program(s)
				if e != api.OK {
					continue
				}
				bytes := len(s)
				whole := "let a=(" + strings.Repeat("fun a->", round) + strings.Repeat("let b=a;a in ", 3) + end + ");do 1"
				if m, _, e := parse.Program(whole); e == api.OK && parse.Same(m, n) {
					bytes = len(whole)
					many[0]++
				}
				many[1]++
				takes(t, s, bytes)
			}
		}
	}
	if many[0] == 0 || many[0] == many[1] {
		t.Error(many)
	}
}
