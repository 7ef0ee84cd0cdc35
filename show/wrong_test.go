package show_test

import (
	"math"
	"slices"
	"strconv"
	"strings"
	"testing"

	"selvage/api"
	"selvage/parse"
	"selvage/show"
)

// P6.1: what is no program's node has no text.

func name(s string) api.Node { return api.Node{Kind: api.NodeName, Text: s} }

// node of a kind, with Kids.
func of(kind int, text string, kids ...api.Node) api.Node {
	return api.Node{Kind: kind, Text: text, Kids: kids}
}

// changed holds that a program's node is none any more, when each of its nodes in turn is changed in that way. A change tells whether it is one.
func changed(t *testing.T, what string, change func(n *api.Node) bool) {
	t.Helper()
	many := 0
	for _, s := range whole {
		a := node(t, s)
		for i := range parts(&a) {
			b := copied(a)
			if p := parts(&b)[i]; change(p) {
				many++
				refused(t, what+" in "+s+" at "+strconv.Itoa(i), b)
			}
		}
	}
	if many == 0 {
		t.Error(what, "changes nothing")
	}
}

func TestZeroNodes(t *testing.T) {
	refused(t, "the zero node", api.Node{})
	refused(t, "a program of nothing", api.Node{Kind: api.NodeProg})
	refused(t, "a program of the zero node", does(api.Node{}))
	refused(t, "a program of zero nodes", of(api.NodeProg, "", api.Node{}, api.Node{}))
	changed(t, "the zero node", func(n *api.Node) bool { *n = api.Node{}; return true })
}

// Only a program is a program, though what stands in it is one's.
func TestOtherNodesThanPrograms(t *testing.T) {
	for _, s := range whole {
		n := node(t, s)
		for i, p := range parts(&n)[1:] {
			refused(t, "part "+strconv.Itoa(i)+" of "+s, *p)
		}
		for kind := -2; kind < 40; kind++ {
			if kind != api.NodeProg {
				m := n
				m.Kind = kind
				refused(t, "a program of kind "+strconv.Itoa(kind), m)
			}
		}
		refused(t, "a program in a program", does(n))
	}
}

func TestNodesAtWrongPlaces(t *testing.T) {
	x, fun := name("x"), of(api.NodeFun, "y", name("z"))
	def, val, typ := of(api.NodeDef, "A"), of(api.NodeVal, "v", x), of(api.NodeType, "t", of(api.NodeDef, "A"))
	for what, n := range map[string]api.Node{
		"an exp as a declaration":          of(api.NodeProg, "", x, x),
		"a fun as a declaration":           of(api.NodeProg, "", fun, x),
		"a let as a declaration":           of(api.NodeProg, "", of(api.NodeLet, "v", x, x), x),
		"a constructor as a declaration":   of(api.NodeProg, "", def, x),
		"a declaration at the end":         of(api.NodeProg, "", val, val),
		"a type at the end":                does(typ),
		"a declaration of rec at the end":  does(of(api.NodeValRec, "f", fun)),
		"a declaration as an exp":          does(of(api.NodePrint, "", val)),
		"a program as an exp":              does(of(api.NodePrint, "", does(x))),
		"a type's constructor as an exp":   does(def),
		"a tyapp as an exp":                does(of(api.NodeTy, "t")),
		"a tyapp as an atom":               does(of(api.NodePrint, "", of(api.NodeTy, "t"))),
		"a tyapp with more as an exp":      does(of(api.NodeTy, "t", of(api.NodeTy, "t"))),
		"any as an exp":                    does(api.Node{Kind: api.NodeAny}),
		"any as an atom":                   does(of(api.NodeCon, "A", api.Node{Kind: api.NodeAny})),
		"a string as a pat":                does(of(api.NodeMatch, "", x, api.Node{Kind: api.NodeText, Text: "a"}, x)),
		"a unit as a pat":                  does(of(api.NodeMatch, "", x, api.Node{Kind: api.NodeUnit}, x)),
		"retry as a pat":                   does(of(api.NodeMatch, "", x, api.Node{Kind: api.NodeRetry}, x)),
		"an operation as a pat":            does(of(api.NodeMatch, "", x, of(api.NodeOp, "+", x, x), x)),
		"a call as a pat":                  does(of(api.NodeMatch, "", x, of(api.NodeCall, "", x, x), x)),
		"a call within a pat":              does(of(api.NodeMatch, "", x, of(api.NodeCon, "A", of(api.NodeCall, "", x, x)), x)),
		"a string within a pat":            does(of(api.NodeMatch, "", x, of(api.NodeCon, "A", api.Node{Kind: api.NodeText}), x)),
		"a tyapp as a pat":                 does(of(api.NodeMatch, "", x, of(api.NodeTy, "t"), x)),
		"any as a row's exp":               does(of(api.NodeMatch, "", x, x, api.Node{Kind: api.NodeAny})),
		"a name as a tyapp":                of(api.NodeProg, "", of(api.NodeType, "t", of(api.NodeDef, "A", x)), x),
		"a constructor as a tyapp":         of(api.NodeProg, "", of(api.NodeType, "t", of(api.NodeDef, "A", of(api.NodeCon, "B"))), x),
		"digits in a tyapp":                of(api.NodeProg, "", of(api.NodeType, "t", of(api.NodeDef, "A", of(api.NodeTy, "u", api.Node{Kind: api.NodeInt}))), x),
		"an exp's constructor in a type":   of(api.NodeProg, "", of(api.NodeType, "t", of(api.NodeCon, "A")), x),
		"a tyapp in a type":                of(api.NodeProg, "", of(api.NodeType, "t", of(api.NodeTy, "a")), x),
		"rec of a name":                    does(of(api.NodeRec, "f", x, x)),
		"rec of a seq that begins with it": does(of(api.NodeRec, "f", of(api.NodeSeq, "", fun, x), x)),
		"rec of a call of a fun":           does(of(api.NodeRec, "f", of(api.NodeCall, "", fun, x), x)),
		"rec of a let":                     does(of(api.NodeRec, "f", of(api.NodeLet, "v", x, fun), x)),
		"a declaration of rec of a name":   of(api.NodeProg, "", of(api.NodeValRec, "f", x), x),
		"a declaration of rec of a let":    of(api.NodeProg, "", of(api.NodeValRec, "f", of(api.NodeLet, "v", x, fun)), x),
		"a def of a def":                   of(api.NodeProg, "", of(api.NodeType, "t", of(api.NodeDef, "A", def)), x),
	} {
		refused(t, what, n)
	}
}

// Each kind has its fields, and no other one may be there.
func TestFieldsTooMany(t *testing.T) {
	texts := []int{api.NodeText, api.NodeName, api.NodeCon, api.NodeFun, api.NodeLet, api.NodeRec, api.NodeTry, api.NodeOp, api.NodeType, api.NodeDef, api.NodeTy, api.NodeVal, api.NodeValRec}
	for _, number := range []int{1, -1, 1 << 32, math.MinInt, math.MaxInt} {
		changed(t, "a number", func(n *api.Node) bool { n.Number = number; return n.Kind != api.NodeInt })
	}
	for _, text := range []string{"a", "A", " ", "=", "\x00", "let"} {
		changed(t, "a text", func(n *api.Node) bool { n.Text = text; return !slices.Contains(texts, n.Kind) })
	}
	for _, name := range []string{"a", "", "A", "let", ";"} {
		changed(t, "a parameter", func(n *api.Node) bool { n.Names = append(n.Names, name); return n.Kind != api.NodeType })
		changed(t, "parameters", func(n *api.Node) bool { n.Names = []string{name, name}; return n.Kind != api.NodeType })
	}
}

// Lists of Kids are as long as their kind's.
func TestKidsTooFewOrTooMany(t *testing.T) {
	any := []int{api.NodeCon, api.NodeTy, api.NodeDef, api.NodeType, api.NodeProg} // those that may have more, or fewer
	bound := func(n *api.Node) bool { return !slices.Contains(any, n.Kind) }
	for _, k := range []api.Node{name("x"), {}, {Kind: api.NodeUnit}, {Kind: api.NodeAny}, of(api.NodeTy, "t"), of(api.NodeFun, "x", name("x"))} {
		changed(t, "a Kid more", func(n *api.Node) bool { n.Kids = append(n.Kids, k); return bound(n) })
		changed(t, "a Kid more ahead", func(n *api.Node) bool { n.Kids = append([]api.Node{k}, n.Kids...); return bound(n) })
	}
	changed(t, "a Kid fewer", func(n *api.Node) bool {
		if len(n.Kids) == 0 {
			return false
		}
		n.Kids = n.Kids[1:]
		return bound(n)
	})
	changed(t, "a Kid fewer at the end", func(n *api.Node) bool {
		if len(n.Kids) == 0 {
			return false
		}
		n.Kids = n.Kids[:len(n.Kids)-1]
		return bound(n)
	})
	changed(t, "no Kids", func(n *api.Node) bool {
		had := len(n.Kids) > 0
		n.Kids = nil
		return had && (bound(n) || n.Kind == api.NodeType || n.Kind == api.NodeProg)
	})
	for kind := range 31 {
		for many := range 5 {
			n := of(kind, "x")
			for range many {
				n.Kids = append(n.Kids, name("x"))
			}
			newModel().held(t, does(n))
			newModel().held(t, of(api.NodeProg, "", n, name("x")))
		}
	}
}

// Names are names, and no keys; constructors' are theirs; signs are those of operations.
func TestTextsOfNoKind(t *testing.T) {
	wrong := append([]string{"", "A", "_", "_a", "1", "1a", "a b", " a", "a ", "a\n", "a-b", "a'", "\"a\"", "(", "()", "( )", "(a)", "a;", "#", "a#", "\u00e4", "a\u00e4", "a\x00", "abcdefghijklmnopq", strings.Repeat("a", 1998), strings.Repeat("a", 5000)}, keys...)
	named := []int{api.NodeName, api.NodeFun, api.NodeLet, api.NodeRec, api.NodeTry, api.NodeType, api.NodeTy, api.NodeVal, api.NodeValRec}
	for _, text := range wrong {
		changed(t, "the name "+strconv.Quote(text), func(n *api.Node) bool { n.Text = text; return slices.Contains(named, n.Kind) })
		changed(t, "the parameter "+strconv.Quote(text), func(n *api.Node) bool {
			if len(n.Names) == 0 {
				return false
			}
			n.Names[len(n.Names)-1] = text
			return true
		})
	}
	for _, text := range []string{"", "a", "_", "1", "A B", "A b", " A", "A ", "A|B", "A of a", "A,", "A-", "\u00c4", "A\u00e4", "Abcdefghijklmnopq", "let", "Let rec", "(A)", "( A )"} {
		changed(t, "the constructor "+strconv.Quote(text), func(n *api.Node) bool { n.Text = text; return n.Kind == api.NodeCon || n.Kind == api.NodeDef })
	}
	for _, text := range []string{"", "->", ";", "|", "(", ")", ",", "_", "==", "<=", "+ ", " +", "+-", "+ 1 +", "* a *", "&", "in", "a", "A", ">", "\x00"} {
		changed(t, "the sign "+strconv.Quote(text), func(n *api.Node) bool { n.Text = text; return n.Kind == api.NodeOp })
	}
	for _, text := range []string{strings.Repeat("a", 61), strings.Repeat("\"", 61), strings.Repeat("\x00", 61), strings.Repeat("a", 5000)} {
		changed(t, "a string that is too long", func(n *api.Node) bool { n.Text = text; return n.Kind == api.NodeText })
	}
}

func TestNumbersThatMayNotBe(t *testing.T) {
	for _, number := range []int{-1, -2, -10, -1 << 32, api.MinInt, math.MinInt, math.MinInt + 1, api.MaxInt + 1, math.MaxInt} {
		changed(t, "the number "+strconv.Itoa(number), func(n *api.Node) bool { n.Number = number; return n.Kind == api.NodeInt })
		refused(t, "the number "+strconv.Itoa(number), does(api.Node{Kind: api.NodeInt, Number: number}))
		refused(t, "the pat "+strconv.Itoa(number), does(of(api.NodeMatch, "", name("x"), api.Node{Kind: api.NodeInt, Number: number}, name("x"))))
	}
}

func TestUnknownKinds(t *testing.T) {
	for _, kind := range []int{0, -1, -api.NodeInt, api.NodeProg + 1, api.NodeProg + 2, 99, 1 << 32, 1<<32 + api.NodeInt, 1<<32 + api.NodeProg, math.MaxInt, math.MinInt} {
		changed(t, "the kind "+strconv.Itoa(kind), func(n *api.Node) bool { n.Kind = kind; return true })
	}
}

// Any other kind makes another node of it, or none.
func TestOtherKinds(t *testing.T) {
	m := newModel()
	for _, s := range whole {
		a := node(t, s)
		for i := range parts(&a) {
			for kind := range 32 {
				b := copied(a)
				parts(&b)[i].Kind = kind
				m.held(t, b)
			}
		}
	}
}

// Nodes within themselves are none's, whichever way they stand in one another.
func TestNodesWithinThemselves(t *testing.T) {
	for _, f := range append(frames(), frame{api.Node{Kind: api.NodeProg}, 1}, frame{api.Node{Kind: api.NodeProg}, 3}, frame{api.Node{Kind: api.NodeVal, Text: "v"}, 1},
		frame{api.Node{Kind: api.NodeValRec, Text: "v"}, 1}, frame{api.Node{Kind: api.NodeType, Text: "t"}, 2}, frame{api.Node{}, 2}, frame{api.Node{Kind: -1}, 1}, frame{api.Node{Kind: 77}, 1}) {
		for at := range f.kids {
			for _, others := range []frame{f, {api.Node{Kind: api.NodeCall}, 2}, {api.Node{Kind: api.NodePrint}, 1}, {api.Node{Kind: api.NodeSeq}, 2}} {
				n := f.round(name("x"), at)
				// Its Kid is another node, whose Kid is it.
				n.Kids[at] = others.round(n, 0)
				n.Kids[at].Kids[0].Kids = n.Kids
				for _, p := range append(programs(n), n, of(api.NodeProg, "", n, n)) {
					refused(t, "a node within itself", p)
				}
				one := f.round(name("x"), at)
				one.Kids[at] = one
				one.Kids[at].Kids = one.Kids
				for _, p := range append(programs(one), one, of(api.NodeProg, "", one, one)) {
					refused(t, "a node within itself", p)
				}
				all := f.node
				all.Kids = make([]api.Node, f.kids)
				for i := range all.Kids {
					all.Kids[i] = all
				}
				for _, p := range append(programs(all), all) {
					refused(t, "a node all of whose Kids it is", p)
				}
			}
		}
	}
}

// limit holds that the node of so many is a program's, and that of one more is not.
func limit(t *testing.T, what string, most int, made func(many int) api.Node) {
	t.Helper()
	for _, many := range []int{1, most - 1, most} {
		n := made(many)
		s, e := show.Program(n)
		if back, _, f := parse.Program(s); e != api.OK || f != api.OK || !parse.Same(n, back) {
			t.Errorf("%d %s: %.60q, %v, %v", many, what, s, e, f)
		}
	}
	for _, many := range []int{most + 1, most + 2, 10 * most} {
		refused(t, what, made(many))
	}
}

// listOf is a node with that many Kids that are alike.
func listOf(kind int, text string, many int, kids ...api.Node) api.Node {
	return of(kind, text, slices.Repeat(kids, many)...)
}

func TestPartsTooMany(t *testing.T) {
	x := name("x")
	limit(t, "declarations", 60, func(many int) api.Node {
		return of(api.NodeProg, "", append(slices.Repeat([]api.Node{of(api.NodeVal, "v", x)}, many), x)...)
	})
	limit(t, "rows", 20, func(many int) api.Node {
		n := listOf(api.NodeMatch, "", many, x, x)
		n.Kids = append([]api.Node{x}, n.Kids...)
		return does(n)
	})
	limit(t, "atoms", 4, func(many int) api.Node { return does(listOf(api.NodeCon, "A", many, x)) })
	limit(t, "patoms", 4, func(many int) api.Node {
		return does(of(api.NodeMatch, "", x, listOf(api.NodeCon, "A", many, x), x))
	})
	typed := func(n api.Node) api.Node { return of(api.NodeProg, "", n, x) }
	limit(t, "constructors", 20, func(many int) api.Node { return typed(listOf(api.NodeType, "t", many, of(api.NodeDef, "A"))) })
	limit(t, "tyapps", 4, func(many int) api.Node {
		return typed(of(api.NodeType, "t", listOf(api.NodeDef, "A", many, of(api.NodeTy, "u"))))
	})
	limit(t, "parameters", 4, func(many int) api.Node {
		n := of(api.NodeType, "t", of(api.NodeDef, "A"))
		n.Names = slices.Repeat([]string{"a"}, many)
		return typed(n)
	})
	limit(t, "bytes of a string", 60, func(many int) api.Node { return does(of(api.NodeText, strings.Repeat("a", many))) })
	limit(t, "bytes of a name", 16, func(many int) api.Node { return does(name(strings.Repeat("a", many))) })
	limit(t, "bytes of a constructor's name", 16, func(many int) api.Node { return does(of(api.NodeCon, strings.Repeat("A", many))) })
}

// Parts that are too deep, brackets counted where they must be.
func TestPartsTooDeep(t *testing.T) {
	x := name("x")
	nest := func(make func(n api.Node) api.Node) func(many int) api.Node {
		return func(many int) api.Node {
			n := x
			for range many - 1 {
				n = make(n)
			}
			return does(n)
		}
	}
	limit(t, "funs", 40, nest(func(n api.Node) api.Node { return of(api.NodeFun, "p", n) }))
	limit(t, "lets", 40, nest(func(n api.Node) api.Node { return of(api.NodeLet, "v", x, n) }))
	limit(t, "values of lets", 40, nest(func(n api.Node) api.Node { return of(api.NodeLet, "v", n, x) }))
	limit(t, "ifs", 40, nest(func(n api.Node) api.Node { return of(api.NodeIf, "", n, x, x) }))
	limit(t, "seqs", 40, nest(func(n api.Node) api.Node { return of(api.NodeSeq, "", x, n) }))
	limit(t, "matches", 40, nest(func(n api.Node) api.Node { return of(api.NodeMatch, "", n, x, x) }))
	limit(t, "tries", 40, nest(func(n api.Node) api.Node { return of(api.NodeTry, "e", x, n) }))
	// Of these the innermost one stands in brackets no more.
	limit(t, "keys", 41, nest(func(n api.Node) api.Node { return of(api.NodePrint, "", n) }))
	limit(t, "arguments", 41, nest(func(n api.Node) api.Node { return of(api.NodeCall, "", x, n) }))
	limit(t, "right operands", 41, nest(func(n api.Node) api.Node { return of(api.NodeOp, "-", x, n) }))
	limit(t, "comparisons", 41, nest(func(n api.Node) api.Node { return of(api.NodeOp, "=", n, x) }))
	limit(t, "constructors", 41, nest(func(n api.Node) api.Node { return of(api.NodeCon, "A", x, n) }))
	// But what stands on the right of a `;` is one deeper, and so is a pat than its match.
	limit(t, "left seqs", 40, nest(func(n api.Node) api.Node { return of(api.NodeSeq, "", n, x) }))
	limit(t, "pats", 40, func(many int) api.Node {
		n := x
		for range many - 1 {
			n = of(api.NodeCon, "A", n)
		}
		return does(of(api.NodeMatch, "", x, n, x))
	})
	limit(t, "tyapps", 41, func(many int) api.Node {
		n := of(api.NodeTy, "a")
		for range many - 1 {
			n = of(api.NodeTy, "u", n)
		}
		return of(api.NodeProg, "", of(api.NodeType, "t", of(api.NodeDef, "A", n)), x)
	})
	// From the left they are not deep.
	limit(t, "calls", 999, nest(func(n api.Node) api.Node { return of(api.NodeCall, "", n, x) }))
	limit(t, "sums", 500, nest(func(n api.Node) api.Node { return of(api.NodeOp, "+", n, x) }))
}

// A text is a source: of 2000 bytes at most, however short the source was that the node was read from.
func TestTextsTooLong(t *testing.T) {
	for _, l := range []struct {
		s    string
		long int
	}{
		{"do 1" + strings.Repeat("+1", 499), 2000},
		{"do 10" + strings.Repeat("+1", 499), 2001},
		{"do 1" + strings.Repeat("+1", 499) + "0", 2001},
		{"do f" + strings.Repeat(" x", 998), 2000},
		{"let x=(1;2);do 1" + strings.Repeat("+1", 494), 2000},
		{"let x=(1;2);do 1" + strings.Repeat("+1", 494) + "0", 2001},
		{"do \"" + strings.Repeat("\\x00", 60) + "\"" + strings.Repeat("*1", 438) + "+1", 0},
		{"do 1" + strings.Repeat("+1", 998), 3996},
	} {
		n := node(t, l.s)
		want, f := newModel().program(n)
		s, e := show.Program(n)
		if s != want || e != f || e == api.OK && len(s) > 2000 {
			t.Errorf("%.50q: %d bytes, %v, not %d, %v", l.s, len(s), e, len(want), f)
		}
		if l.long != 0 && (e == api.OK) != (l.long <= 2000) {
			t.Errorf("%.50q: %v", l.s, e)
		}
		if e == api.OK && l.long != 0 && len(s) != l.long {
			t.Errorf("%.50q has %d bytes", l.s, len(s))
		}
	}
	// Each length round the limit.
	for long := 1990; long <= 2010; long++ {
		n := name("x")
		have := 4
		for have+2 <= long {
			k := min(16, long-have-1)
			if long-have-1-k == 1 {
				k--
			}
			n = of(api.NodeCall, "", n, name(strings.Repeat("y", k)))
			have += k + 1
		}
		s, e := show.Program(does(n))
		if have != long || (e == api.OK) != (long <= 2000) || e == api.OK && len(s) != long {
			t.Errorf("%d, %d bytes: %d, %v", have, long, len(s), e)
		}
	}
}
