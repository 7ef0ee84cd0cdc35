package cover_test

import (
	"math"
	"slices"
	"testing"

	"selvage/api"
)

// contexts are rows in which a node stands where a pattern of a place's own may: alone, ahead, behind, last, and within patterns.
func contexts(n api.Node) map[string][]api.Node {
	return map[string][]api.Node{
		"alone":  {n},
		"ahead":  {n, wild()},
		"behind": {wild(), n},
		"last":   {con("False"), con("True"), wild(), n},
		"within": {con("Box", n), wild()},
		"first":  {con("Pair", n, wild()), wild()},
		"second": {con("No"), con("Yes", con("Pair", wild(), n)), wild()},
		"fourth": {con("Four", num(1), num(2), num(3), n)},
		"deep":   {con("Box", con("Box", con("Box", con("Cons", wild(), con("Cons", n, wild())))))},
	}
}

// none holds that a node is no pattern, wherever it stands.
func none(t *testing.T, n api.Node, cons []api.Con) {
	t.Helper()
	for _, rows := range contexts(n) {
		is(t, rows, cons, 0, api.ErrArg)
	}
}

// P9.1: nodes that are no patterns, by their kinds.
func TestKindsThatAreNoPatterns(t *testing.T) {
	cons := conses(t, types)
	for kind := -1; kind <= api.NodeProg+1; kind++ {
		may := slices.Contains([]int{api.NodeAny, api.NodeName, api.NodeInt}, kind)
		if !may {
			for _, n := range []api.Node{{Kind: kind}, {Kind: kind, Text: "x"}, {Kind: kind, Number: 1}, {Kind: kind, Kids: wilds(1)}, {Kind: kind, Kids: wilds(2)}} {
				none(t, n, cons)
			}
		}
		if kind != api.NodeCon {
			none(t, api.Node{Kind: kind, Text: "Box", Kids: wilds(1)}, cons)
			none(t, api.Node{Kind: kind, Kids: wilds(1)}, cons)
		}
	}
	for _, kind := range []int{math.MinInt, math.MaxInt, 1 << 32, api.NodeAny + 1<<32, -api.NodeAny} {
		none(t, api.Node{Kind: kind}, cons)
	}
}

// P9.1: fields of patterns that are to be zero.
func TestFieldsThatAreToBeZero(t *testing.T) {
	cons := conses(t, types)
	for _, n := range []api.Node{wild(), name("x"), name(""), num(0), num(5), con("One"), con("Box", wild()), con("True")} {
		for _, names := range [][]string{{"x"}, {""}, {"", ""}} {
			w := n
			w.Names = names
			none(t, w, cons)
		}
		for _, kids := range [][]api.Node{wilds(1), {num(1)}, {{}}, {n}} {
			w := n
			w.Kids = append(slices.Clone(n.Kids), kids...)
			none(t, w, cons)
		}
		for _, number := range []int{math.MinInt, -1, 1, math.MaxInt} {
			w := n
			w.Number = number
			if n.Kind != api.NodeInt || number < 0 {
				none(t, w, cons)
			}
		}
		for _, text := range []string{"x", "_", "0", "\x00"} {
			w := n
			w.Text = text
			if n.Kind != api.NodeName {
				none(t, w, cons)
			}
		}
	}
}

// P9.1: a pattern's At, and a name's Text, may be any.
func TestFieldsThatMayBeAny(t *testing.T) {
	cons := conses(t, types)
	for _, at := range []int{math.MinInt, -1, 0, 1, 2000, math.MaxInt} {
		for _, text := range []string{"", "x", "X", "True", "_", "let", "a b", "\xff", "aname"} {
			n, m := name(text), wild()
			n.At, m.At = at, -at
			zero, yes, one := num(0), con("True"), con("Box", n)
			zero.At, yes.At, one.At = at, at, at
			is(t, []api.Node{n}, cons, 0, api.OK)
			is(t, []api.Node{n, m}, cons, 1, api.ErrUseless)
			is(t, []api.Node{m, n}, cons, 1, api.ErrUseless)
			is(t, []api.Node{zero, n}, cons, 0, api.OK)
			is(t, []api.Node{zero, num(0), n}, cons, 1, api.ErrUseless)
			is(t, []api.Node{yes, con("True")}, cons, 1, api.ErrUseless)
			is(t, []api.Node{yes}, cons, 0, api.ErrCover)
			is(t, []api.Node{one}, cons, 0, api.OK)
			is(t, []api.Node{con("Pair", n, n)}, cons, 0, api.OK)
			is(t, []api.Node{con("Pair", n, yes), con("Pair", n, n), m}, cons, 2, api.ErrUseless)
		}
	}
}

// P9.1: numbers below 0, constructors that there are not, and ones with too few or too many behind them.
func TestPatternsThatAreNone(t *testing.T) {
	cons := conses(t, types)
	for _, n := range []int{-1, -2, math.MinInt, api.MinInt} {
		none(t, num(n), cons)
	}
	for _, s := range []string{"", "Q", "true", "TRUE", "Tru", "Truee", "box", "int", "opt", "list", "_", "x"} {
		none(t, con(s), cons)
		none(t, con(s, wild()), cons)
	}
	for _, c := range cons {
		for many := range 8 {
			if many != c.Arity {
				none(t, con(c.Name, wilds(many)...), cons)
			}
		}
	}
	none(t, con("True"), nil)
	none(t, con("True"), []api.Con{{Name: "Tru", Of: "bool", Many: 1}})
	none(t, con("Box", con("Q")), cons)
	none(t, con("Box", con("Box")), cons)
	none(t, con("Box", api.Node{}), cons)
	none(t, con("Pair", wild(), num(-1)), cons)
	none(t, con("Pair", num(-1), wild()), cons)
}

// P9.1: patterns at one place that do not go together, whatever is told of the rows else.
func TestPatternsThatDoNotGoTogether(t *testing.T) {
	cons := conses(t, types)
	apart := []string{
		"True | 0", "0 | True", "True | A", "A | Nil", "Nil | No", "One | 0", "One | Box _", "Box _ | Pair _ _", "1 | Cons _ _", "Left _ | Yes _", "Leaf | Nil",
		"Box True | Box 1", "Box (Box 1) | Box 1", "Box (Box 1) | Box (Box A)", "Pair 1 _ | Pair True _", "Pair _ 1 | Pair _ True", "Pair 1 True | Pair 2 2", "Pair True 1 | Pair 2 2", "Pair 1 True | Pair _ 2",
		"Pair True _ | Pair False 1 | Pair True A", "Cons 1 Nil | Cons True Nil", "Cons _ (Cons 1 _) | Cons 2 (Cons True _)", "Cons _ Nil | Cons _ 1", "Yes True | No | Yes 1", "Left 1 | Right 1 | Left True",
		"Left 1 | Right 1 | Right True", "Four 1 _ _ _ | Four A _ _ _", "Four _ 1 _ _ | Four _ A _ _", "Four _ _ 1 _ | Four _ _ A _", "Four _ _ _ 1 | Four _ _ _ A", "Node Leaf 1 Leaf | Node Leaf True Leaf", "Node _ _ Nil | Node _ _ Leaf",
		"Both (Both _ (Both Nil _)) _ | Both (Both _ (Both Leaf _)) _", "Pair (Left 1) _ | Pair (Right True) 1 | Pair (Left A) _",
	}
	for _, s := range apart {
		rows := pats(t, s)
		is(t, rows, cons, 0, api.ErrArg)
		slices.Reverse(rows)
		is(t, rows, cons, 0, api.ErrArg)
		// A row that means all, wherever it stands, changes nothing.
		for i := range len(rows) + 1 {
			is(t, slices.Insert(slices.Clone(rows), i, wild()), cons, 0, api.ErrArg)
			is(t, slices.Insert(slices.Clone(rows), i, name("x"), rows[0]), cons, 0, api.ErrArg)
		}
		for i, r := range rows {
			rows[i] = con("Pair", con("Box", r), wild())
		}
		is(t, rows, cons, 0, api.ErrArg)
	}
}

// P9.1: at most 20 rows.
func TestLimitOfRows(t *testing.T) {
	cons := conses(t, types)
	var rows []api.Node
	for i := range 30 {
		want, at := api.ErrCover, 0
		if i > 20 {
			want = api.ErrArg
		}
		is(t, rows, cons, at, want)
		switch {
		case i < 20:
			is(t, append(rows[:i:i], wild()), cons, 0, api.OK)
		default:
			is(t, append(rows[:i:i], wild()), cons, 0, api.ErrArg)
			is(t, append(rows[:i:i], num(0)), cons, 0, api.ErrArg)
		}
		if i > 0 && i < 20 {
			is(t, append(rows[:i:i], num(0)), cons, i, api.ErrUseless)
		}
		rows = append(rows, num(i))
	}
	is(t, slices.Repeat([]api.Node{wild()}, 20), cons, 1, api.ErrUseless)
	is(t, slices.Repeat([]api.Node{wild()}, 21), cons, 0, api.ErrArg)
	is(t, slices.Repeat([]api.Node{wild()}, 1<<20), cons, 0, api.ErrArg)
}

// great is a pattern with so many in it, itself among them: two Kids each, one of which is any.
func great(many int, last api.Node) api.Node {
	switch many {
	case 1:
		return last
	case 2:
		return con("Box", last)
	}
	return con("Cons", wild(), great(many-2, last))
}

// P9.1: at most 30 patterns in a row, whatever stands in it, and in whichever row.
func TestLimitOfPatternsInARow(t *testing.T) {
	cons := conses(t, types)
	bush := func(many int) api.Node {
		n := con("Four", num(0), num(0), num(0), num(0))
		for many > 5 {
			n, many = con("Pair", num(1), n), many-2
		}
		return n
	}
	chain := func(many int) api.Node {
		n := wild()
		for range many - 1 {
			n = con("Box", n)
		}
		return n
	}
	wide := func(many int) api.Node { // a constructor, and four times as much behind it
		quarter := (many - 1) / 4
		return con("Quad", chain(quarter), chain(quarter), chain(quarter), chain(many-1-3*quarter))
	}
	quad := append(cons[:len(cons):len(cons)], api.Con{Name: "Quad", Of: "quad", Arity: 4, Many: 1})
	for many := 5; many < 40; many++ {
		want, useless := api.ErrCover, api.ErrUseless
		if many > 30 {
			want, useless = api.ErrArg, api.ErrArg
		}
		at := func(i int) int {
			if many > 30 {
				return 0
			}
			return i
		}
		if many%2 == 1 {
			is(t, []api.Node{bush(many)}, cons, 0, want)
			is(t, []api.Node{bush(many), wild(), bush(many)}, cons, at(2), useless)
		}
		is(t, []api.Node{great(many, con("Nil"))}, cons, 0, want)
		is(t, []api.Node{great(many, wild()), wild(), great(many, name("x"))}, cons, at(2), useless)
		is(t, []api.Node{wild(), great(many, wild())}, cons, at(1), useless)
		for _, n := range []api.Node{chain(many), wide(many)} {
			if many > 30 {
				is(t, []api.Node{n}, quad, 0, api.ErrArg)
				is(t, []api.Node{wild(), n}, quad, 0, api.ErrArg)
			} else {
				is(t, []api.Node{n}, quad, 0, api.OK)
				is(t, []api.Node{wild(), n}, quad, 1, api.ErrUseless)
			}
		}
	}
	// It is each row's own limit.
	var rows []api.Node
	for i := range 19 {
		rows = append(rows, great(30, num(i)))
	}
	is(t, rows, cons, 0, api.ErrCover)
	is(t, append(rows, wild()), cons, 0, api.OK)
	is(t, append(rows, great(31, num(3))), cons, 0, api.ErrArg)
}

// P9.1: constructors that are not sound, whatever the rows.
func TestConstructorsThatAreNotSound(t *testing.T) {
	a, b, c := api.Con{Name: "A", Of: "t", Many: 3}, api.Con{Name: "B", Of: "t", Tag: 1, Many: 3}, api.Con{Name: "C", Of: "t", Tag: 2, Arity: 4, Many: 3}
	d, e := api.Con{Name: "D", Of: "u", Many: 2}, api.Con{Name: "E", Of: "u", Tag: 1, Many: 2}
	whole := []api.Con{a, b, c, d, e}
	for _, rows := range [][]api.Node{nil, {wild()}, {num(1)}, {wild(), wild()}, {con("A"), con("B"), con("C", wilds(4)...)}} {
		want, at := api.OK, 0
		switch len(rows) {
		case 0:
			want = api.ErrCover
		case 1:
			if rows[0].Kind == api.NodeInt {
				want = api.ErrCover
			}
		case 2:
			want, at = api.ErrUseless, 1
		}
		is(t, rows, whole, at, want)
		if len(rows) < 3 {
			is(t, rows, nil, at, want)
			is(t, rows, []api.Con{}, at, want)
		}
		for _, order := range [][]api.Con{{e, d, c, b, a}, {a, d, b, e, c}, {c, a, e, b, d}} {
			is(t, rows, order, at, want)
		}
		// One that is missing, and one that is there twice.
		for i := range whole {
			is(t, rows, append(whole[:i:i], whole[i+1:]...), 0, api.ErrArg)
			is(t, rows, append(whole[:5:5], whole[i]), 0, api.ErrArg)
		}
		for i := range whole {
			broken := func(change func(c *api.Con)) {
				t.Helper()
				l := slices.Clone(whole)
				change(&l[i])
				if slices.Equal(l, whole) {
					return
				}
				is(t, rows, l, 0, api.ErrArg)
			}
			for _, n := range []int{math.MinInt, -1, 0, 1, 2, 3, 4, 5, math.MaxInt} {
				broken(func(c *api.Con) { c.Many = n })
				broken(func(c *api.Con) { c.Tag = n })
				if n < 0 || n > 4 {
					broken(func(c *api.Con) { c.Arity = n })
				}
			}
			for _, s := range []string{"t", "u", "v", ""} {
				broken(func(c *api.Con) { c.Of = s })
			}
			for _, s := range []string{"A", "B", "C", "D", "E"} {
				broken(func(c *api.Con) { c.Name = s })
			}
		}
	}
	// All of a type say a number that they are not, and their tags are as they say, or as they are.
	for many := range 5 {
		for first := -1; first < 4; first++ {
			for step := range 4 {
				l := []api.Con{{Name: "A", Of: "t", Tag: first, Many: many}, {Name: "B", Of: "t", Tag: first + step, Many: many}}
				want := api.ErrArg
				if many == 2 && first == 0 && step == 1 {
					want = api.OK
				}
				is(t, []api.Node{wild()}, l, 0, want)
			}
		}
	}
}

// P9.1: constructors that are sound, though of strange names.
func TestConstructorsThatAreSound(t *testing.T) {
	for _, l := range [][]api.Con{
		{{Name: "A", Many: 1}}, {{Of: "t", Many: 1}}, {{Many: 1}}, {{Name: "x", Of: "x", Many: 2, Arity: 4}, {Name: "", Of: "x", Tag: 1, Many: 2, Arity: 4}},
		{{Name: "A", Of: "a", Many: 1}, {Name: "B", Of: "b", Many: 1}}, {{Name: "A", Of: "B", Many: 1}, {Name: "B", Of: "A", Many: 1}},
	} {
		is(t, []api.Node{wild()}, l, 0, api.OK)
		rows := []api.Node{}
		for _, c := range l {
			if c.Of == l[0].Of {
				rows = append(rows, con(c.Name, wilds(c.Arity)...))
			}
		}
		is(t, rows, l, 0, api.OK)
		is(t, rows[1:], l, 0, api.ErrCover)
	}
}

// P9.1: a number is of no type, and no constructor's, though a type's or a constructor's name is empty.
func TestNumbersAreOfNoType(t *testing.T) {
	for _, l := range [][]api.Con{{{Many: 1}}, {{Of: "t", Many: 1}}, {{Many: 2}, {Name: "B", Tag: 1, Many: 2}}} {
		is(t, []api.Node{num(0)}, l, 0, api.ErrCover)
		is(t, []api.Node{num(0), wild()}, l, 0, api.OK)
		is(t, []api.Node{num(0), num(1)}, l, 0, api.ErrCover)
		is(t, []api.Node{num(0), num(1), wild()}, l, 0, api.OK)
		is(t, []api.Node{num(0), con("")}, l, 0, api.ErrArg)
		is(t, []api.Node{con(""), num(0)}, l, 0, api.ErrArg)
	}
	l := []api.Con{{Name: "A", Many: 1}, {Name: "B", Of: "t", Many: 1}}
	is(t, []api.Node{num(0), con("A")}, l, 0, api.ErrArg)
	is(t, []api.Node{con("A"), num(0)}, l, 0, api.ErrArg)
	is(t, []api.Node{con("A"), con("B")}, l, 0, api.ErrArg)
	is(t, []api.Node{con("A")}, l, 0, api.OK)
}

// R2: what may not be handed in is told ahead of what the rows are.
func TestErrorsThatAreToldFirst(t *testing.T) {
	cons := conses(t, types)
	for _, s := range []string{"_ | _ | _", "True | True", "Nil", "x | True | False", "0 | 0 | _"} {
		rows := pats(t, s)
		for i := range len(rows) + 1 {
			for _, n := range []api.Node{{}, num(-1), con("Box"), con("Pair", num(1), num(-1)), great(31, wild()), {Kind: api.NodeUnit}} {
				is(t, slices.Insert(slices.Clone(rows), i, n), cons, 0, api.ErrArg)
			}
		}
		is(t, rows, cons[1:], 0, api.ErrArg)
		is(t, append(rows, slices.Repeat(rows[:1], 20)...), cons, 0, api.ErrArg)
	}
	is(t, pats(t, "True | True"), cons, 1, api.ErrUseless)
	is(t, pats(t, "0 | 0 | 1"), cons, 1, api.ErrUseless)
}
