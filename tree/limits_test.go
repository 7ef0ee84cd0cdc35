package tree_test

import (
	"math"
	"slices"
	"strconv"
	"testing"

	"selvage/api"
	"selvage/cover"
	"selvage/tree"
)

// trees is how many trees there are in one, itself among them.
func trees(t api.Tree) int {
	many := 1
	for _, c := range t.Cases {
		many += trees(c.Tree)
	}
	for _, r := range t.Rest {
		many += trees(r)
	}
	return many
}

// stairs are rows of four columns: so many that have a number of their own in each, and behind them so many that have one in the last column alone.
func stairs(all, last int) []api.Node {
	var rows []api.Node
	for i := range all {
		rows = append(rows, con("Four", num(i), num(i), num(i), num(i)))
	}
	for i := range last {
		rows = append(rows, con("Four", wild(), wild(), wild(), num(all+i)))
	}
	return rows
}

// P10.1: a tree has 300 trees in it at most, itself among them.
//
// In stairs the last column's tree has one for each of its rows, a Rest, and itself, one more where a row of four numbers is left. Each of these rows
// has such a tree in its Case of the third column, and one more in the Rest of the second column, of the third and of the last one ahead of it.
func TestGreatestTree(t *testing.T) {
	cons := conses(t)
	of := func(all, last int) int { return 2 + all*(3*last+9) + last + 2 }
	for all := 1; all <= 9; all++ {
		for last := 1; last <= 11; last++ {
			rows := stairs(all, last)
			got, e := tree.Build(rows, cons)
			if of(all, last) > 300 {
				refused(t, rows, cons, api.ErrMany)
			} else if e != api.OK || trees(got) != of(all, last) {
				t.Errorf("%d, %d: %d trees, %v, not %d", all, last, trees(got), e, of(all, last))
			}
		}
	}
	// 301, and one less, where a number stands in the last column twice.
	rows := stairs(8, 9)
	refused(t, rows, cons, api.ErrMany)
	rows[0].Kids[3] = num(8)
	if got, e := tree.Build(rows, cons); e != api.OK || trees(got) != 300 {
		t.Errorf("%d trees, %v", trees(got), e)
	}
	// One more stands around it.
	for i, r := range rows {
		rows[i] = con("Box", r)
	}
	refused(t, rows, cons, api.ErrMany)
}

// P10.1: of twenty rows of nineteen columns, of which there are some half a million ways through.
func TestTreesThatAreFarTooGreat(t *testing.T) {
	cons := conses(t)
	var rows []api.Node
	for i := range 20 {
		l := wilds(19)
		for at := range l {
			if at >= i {
				l[at] = con("True")
			}
			if at == i-1 {
				l[at] = con("False")
			}
		}
		four := func(l []api.Node) api.Node { return con("Four", l...) }
		rows = append(rows, four([]api.Node{four(l[:4]), four([]api.Node{four(l[4:8]), l[8], l[9], l[10]}), four(l[11:15]), four(l[15:19])}))
	}
	if _, e := cover.Check(rows, cons); e != api.OK {
		t.Fatal(e)
	}
	refused(t, rows, cons, api.ErrMany)
	// As many ways, of numbers.
	for i := range rows {
		l := wilds(4)
		for at := range l {
			l[at] = con("Four", num(i), num((i+at)%3), num(i%2), wild())
		}
		rows[i] = con("Four", l...)
	}
	is(t, rows[:1], cons, drawn(build(t, rows[:1], cons)))
	refused(t, append(rows, wild())[1:], cons, api.ErrMany)
}

// build is rows' tree.
func build(t testing.TB, rows []api.Node, cons []api.Con) api.Tree {
	t.Helper()
	got, e := tree.Build(rows, cons)
	if e != api.OK {
		t.Fatalf("%s: %v", shown(rows), e)
	}
	return got
}

// P10.1: as many rows and patterns as may be, and one more of each.
func TestRowsAndPatternsThatMayBe(t *testing.T) {
	cons := conses(t)
	var rows []api.Node
	want := ""
	for i := range 20 {
		rows = append(rows, num(i))
		want += strconv.Itoa(i) + ": " + strconv.Itoa(i) + ", "
	}
	is(t, rows, cons, "/ ("+want+"_: -)")
	refused(t, append(rows, wild()), cons, api.ErrArg)
	refused(t, append(rows, num(0)), cons, api.ErrArg)
	is(t, []api.Node{wild()}, nil, "0")
	refused(t, slices.Repeat([]api.Node{wild()}, 21), nil, api.ErrArg)
	for _, many := range []int{1, 29, 30, 31, 32, 1000} {
		rows := []api.Node{boxes(many-1, wild()), boxes(many-1, wild())}
		if many > 30 {
			refused(t, rows, cons, api.ErrArg)
		} else if got := build(t, rows, cons); trees(got) != many {
			t.Errorf("%d: %d trees", many, trees(got))
		}
	}
	// Constructors of a type with many, and with as much behind each as may be.
	for _, many := range []int{1, 2, 19, 20, 300} {
		for arity := range api.MaxArity + 1 {
			var cons []api.Con
			var rows []api.Node
			want := ""
			for tag := range many {
				cons = append(cons, api.Con{Name: "K" + strconv.Itoa(tag), Of: "k", Tag: tag, Arity: arity, Many: many})
			}
			for i := range min(many, 20) {
				row := min(many, 20) - i - 1
				rows = append(rows, con("K"+strconv.Itoa(row), wilds(arity)...))
				want += ", K" + strconv.Itoa(i) + ": " + strconv.Itoa(row)
			}
			if many > 20 {
				want += ", _: -"
			}
			is(t, rows, cons, "/ ("+want[2:]+")")
		}
	}
}

// boxes are so many in one another, with a pattern in them.
func boxes(many int, n api.Node) api.Node {
	for range many {
		n = con("Box", n)
	}
	return n
}

// P10.1: the zero tree and ErrArg, where cover.Check tells ErrArg; of what it refuses otherwise there is a tree.
func TestRowsThatMayNotBe(t *testing.T) {
	cons := conses(t)
	for _, s := range []string{"True | 1", "1 | _ | True", "True | A", "A | _ | One", "Box 1 | Box True", "Box _ | True", "Pair (Box 1) _ | Pair (Box A) _", "Cons _ (Cons 1 _) | Cons _ (Cons A _)", "_ | _ | Yes 1 | Yes Nil"} {
		refused(t, pats(t, s), cons, api.ErrArg)
	}
	for _, s := range []string{"", "_ | _", "True | True", "True", "1 | 1 | 1", "Nil | Cons _ Nil", "_ | A | B"} {
		if _, e := cover.Check(pats(t, s), cons); e == api.OK {
			t.Fatal(s)
		}
		build(t, pats(t, s), cons)
	}
	for _, n := range []api.Node{
		{}, {Kind: api.NodeText}, {Kind: api.NodeUnit}, {Kind: api.NodeCall, Kids: wilds(2)}, {Kind: api.NodeProg + 1}, {Kind: -1}, {Kind: math.MaxInt}, {Kind: math.MinInt},
		num(-1), num(math.MinInt), con("Q"), con(""), con("True", wild()), con("Box"), con("Box", wild(), wild()), con("Pair", wild()), con("Box", api.Node{}), con("Pair", num(1), con("Q")),
		{Kind: api.NodeAny, Text: "x"}, {Kind: api.NodeAny, Number: 1}, {Kind: api.NodeAny, Names: []string{"x"}}, {Kind: api.NodeAny, Kids: wilds(1)}, {Kind: api.NodeName, Text: "x", Number: 1},
		{Kind: api.NodeName, Text: "x", Kids: wilds(1)}, {Kind: api.NodeInt, Text: "1"}, {Kind: api.NodeInt, Kids: wilds(1)}, {Kind: api.NodeCon, Text: "True", Number: 1}, {Kind: api.NodeCon, Text: "True", Names: []string{""}},
	} {
		for _, rows := range [][]api.Node{{n}, {wild(), n}, {n, wild()}, {con("Box", n)}, {wild(), con("Pair", wild(), con("Pair", n, wild()))}} {
			refused(t, rows, cons, api.ErrArg)
		}
	}
	for _, bad := range [][]api.Con{
		append(conses(t), cons[0]), append(conses(t), api.Con{Name: "X", Of: "bool", Tag: 2, Many: 3}), append(conses(t), api.Con{Name: "X", Of: "x", Tag: 1, Many: 1}), append(conses(t), api.Con{Name: "X", Of: "x", Many: 2}),
		append(conses(t), api.Con{Name: "X", Of: "x", Many: 1, Arity: 5}), append(conses(t), api.Con{Name: "X", Of: "x", Many: 1, Arity: -1}), append(conses(t), api.Con{Name: "X", Of: "x", Many: 1, Tag: -1}), cons[1:],
	} {
		refused(t, nil, bad, api.ErrArg)
		refused(t, pats(t, "_"), bad, api.ErrArg)
		refused(t, pats(t, "True | False"), bad, api.ErrArg)
	}
	refused(t, pats(t, "True | False"), nil, api.ErrArg)
	// R2: too great, and wrong besides.
	refused(t, append(stairs(8, 9), con("True")), cons, api.ErrArg)
	refused(t, stairs(8, 9), append(cons, cons[0]), api.ErrArg)
	refused(t, stairs(9, 12), cons, api.ErrArg)
}

// P10.1: neither names nor places count.
func TestNamesAndPlacesDoNotCount(t *testing.T) {
	cons := conses(t)
	var other func(n api.Node, by int) api.Node
	other = func(n api.Node, by int) api.Node {
		if n.Kind == api.NodeAny {
			n = []api.Node{wild(), name("x"), name("y"), name("")}[by%4]
		}
		n.At = by*1000 - 500
		n.Kids = slices.Clone(n.Kids)
		for i, k := range n.Kids {
			n.Kids[i] = other(k, by+i+1)
		}
		return n
	}
	for _, was := range matches(t) {
		want := drawn(build(t, was, cons))
		for by := range 8 {
			var rows []api.Node
			for i, r := range was {
				rows = append(rows, other(r, by+i))
			}
			is(t, rows, cons, want)
		}
	}
}

// matches are some matches that have trees.
func matches(t *testing.T) [][]api.Node {
	var l [][]api.Node
	for _, s := range []string{
		"", "_", "True | False", "True | _ | False", "5 | 0 | 5", "Pair True _ | Pair _ True | Pair False False", "Nil | Cons _ Nil", "Nil | Cons _ Nil | Cons _ (Cons _ _)", "Pair (Pair True _) _ | Pair (Pair _ True) _ | Pair _ _",
		"Four 1 _ _ _ | Four _ 2 _ _ | Four 1 2 3 4", "Leaf | Node Leaf _ _ | Node (Node _ _ _) _ _ | Node (Both _ _) _ _ | Node _ 1 _", "Left 1 | Right True | Left _ | Right False", "C | A | B", "Box (Box (Box 1)) | _",
	} {
		l = append(l, pats(t, s))
	}
	return append(l, stairs(7, 10), stairs(3, 3))
}

// A constructor's name, or a type's, may be any.
func TestNamesOfConstructors(t *testing.T) {
	is(t, []api.Node{con("b"), con("a")}, []api.Con{{Name: "a", Tag: 1, Many: 2}, {Name: "b", Many: 2}}, "/ (b: 0, a: 1)")
	is(t, []api.Node{con("\x00", con("1"))}, []api.Con{{Name: "\x00", Of: "x", Many: 2, Tag: 1, Arity: 1}, {Name: "0", Of: "x", Many: 2}, {Name: "1", Of: "", Many: 1}}, "/ (\x00: /0 (1: 0), _: -)")
}
