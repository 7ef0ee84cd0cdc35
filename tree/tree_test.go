package tree_test

import (
	"math"
	"slices"
	"strconv"
	"strings"
	"testing"

	"selvage/api"
	"selvage/infer"
	"selvage/parse"
	"selvage/tree"
)

// types are declarations of types for the tests: of one constructor and of more of them, with nothing behind a constructor and with as much as may be.
const types = "type one = One; type box a = Box of a; type pair a b = Pair of a, b; type four a = Four of a, a, a, a; " +
	"type opt a = No | Yes of a; type list a = Nil | Cons of a, list a; type sum a b = Left of a | Right of b; " +
	"type tri = A | B | C; type tree = Leaf | Node of tree, int, tree | Both of tree, tree; "

// conses are the constructors of types, and False and True.
func conses(t testing.TB) []api.Con {
	t.Helper()
	r, at, e := infer.Program(parsed(t, types+"do 1"))
	if e != api.OK {
		t.Fatalf("%d, %v", at, e)
	}
	return r.Cons
}

// parsed is a source's node.
func parsed(t testing.TB, s string) api.Node {
	t.Helper()
	n, at, e := parse.Program(s)
	if e != api.OK {
		t.Fatalf("%s: %d, %v", s, at, e)
	}
	return n
}

// pats are patterns as a source has them, with a bar between.
func pats(t testing.TB, s string) []api.Node {
	t.Helper()
	if s == "" {
		return nil
	}
	n := parsed(t, "do match x with | "+strings.ReplaceAll(s, "|", "-> 1 |")+" -> 1 end")
	var rows []api.Node
	for i := 1; i < len(n.Kids[0].Kids); i += 2 {
		rows = append(rows, n.Kids[0].Kids[i])
	}
	return rows
}

// val is a value as a source has it, or, with an _ in it, one that has some value there.
func val(t testing.TB, s string) api.Value {
	t.Helper()
	var of func(n api.Node) api.Value
	of = func(n api.Node) api.Value {
		v := api.Value{Con: n.Text, Number: n.Number}
		for _, k := range n.Kids {
			v.Parts = append(v.Parts, of(k))
		}
		return v
	}
	return of(pats(t, s)[0])
}

func con(name string, kids ...api.Node) api.Node {
	return api.Node{Kind: api.NodeCon, Text: name, Kids: kids}
}

func num(n int) api.Node { return api.Node{Kind: api.NodeInt, Number: n} }

func name(s string) api.Node { return api.Node{Kind: api.NodeName, Text: s} }

func wild() api.Node { return api.Node{Kind: api.NodeAny} }

// wilds are as many patterns of any value.
func wilds(many int) []api.Node { return slices.Repeat([]api.Node{wild()}, many) }

// shown is rows as a source has them.
func shown(rows []api.Node) string {
	var l []string
	for _, r := range rows {
		l = append(l, pattern(r, false))
	}
	return strings.Join(l, " | ")
}

// pattern is a pattern as a source has it.
func pattern(n api.Node, inner bool) string {
	switch n.Kind {
	case api.NodeAny:
		return "_"
	case api.NodeInt:
		return strconv.Itoa(n.Number)
	}
	s := n.Text
	for _, k := range n.Kids {
		s += " " + pattern(k, true)
	}
	if inner && len(n.Kids) > 0 {
		return "(" + s + ")"
	}
	return s
}

// drawn is a tree as a text: a row's number, - for none, or a question's path and its Cases, with _ for the Rest. A field that is to be zero, and is
// not, is told, too.
func drawn(t api.Tree) string {
	if len(t.Path) == 0 && len(t.Cases) == 0 && len(t.Rest) == 0 {
		if t.Row == -1 {
			return "-"
		}
		return strconv.Itoa(t.Row)
	}
	s := "/"
	for i, at := range t.Path {
		if i > 0 {
			s += "."
		}
		s += strconv.Itoa(at)
	}
	if t.Row != 0 {
		s += " row " + strconv.Itoa(t.Row)
	}
	var l []string
	for _, c := range t.Cases {
		head := c.Con
		if head == "" || c.Number != 0 {
			head += strconv.Itoa(c.Number)
		}
		l = append(l, head+": "+drawn(c.Tree))
	}
	for _, r := range t.Rest {
		l = append(l, "_: "+drawn(r))
	}
	return s + " (" + strings.Join(l, ", ") + ")"
}

// is holds that rows' tree is as it is drawn.
func is(t *testing.T, rows []api.Node, cons []api.Con, want string) {
	t.Helper()
	if got, e := tree.Build(rows, cons); e != api.OK || drawn(got) != want {
		t.Errorf("%s: %s, %v, not %s", shown(rows), drawn(got), e, want)
	}
}

// refused holds that there is no tree of rows, with an error.
func refused(t *testing.T, rows []api.Node, cons []api.Con, e api.Errno) {
	t.Helper()
	if got, f := tree.Build(rows, cons); f != e || drawn(got) != "0" {
		t.Errorf("%s: %s, %v, not %v", shown(rows), drawn(got), f, e)
	}
}

// drawings holds that each of some rows' trees is as it is drawn.
func drawings(t *testing.T, l [][2]string) {
	t.Helper()
	cons := conses(t)
	for _, d := range l {
		is(t, pats(t, d[0]), cons, d[1])
	}
}

// P10.1: without rows the tree tells none; a first row of which all columns are any is told.
func TestRowsThatAreTold(t *testing.T) {
	drawings(t, [][2]string{
		{"", "-"},
		{"_", "0"},
		{"x", "0"},
		{"_ | _", "0"},
		{"x | True | False", "0"},
		{"_ | 3", "0"},
		{"_ | Box 1 | Box 2", "0"},
		{"One", "/ (One: 0)"},
		{"One | _", "/ (One: 0)"},
		{"Box _", "/ (Box: 0)"},
		{"Box x | Box 1", "/ (Box: 0)"},
		{"Pair _ x | Pair 1 2 | _", "/ (Pair: 0)"},
		{"Four _ _ _ _", "/ (Four: 0)"},
	})
}

// P10.1: of constructors there is a Case for each that stands in the column of a row, in the order of their tags; and a Rest, if these are not all.
func TestCasesOfConstructors(t *testing.T) {
	drawings(t, [][2]string{
		{"True | False", "/ (False: 1, True: 0)"},
		{"False | True", "/ (False: 0, True: 1)"},
		{"True | _", "/ (True: 0, _: 1)"},
		{"True", "/ (True: 0, _: -)"},
		{"False", "/ (False: 0, _: -)"},
		{"True | True", "/ (True: 0, _: -)"},
		{"True | True | False | False", "/ (False: 2, True: 0)"},
		{"C | B | A", "/ (A: 2, B: 1, C: 0)"},
		{"B | C | A", "/ (A: 2, B: 0, C: 1)"},
		{"C | A", "/ (A: 1, C: 0, _: -)"},
		{"C | A | x", "/ (A: 1, C: 0, _: 2)"},
		{"C | B", "/ (B: 1, C: 0, _: -)"},
		{"B | _ | A", "/ (A: 1, B: 0, _: 1)"},
		{"C | _ | B | A", "/ (A: 1, B: 1, C: 0)"},
		{"A | A | B", "/ (A: 0, B: 2, _: -)"},
		{"True | _ | False", "/ (False: 1, True: 0)"},
		{"Yes _ | No", "/ (No: 1, Yes: 0)"},
		{"Leaf | Both _ _", "/ (Leaf: 0, Both: 1, _: -)"},
		{"Both _ _ | Node _ _ _ | Leaf", "/ (Leaf: 2, Node: 1, Both: 0)"},
	})
}

// P10.1: of numbers there is a Case for each that stands in the column of a row, in the order of the rows; and a Rest always.
func TestCasesOfNumbers(t *testing.T) {
	drawings(t, [][2]string{
		{"0", "/ (0: 0, _: -)"},
		{"0 | _", "/ (0: 0, _: 1)"},
		{"5 | 0 | 5", "/ (5: 0, 0: 1, _: -)"},
		{"7 | 3 | x | 5 | 3", "/ (7: 0, 3: 1, 5: 2, _: 2)"},
		{"2 | 1 | 2 | 0 | _", "/ (2: 0, 1: 1, 0: 3, _: 4)"},
		{"4611686018427387903 | 0", "/ (4611686018427387903: 0, 0: 1, _: -)"},
		{"1 | _ | 2", "/ (1: 0, 2: 1, _: 1)"},
	})
	// Also greater ones than a source has.
	is(t, []api.Node{num(math.MaxInt), num(api.MaxInt + 1), wild()}, nil, "/ (9223372036854775807: 0, 4611686018427387904: 1, _: 2)")
	// A number is no constructor's tag.
	is(t, []api.Node{con("Left", num(1)), con("Right", num(0))}, conses(t), "/ (Left: /0 (1: 0, _: -), Right: /0 (0: 1, _: -))")
}

// P10.1: what stands behind a constructor stands in its column's place, at its path and 0, 1, ..; the first column of the first row that is not any
// is asked.
func TestColumns(t *testing.T) {
	drawings(t, [][2]string{
		{"Box True | _", "/ (Box: /0 (True: 0, _: 1))"},
		{"Box (Box True) | Box (Box False)", "/ (Box: /0 (Box: /0.0 (False: 1, True: 0)))"},
		{"Box (Box (Box (Box 7)))", "/ (Box: /0 (Box: /0.0 (Box: /0.0.0 (Box: /0.0.0.0 (7: 0, _: -)))))"},
		{"Box 3 | Box 4", "/ (Box: /0 (3: 0, 4: 1, _: -))"},
		{"Pair _ True | Pair True _ | _", "/ (Pair: /1 (True: 0, _: /0 (True: 1, _: 2)))"},
		{"Pair True _ | Pair _ True | _", "/ (Pair: /0 (True: 0, _: /1 (True: 1, _: 2)))"},
		{"Pair True True | Pair False False", "/ (Pair: /0 (False: /1 (False: 1, _: -), True: /1 (True: 0, _: -)))"},
		{"Four _ _ 1 _ | Four _ 2 _ 3", "/ (Four: /2 (1: 0, _: /1 (2: /3 (3: 1, _: -), _: -)))"},
		{"Four 1 2 3 4", "/ (Four: /0 (1: /1 (2: /2 (3: /3 (4: 0, _: -), _: -), _: -), _: -))"},
		{"Four x _ y 4 | Four _ _ 3 _", "/ (Four: /3 (4: 0, _: /2 (3: 1, _: -)))"},
		{"Pair (Pair _ A) _ | Pair (Pair B _) C", "/ (Pair: /0 (Pair: /0.1 (A: 0, _: /0.0 (B: /1 (C: 1, _: -), _: -))))"},
		{"Pair _ (Pair A _) | Pair (Pair B _) _", "/ (Pair: /1 (Pair: /1.0 (A: 0, _: /0 (Pair: /0.0 (B: 1, _: -)))))"},
		{"Pair (Pair (Pair 1 2) 3) 4", "/ (Pair: /0 (Pair: /0.0 (Pair: /0.0.0 (1: /0.0.1 (2: /0.1 (3: /1 (4: 0, _: -), _: -), _: -), _: -))))"},
		{"Pair 1 (Pair 2 (Pair 3 4))", "/ (Pair: /0 (1: /1 (Pair: /1.0 (2: /1.1 (Pair: /1.1.0 (3: /1.1.1 (4: 0, _: -), _: -)), _: -)), _: -))"},
		{"Pair A (Pair A (Pair A (Pair A (Pair A A))))", "/ (Pair: /0 (A: /1 (Pair: /1.0 (A: /1.1 (Pair: /1.1.0 (A: /1.1.1 (Pair: /1.1.1.0 (A: /1.1.1.1 (Pair: /1.1.1.1.0 (A: /1.1.1.1.1 (A: 0, _: -), _: -)), _: -)), _: -)), _: -)), _: -))"},
		{"Box (Box (Box (Box (Four 1 _ _ 2)))) | Box (Box (Box (Box (Four _ 3 (Box (Pair 4 5)) _))))", "/ (Box: /0 (Box: /0.0 (Box: /0.0.0 (Box: /0.0.0.0 (Four: /0.0.0.0.0 (1: /0.0.0.0.3 (2: 0, _: " +
			"/0.0.0.0.1 (3: /0.0.0.0.2 (Box: /0.0.0.0.2.0 (Pair: /0.0.0.0.2.0.0 (4: /0.0.0.0.2.0.1 (5: 1, _: -), _: -))), _: -)), _: /0.0.0.0.1 (3: /0.0.0.0.2 (Box: /0.0.0.0.2.0 (Pair: /0.0.0.0.2.0.0 (4: /0.0.0.0.2.0.1 (5: 1, _: -), _: -))), _: -)))))))"},
		{"Left 1 | Right True", "/ (Left: /0 (1: 0, _: -), Right: /0 (True: 1, _: -))"},
		{"Right True | Left 1 | Left _ | Right _", "/ (Left: /0 (1: 1, _: 2), Right: /0 (True: 0, _: 3))"},
	})
}

// P10.1: a row with any there stands behind each Case, as many any in the column's place, and in the Rest, without the column.
func TestRowsWithAny(t *testing.T) {
	drawings(t, [][2]string{
		{"Nil | Cons _ Nil", "/ (Nil: 0, Cons: /1 (Nil: 1, _: -))"},
		{"Nil | _ | Cons _ Nil", "/ (Nil: 0, Cons: 1)"},
		{"Cons True x | Nil | Cons _ Nil | _", "/ (Nil: 1, Cons: /0 (True: 0, _: /1 (Nil: 2, _: 3)))"},
		{"Cons _ (Cons _ _) | _", "/ (Cons: /1 (Cons: 0, _: 1), _: 1)"},
		{"Pair Nil _ | Pair _ Nil | Pair (Cons _ _) (Cons _ _)", "/ (Pair: /0 (Nil: 0, Cons: /1 (Nil: 1, Cons: 2)))"},
		{"Pair 1 2 | Pair 3 4 | Pair _ 5", "/ (Pair: /0 (1: /1 (2: 0, 5: 2, _: -), 3: /1 (4: 1, 5: 2, _: -), _: /1 (5: 2, _: -)))"},
		{"Pair (Yes 1) _ | Pair _ 2 | Pair (Yes _) _", "/ (Pair: /0 (Yes: /0.0 (1: 0, _: /1 (2: 1, _: 2)), _: /1 (2: 1, _: -)))"},
		{"Pair (Yes 1) 2 | Pair x 3 | y", "/ (Pair: /0 (Yes: /0.0 (1: /1 (2: 0, 3: 1, _: 2), _: /1 (3: 1, _: 2)), _: /1 (3: 1, _: 2)))"},
		{"Pair (Node _ 1 _) A | Pair x B | Pair _ C", "/ (Pair: /0 (Node: /0.1 (1: /1 (A: 0, B: 1, C: 2), _: /1 (B: 1, C: 2, _: -)), _: /1 (B: 1, C: 2, _: -)))"},
		{"Both Leaf (Node _ 1 _) | Both (Both _ _) _ | Leaf", "/ (Leaf: 2, Both: /0 (Leaf: /1 (Node: /1.1 (1: 0, _: -), _: -), Both: 1, _: -), _: -)"},
		{"Pair A _ | Pair _ A | Pair B _ | Pair _ B | Pair C C", "/ (Pair: /0 (A: 0, B: /1 (A: 1, B: 2, _: 2), C: /1 (A: 1, B: 3, C: 4)))"},
	})
}
