package cover_test

import (
	"math"
	"strconv"
	"strings"
	"testing"

	"selvage/api"
	"selvage/cover"
	"selvage/infer"
	"selvage/parse"
)

// types are declarations of types for the tests: of one constructor and of more of them, with nothing behind a constructor and with as much as may be.
const types = "type one = One; type box a = Box of a; type pair a b = Pair of a, b; type four = Four of int, int, int, int; " +
	"type opt a = No | Yes of a; type list a = Nil | Cons of a, list a; type sum a b = Left of a | Right of b; " +
	"type tri = A | B | C; type tree = Leaf | Node of tree, int, tree | Both of tree, tree; "

// conses are the constructors of some declarations, and False and True.
func conses(t testing.TB, declared string) []api.Con {
	t.Helper()
	n, at, e := parse.Program(declared + "do 1")
	if e != api.OK {
		t.Fatalf("%s: %d, %v", declared, at, e)
	}
	r, at, e := infer.Program(n)
	if e != api.OK {
		t.Fatalf("%s: %d, %v", declared, at, e)
	}
	return r.Cons
}

// pats are patterns as a source has them, with a bar between.
func pats(t testing.TB, s string) []api.Node {
	t.Helper()
	if s == "" {
		return nil
	}
	n, at, e := parse.Program("do match x with | " + strings.ReplaceAll(s, "|", "-> 1 |") + " -> 1 end")
	if e != api.OK {
		t.Fatalf("%s: %d, %v", s, at, e)
	}
	var rows []api.Node
	for i := 1; i < len(n.Kids[0].Kids); i += 2 {
		rows = append(rows, n.Kids[0].Kids[i])
	}
	return rows
}

// is holds what Check tells of rows.
func is(t *testing.T, rows []api.Node, cons []api.Con, at int, e api.Errno) {
	t.Helper()
	if n, f := cover.Check(rows, cons); n != at || f != e {
		t.Errorf("%s: %d, %v, not %d, %v", shown(rows), n, f, at, e)
	}
}

// shown is rows as a source has them.
func shown(rows []api.Node) string {
	var l []string
	for _, r := range rows {
		l = append(l, pattern(r, false))
	}
	return strings.Join(l, " | ")
}

// pattern is a pattern as a source has it.
func pattern(n api.Node, inner bool) string {
	switch n.Kind {
	case api.NodeAny:
		return "_"
	case api.NodeInt:
		return strconv.Itoa(n.Number)
	}
	s := n.Text
	for _, k := range n.Kids {
		s += " " + pattern(k, true)
	}
	if inner && len(n.Kids) > 0 {
		return "(" + s + ")"
	}
	return s
}

func con(name string, kids ...api.Node) api.Node {
	return api.Node{Kind: api.NodeCon, Text: name, Kids: kids}
}

func num(n int) api.Node { return api.Node{Kind: api.NodeInt, Number: n} }

func name(s string) api.Node { return api.Node{Kind: api.NodeName, Text: s} }

func wild() api.Node { return api.Node{Kind: api.NodeAny} }

// P9.1: rows that leave nothing out, and are all reached.
func TestWholeMatches(t *testing.T) {
	cons := conses(t, types)
	for _, s := range []string{
		"_", "x", "True | False", "False | True", "True | _", "False | x", "0 | _", "0 | 1 | x", "7 | 0 | 1000 | _",
		"One", "Box _", "Box x", "Box True | Box False", "Box 1 | Box _", "Box 1 | _", "Box (Box (Box One))", "Box (Box True) | Box (Box False)", "Box (Box 1) | Box _", "Box (Box 1) | Box (Box _)",
		"Pair _ _", "Pair True _ | Pair False _", "Pair _ True | Pair _ False", "Pair True _ | Pair _ True | Pair False False", "Pair True x | Pair False True | Pair _ False", "Pair 1 _ | Pair _ 1 | _",
		"Pair True False | Pair False True | Pair x True | Pair y False", "Pair 1 2 | Pair 1 _ | Pair _ 2 | Pair _ _", "Pair (Pair True _) _ | Pair (Pair _ True) x | Pair _ _",
		"Four 1 2 3 4 | Four 1 2 3 _ | Four 1 2 _ 4 | Four 1 _ 3 4 | Four _ 2 3 4 | _", "Four _ _ _ _", "Four 0 _ _ _ | Four _ 0 _ _ | Four _ _ 0 _ | Four _ _ _ 0 | Four _ _ _ _",
		"No | Yes _", "Yes _ | No", "Yes True | No | Yes False", "Yes (Yes True) | No | Yes No | Yes (Yes False)", "Yes 3 | No | Yes x", "Yes 3 | Yes 4 | _", "No | Yes No | Yes (Yes No) | Yes (Yes (Yes _))",
		"Nil | Cons _ _", "Nil | Cons _ Nil | Cons _ (Cons _ _)", "Nil | Cons x Nil | Cons x (Cons y Nil) | Cons x (Cons y (Cons z l))", "Cons 1 _ | Nil | Cons _ Nil | Cons x (Cons 1 _) | Cons x (Cons y l)",
		"Cons True l | Cons False Nil | Nil | Cons False (Cons _ _)", "Cons _ (Cons _ _) | Nil | _", "Nil | Cons (Cons True _) _ | Cons Nil Nil | Cons _ (Cons Nil _) | Cons _ _",
		"Left _ | Right _", "Left True | Right 1 | Left False | Right _", "Left 1 | Right True | _", "Left (Left 1) | Right _ | Left _", "Left Nil | Left (Cons _ _) | Right One",
		"A | B | C", "C | A | B", "B | _", "B | A | _", "B | A | x", "Pair A B | Pair B A | Pair C _ | Pair _ C | Pair A A | Pair B B", "Pair A _ | Pair _ A | Pair B _ | Pair _ B | Pair C C",
		"Leaf | Node _ _ _ | Both _ _", "Node Leaf 1 _ | Both _ Leaf | Leaf | Node _ _ Leaf | Both Leaf (Both _ _) | _", "Both Leaf _ | Both _ Leaf | Both (Node _ _ _) _ | Both (Both _ _) _ | Node _ 0 _ | Node _ _ _ | Leaf",
	} {
		is(t, pats(t, s), cons, 0, api.OK)
	}
}

// P9.1: rows that leave something out.
func TestMatchesThatLeaveSomethingOut(t *testing.T) {
	cons := conses(t, types)
	for _, s := range []string{
		"", "True", "False", "0", "0 | 1", "1 | 0 | 2 | 3", "Box True", "Box 1", "Box (Box 1) | Box (Box 2)", "Box (Box True)",
		"Pair True _", "Pair True _ | Pair _ True", "Pair _ False | Pair False _", "Pair True True | Pair False False", "Pair True False | Pair False True | Pair True True", "Pair 1 _ | Pair _ 1", "Pair 1 x | Pair 2 x",
		"Pair (Pair True _) _ | Pair (Pair _ True) _", "Pair 0 True | Pair _ False", "Pair True 0 | Pair True _ | Pair False 0", "Four 1 _ _ _ | Four _ 1 _ _ | Four _ _ 1 _ | Four _ _ _ 1", "Four _ _ _ 0",
		"No", "Yes _", "Yes True | No", "No | Yes (Yes _)", "No | Yes No | Yes (Yes True)", "No | Yes 1 | Yes 2", "Yes x",
		"Nil", "Cons _ _", "Nil | Cons _ Nil", "Nil | Cons _ (Cons _ _)", "Cons _ Nil | Cons _ (Cons _ _)", "Nil | Cons 1 _", "Nil | Cons True _ | Cons _ Nil", "Nil | Cons _ Nil | Cons _ (Cons _ (Cons _ _))",
		"Left _", "Right _", "Left 1 | Right _", "Left _ | Right True", "Left True | Right _",
		"A | B", "A | C", "B | C", "A", "C", "Pair A _ | Pair _ A | Pair B B | Pair C C | Pair B C", "Pair A _ | Pair B _ | Pair C A | Pair C B",
		"Leaf", "Leaf | Both _ _", "Leaf | Node _ _ _", "Both _ _ | Node _ _ _", "Leaf | Node _ 1 _ | Both _ _", "Leaf | Both Leaf _ | Both _ Leaf | Node _ _ _", "Leaf | Node Leaf _ _ | Node _ _ Leaf | Both _ _",
	} {
		is(t, pats(t, s), cons, 0, api.ErrCover)
	}
}

// P9.1: rows of which one is reached by nothing: the first such one's place is told, whether the rows leave something out or not.
func TestRowsThatNothingReaches(t *testing.T) {
	cons := conses(t, types)
	for _, l := range []struct {
		s  string
		at int
	}{
		{"_ | _", 1}, {"x | x", 1}, {"x | y", 1}, {"_ | True", 1}, {"x | 0", 1}, {"True | _ | False", 2}, {"_ | True | False", 1}, {"True | False | _", 2}, {"False | True | x", 2}, {"True | False | True", 2},
		{"True | True", 1}, {"True | True | False", 1}, {"False | True | False | True", 2}, {"True | True | True", 1}, {"0 | 0", 1}, {"0 | 1 | 0", 2}, {"0 | 1 | 2 | 1 | 2", 3}, {"0 | 1 | _ | 2", 3}, {"3 | _ | 3 | _", 2},
		{"One | One", 1}, {"One | _", 1}, {"_ | One", 1}, {"Box _ | _", 1}, {"_ | Box _", 1}, {"Box x | Box y", 1}, {"Box 1 | Box 2 | Box 1", 2}, {"Box True | Box False | _", 2}, {"Box True | Box False | Box _", 2}, {"Box (Box _) | Box _", 1},
		{"Box 1 | Box _ | Box 2", 2}, {"Box (Box 1) | _ | Box (Box 2)", 2}, {"Box One | _", 1}, {"Box (Box One) | Box _", 1},
		{"Pair _ _ | Pair True True", 1}, {"Pair True _ | Pair True True", 1}, {"Pair _ True | Pair True True", 1}, {"Pair True _ | Pair False _ | Pair _ _", 2}, {"Pair True _ | Pair False _ | _", 2}, {"Pair _ True | Pair _ False | Pair True _", 2},
		{"Pair True _ | Pair _ True | Pair True True", 2}, {"Pair True _ | Pair _ True | Pair False True", 2}, {"Pair True True | Pair True False | Pair True _", 2}, {"Pair True True | Pair True False | Pair True x | Pair False _", 2},
		{"Pair True True | Pair False True | Pair _ True | Pair _ False", 2}, {"Pair True _ | Pair _ True | Pair False False | _", 3}, {"Pair 1 _ | Pair 1 2", 1}, {"Pair 1 _ | Pair 2 1 | Pair 1 1", 2}, {"Pair 1 2 | Pair _ 2 | Pair 3 2", 2},
		{"Pair (Pair _ True) _ | Pair (Pair _ False) 1 | Pair (Pair True _) 1", 2}, {"Four _ _ _ 1 | Four 1 2 3 1", 1}, {"Four 1 _ _ _ | Four _ 2 _ _ | Four 1 2 3 4", 2}, {"Four 1 2 3 4 | Four 1 2 3 4", 1},
		{"No | No", 1}, {"No | Yes _ | _", 2}, {"No | Yes _ | No", 2}, {"Yes _ | Yes 1", 1}, {"Yes True | Yes False | Yes _", 2}, {"Yes True | Yes False | Yes True | No", 2}, {"No | Yes No | Yes (Yes _) | Yes _", 3}, {"_ | No | Yes _", 1},
		{"Nil | Cons _ _ | Cons _ Nil", 2}, {"Nil | Cons _ _ | _", 2}, {"Nil | Cons _ Nil | Cons _ (Cons _ _) | Cons _ _", 3}, {"Cons True _ | Cons False Nil | Cons False (Cons _ _) | Cons _ _ | Nil", 3}, {"Cons _ _ | Cons 1 Nil | Nil", 1},
		{"Cons _ (Cons _ _) | Cons _ (Cons _ (Cons _ _))", 1}, {"Cons _ Nil | Cons 1 (Cons _ _) | Cons 1 Nil", 2}, {"Cons _ Nil | Cons _ (Cons _ Nil) | Cons 1 (Cons 2 Nil)", 2},
		{"Left _ | Right _ | Left 1", 2}, {"Left 1 | Left _ | Left 2 | Right True", 2}, {"Left 1 | Right True | Right _ | Right False", 3}, {"Left _ | Right _ | _", 2},
		{"A | B | C | _", 3}, {"A | B | A", 2}, {"A | _ | B", 2}, {"Pair A _ | Pair B _ | Pair C _ | _", 3}, {"Pair A _ | Pair _ A | Pair A A", 2}, {"Pair A _ | Pair B _ | Pair C A | Pair _ A", 3}, {"Pair A _ | Pair B A | Pair C A | Pair _ A | _", 3},
		{"Leaf | Node _ _ _ | Both _ _ | _", 3}, {"Node _ 1 _ | Node Leaf 1 Leaf", 1}, {"Both Leaf _ | Both _ Leaf | Both Leaf Leaf | _", 2}, {"Both _ _ | Both Leaf _ | Leaf", 1}, {"Leaf | Node Leaf _ _ | Node (Node _ _ _) _ _ | Node (Both _ _) _ _ | Node _ 1 _", 4},
	} {
		is(t, pats(t, l.s), cons, l.at, api.ErrUseless)
	}
	// A row behind doesn't count, and a row that means something of its own, beside what others do, is reached.
	for _, s := range []string{"True | _", "1 | 2 | _", "Pair True True | Pair True _ | Pair _ True | _", "Nil | Cons _ Nil | _", "Box 1 | Box 2 | _", "Pair 1 2 | Pair _ 2 | Pair 1 _ | _"} {
		is(t, pats(t, s), cons, 0, api.OK)
	}
}

// The chapter's examples.
func TestExamples(t *testing.T) {
	cons := conses(t, "type list a = Nil | Cons of a, list a; ")
	is(t, pats(t, "True | False"), cons, 0, api.OK)
	is(t, pats(t, "True | _ | False"), cons, 2, api.ErrUseless)
	is(t, pats(t, "Nil | Cons _ Nil"), cons, 0, api.ErrCover)
	is(t, pats(t, "0 | 1"), cons, 0, api.ErrCover)
}

// P9.1: numbers, up to the greatest one there is; however many they are, there are others.
func TestNumbers(t *testing.T) {
	great := []int{0, 1, math.MaxInt, math.MaxInt - 1, api.MaxInt, api.MaxInt + 1, math.MaxInt32, 1 << 40}
	var rows []api.Node
	for i, n := range great {
		rows = append(rows, num(n))
		is(t, rows, nil, 0, api.ErrCover)
		is(t, append(rows[:i+1:i+1], wild()), nil, 0, api.OK)
		is(t, append(rows[:i+1:i+1], name("x"), num(n)), nil, i+2, api.ErrUseless)
		for _, m := range great[:i+1] {
			is(t, append(rows[:i+1:i+1], num(m)), nil, i+1, api.ErrUseless)
		}
	}
	// A number is no constructor's tag.
	cons := conses(t, types)
	is(t, []api.Node{con("Left", num(0)), con("Right", num(0)), con("Left", num(1)), con("Right", num(1))}, cons, 0, api.ErrCover)
	is(t, []api.Node{con("Left", num(0)), con("Right", num(0)), con("Left", wild()), con("Right", wild())}, cons, 0, api.OK)
}

// What is of one place goes together; at unlike places stands what may.
func TestPlacesAreOfTheirOwn(t *testing.T) {
	cons := conses(t, types)
	for _, s := range []string{
		"Pair 1 True | Pair 2 False | _", "Pair (Cons 1 Nil) (Cons True Nil) | _", "Left 1 | Right True | Left _ | Right _", "Left True | Right 1 | Left False | Right _", "Left (Yes 1) | Right (Yes True) | _",
		"Cons 1 Nil | Cons 2 (Cons True Nil) | _", "Pair _ 1 | Pair True _ | _", "Pair True 1 | Pair _ 2 | Pair False _ | _", "Yes (Left 1) | Yes (Right A) | Yes (Left 2) | Yes (Right B) | _",
		"Both (Both Leaf _) _ | Node Leaf 1 Leaf | _", "Pair (Left 1) (Left A) | Pair (Right A) (Left B) | Pair (Left _) (Left C) | Pair (Right B) (Right 4) | _",
	} {
		is(t, pats(t, s), cons, 0, api.OK)
	}
}

// A match of a type of many constructors, each with as many things behind it as may be.
func TestManyConstructors(t *testing.T) {
	for _, many := range []int{1, 2, 3, 7, 19, 20} {
		for arity := range api.MaxArity + 1 {
			var cons []api.Con
			var rows []api.Node
			for tag := range many {
				cons = append(cons, api.Con{Name: "K" + strconv.Itoa(tag), Of: "k", Tag: tag, Arity: arity, Many: many})
				rows = append(rows, con("K"+strconv.Itoa(tag), wilds(arity)...))
			}
			is(t, rows, cons, 0, api.OK)
			for i := range rows {
				less := append(rows[:i:i], rows[i+1:]...)
				is(t, less, cons, 0, api.ErrCover)
				is(t, append(less[:many-1:many-1], wild()), cons, 0, api.OK)
				twice := append(rows[:many-1:many-1], rows[i])
				if i < many-1 {
					is(t, twice, cons, many-1, api.ErrUseless)
				}
				if many < 20 {
					is(t, append(rows[:many:many], rows[i]), cons, many, api.ErrUseless)
				}
			}
			if many < 20 {
				is(t, append(rows[:many:many], wild()), cons, many, api.ErrUseless)
			}
		}
	}
	// More constructors than there may be rows.
	var cons []api.Con
	var rows []api.Node
	for tag := range 300 {
		cons = append(cons, api.Con{Name: "K" + strconv.Itoa(tag), Of: "k", Tag: tag, Many: 300})
		if tag < 20 {
			rows = append(rows, con("K"+strconv.Itoa(tag)))
		}
	}
	is(t, rows, cons, 0, api.ErrCover)
	is(t, append(rows[:19:19], wild()), cons, 0, api.OK)
	is(t, append(rows[:18:18], wild(), con("K299")), cons, 19, api.ErrUseless)
}

// wilds are as many patterns of any value.
func wilds(many int) []api.Node {
	var l []api.Node
	for range many {
		l = append(l, wild())
	}
	return l
}
