package tree_test

import (
	"math"
	"slices"
	"testing"

	"selvage/api"
	"selvage/tree"
)

func row(n int) api.Tree { return api.Tree{Row: n} }

// asks is a question at a path.
func asks(path []int, cases ...api.Case) api.Tree { return api.Tree{Path: path, Cases: cases} }

// or is a question with a Rest.
func or(t, rest api.Tree) api.Tree {
	t.Rest = []api.Tree{rest}
	return t
}

func named(name string, t api.Tree) api.Case { return api.Case{Con: name, Tree: t} }

func counted(n int, t api.Tree) api.Case { return api.Case{Number: n, Tree: t} }

// walks holds what a tree tells of a value.
func walks(t *testing.T, of api.Tree, v api.Value, want int) {
	t.Helper()
	if got := tree.Walk(of, v); got != want {
		t.Errorf("%s of %v: %d, not %d", drawn(of), v, got, want)
	}
}

// P10.2: what the trees of rows tell of values.
func TestWalks(t *testing.T) {
	cons := conses(t)
	for _, l := range []struct {
		rows string
		of   map[string]int
	}{
		{"", map[string]int{"True": -1, "1": -1, "Box 1": -1}},
		{"_", map[string]int{"True": 0, "1": 0, "Box 1": 0}},
		{"True | False", map[string]int{"True": 0, "False": 1, "A": -1, "1": -1, "0": -1, "Box True": -1}},
		{"True | _", map[string]int{"True": 0, "False": 1, "A": 1, "7": 1, "Pair 1 2": 1}},
		{"True", map[string]int{"True": 0, "False": -1}},
		{"5 | 0 | 5", map[string]int{"5": 0, "0": 1, "1": -1, "A": -1, "False": -1}},
		{"5 | _ | 6 | 5", map[string]int{"5": 0, "6": 1, "0": 1, "A": 1}},
		{"Nil | Cons _ Nil | Cons _ (Cons _ _)", map[string]int{"Nil": 0, "Cons 1 Nil": 1, "Cons A Nil": 1, "Cons 1 (Cons 2 Nil)": 2, "Cons 1 (Cons 2 (Cons 3 Nil))": 2, "Cons": -1, "Cons 1": -1, "Cons Nil": -1, "Cons 1 2": -1, "Cons 1 A": -1}},
		{"Pair _ True | Pair True _ | _", map[string]int{"Pair 1 True": 0, "Pair False True": 0, "Pair True True": 0, "Pair True False": 1, "Pair True 5": 1, "Pair False False": 2, "Pair True": -1, "Pair": -1, "One": -1}},
		{"Cons _ (Cons 1 (Cons 2 _)) | _", map[string]int{"Cons 0 (Cons 1 (Cons 2 Nil))": 0, "Cons 0 (Cons 1 (Cons 3 Nil))": 1, "Cons 0 (Cons 1 Nil)": 1, "Cons 0 (Cons 2 (Cons 2 Nil))": 1, "Cons 0 Nil": 1, "Nil": 1, "Cons 0": -1, "Cons 0 Cons": -1, "Cons 0 (Cons 1)": -1, "Cons 0 (Cons 1 (Cons 2))": 0}},
		{"Box (Box (Box 3)) | Box (Box _)", map[string]int{"Box (Box (Box 3))": 0, "Box (Box (Box 4))": 1, "Box (Box 3)": -1, "Box (Box Box)": -1, "Box 3": -1, "Box": -1, "Box (Box (Box (Box 3)))": 1}},
	} {
		of := build(t, pats(t, l.rows), cons)
		for s, want := range l.of {
			walks(t, of, val(t, s), want)
		}
	}
}

// P10.2: a tree that tells a row, or none, whatever the value is.
func TestWalksToRows(t *testing.T) {
	for _, v := range []api.Value{{}, {Number: -3}, {Con: "A"}, {Con: "B", Parts: []api.Value{{Number: 1}}}, {Parts: []api.Value{{}}}} {
		for _, n := range []int{0, 1, 19, 20, 1000, math.MaxInt} {
			walks(t, row(n), v, n)
			walks(t, api.Tree{Row: n, Path: []int{}, Cases: []api.Case{}, Rest: []api.Tree{}}, v, n)
		}
		for _, n := range []int{-1, -2, -1000, math.MinInt} {
			walks(t, row(n), v, -1)
		}
	}
}

// P10.2: a question that has neither a Case that fits nor a Rest tells none, whatever row stands there.
func TestWalksToNoCase(t *testing.T) {
	v := api.Value{Con: "A", Parts: []api.Value{{Number: 5}, {Con: "B"}}}
	for _, of := range []api.Tree{
		asks(nil, named("B", row(1))), asks(nil, named("", row(1))), asks(nil, counted(0, row(1))), asks(nil, named("A ", row(1)), named("a", row(2))),
		asks([]int{0}, counted(4, row(1)), counted(-5, row(2)), named("A", row(3))), asks([]int{1}, counted(0, row(1)), counted(5, row(2)), named("A", row(3))),
		asks([]int{0}), asks([]int{1}), asks([]int{2}), asks([]int{0, 0}), or(asks(nil), asks([]int{0})),
	} {
		walks(t, of, v, -1)
		of.Row = 3
		walks(t, of, v, -1)
	}
}

// P10.2: a Case is one of a constructor, if it has a Con, and else of a number; so is a value.
func TestWalksToCases(t *testing.T) {
	of := or(asks(nil, named("A", row(1)), counted(0, row(2)), counted(7, row(3)), counted(-7, row(4)), named("B", row(5)), counted(math.MinInt, row(6)), counted(math.MaxInt, row(7))), row(8))
	for _, l := range []struct {
		v    api.Value
		want int
	}{
		{api.Value{Con: "A"}, 1}, {api.Value{Con: "A", Number: 7}, 1}, {api.Value{Con: "A", Parts: []api.Value{{}}}, 1}, {api.Value{}, 2}, {api.Value{Number: 7}, 3}, {api.Value{Number: -7}, 4}, {api.Value{Con: "B"}, 5},
		{api.Value{Number: math.MinInt}, 6}, {api.Value{Number: math.MaxInt}, 7}, {api.Value{Number: 1}, 8}, {api.Value{Con: "C"}, 8}, {api.Value{Con: "C", Number: 7}, 8}, {api.Value{Con: "AB"}, 8}, {api.Value{Con: "a"}, 8},
	} {
		walks(t, of, l.v, l.want)
		of.Row = 9
		walks(t, of, l.v, l.want)
		of.Row = 0
	}
	// A Case with a Con is none of a number, whatever number it has.
	both := or(asks(nil, api.Case{Con: "A", Number: 7, Tree: row(1)}), row(2))
	walks(t, both, api.Value{Con: "A"}, 1)
	walks(t, both, api.Value{Con: "A", Number: 8}, 1)
	walks(t, both, api.Value{Number: 7}, 2)
	// Of more that fit it is the first one; of more Rests, too.
	twice := asks(nil, named("B", row(0)), named("A", row(1)), named("A", row(2)), counted(1, row(3)), counted(1, row(4)))
	twice.Rest = []api.Tree{row(5), row(6)}
	walks(t, twice, api.Value{Con: "A"}, 1)
	walks(t, twice, api.Value{Number: 1}, 3)
	walks(t, twice, api.Value{Number: 2}, 5)
	// What fits and tells none goes to no Rest.
	walks(t, or(asks(nil, named("A", row(-1))), row(1)), api.Value{Con: "A"}, -1)
	walks(t, or(asks(nil, named("A", asks([]int{0}, counted(1, row(1))))), row(2)), api.Value{Con: "A", Parts: []api.Value{{Number: 2}}}, -1)
}

// P10.2: of a value that has not what a question's path leads to none is told, also where there is a Rest.
func TestWalksToPathsThatThereAreNot(t *testing.T) {
	v := api.Value{Con: "A", Parts: []api.Value{{Con: "B", Parts: []api.Value{{Number: 1}, {Number: 2}}}, {Number: 3}}}
	for _, l := range []struct {
		path []int
		want int
	}{
		{nil, 3}, {[]int{0}, 4}, {[]int{1}, 2}, {[]int{0, 0}, 0}, {[]int{0, 1}, 1},
		{[]int{2}, -1}, {[]int{-1}, -1}, {[]int{0, 2}, -1}, {[]int{0, -1}, -1}, {[]int{1, 0}, -1}, {[]int{0, 0, 0}, -1}, {[]int{2, 0}, -1}, {[]int{-1, 0}, -1}, {[]int{math.MinInt}, -1}, {[]int{math.MaxInt}, -1}, {[]int{0, math.MaxInt}, -1}, {[]int{1 << 32}, -1}, {[]int{1<<32 + 1}, -1},
	} {
		cases := []api.Case{counted(1, row(0)), counted(2, row(1)), counted(3, row(2)), named("A", row(3)), named("B", row(4))}
		walks(t, asks(l.path, cases...), v, l.want)
		walks(t, or(asks(l.path, cases...), row(5)), v, l.want)
		// Behind another question, too; a path leads from the value itself on.
		walks(t, asks([]int{0}, named("B", asks(l.path, cases...))), v, l.want)
		rest := 5
		if l.want < 0 {
			rest = -1
		}
		walks(t, or(asks(l.path), row(5)), v, rest)
	}
}

// P10.2: a tree may be 60 deep.
func TestDeepWalks(t *testing.T) {
	v := api.Value{Con: "A", Parts: []api.Value{{Number: 1}}}
	for _, around := range []func(t api.Tree, i int) api.Tree{
		func(t api.Tree, i int) api.Tree { return asks(nil, named("A", t)) },
		func(t api.Tree, i int) api.Tree {
			return asks([]int{0}, counted(0, row(3)), counted(1, t), counted(2, row(4)))
		},
		func(t api.Tree, i int) api.Tree { return or(asks(nil), t) },
		func(t api.Tree, i int) api.Tree { return or(asks(nil, named("B", row(2))), t) },
		func(t api.Tree, i int) api.Tree {
			if i%2 == 0 {
				return or(asks([]int{0}, counted(0, row(2))), t)
			}
			return or(asks(nil, named("A", t)), row(4))
		},
	} {
		of := row(7)
		for deep := 1; deep <= 200; deep++ {
			want := 7
			if deep > 60 {
				want = -1
			}
			walks(t, of, v, want)
			of = around(of, deep)
		}
	}
}

// P10.2: it is the way that is walked that may be no deeper.
func TestWalksBesideDeepOnes(t *testing.T) {
	deep := row(1)
	for range 100 {
		deep = or(asks(nil), deep)
	}
	of := or(asks(nil, named("A", row(0))), deep)
	walks(t, of, api.Value{Con: "A"}, 0)
	walks(t, of, api.Value{Con: "B"}, -1)
}

// P10.1, P10.2: rows may have a tree that is deeper; of what is told that deep none is.
func TestTreesThatAreTooDeepToWalk(t *testing.T) {
	cons := conses(t)
	rows := []api.Node{con("Four", boxes(18, num(1)), wild(), wild(), wild()), con("Four", wild(), boxes(18, num(1)), wild(), wild()), con("Four", wild(), wild(), boxes(18, num(1)), wild()), wild()}
	of := build(t, rows, cons)
	if many := trees(of); many != 62 {
		t.Fatal(many)
	}
	boxed := func(n int) api.Value {
		v := api.Value{Number: n}
		for range 18 {
			v = api.Value{Con: "Box", Parts: []api.Value{v}}
		}
		return v
	}
	for i, want := range []int{0, 1, 2, 3} {
		v := api.Value{Con: "Four", Parts: []api.Value{boxed(2), boxed(2), boxed(2), boxed(2)}}
		v.Parts[i] = boxed(1)
		walks(t, of, v, want)
	}
	// Two boxes more are two questions more.
	for i := range 3 {
		rows[i].Kids[i] = boxes(20, num(1))
	}
	boxed = func(n int) api.Value {
		v := api.Value{Number: n}
		for range 20 {
			v = api.Value{Con: "Box", Parts: []api.Value{v}}
		}
		return v
	}
	of = build(t, rows, cons)
	for i, want := range []int{0, 1, -1, -1} {
		v := api.Value{Con: "Four", Parts: []api.Value{boxed(2), boxed(2), boxed(2), boxed(2)}}
		v.Parts[i] = boxed(1)
		walks(t, of, v, want)
	}
}

// R1: trees and values that stand within themselves, and that are wide, and long paths.
func TestWalksEnd(t *testing.T) {
	v := api.Value{Con: "A", Parts: make([]api.Value, 2)}
	v.Parts[0], v.Parts[1] = v, api.Value{Number: 4}
	for _, last := range []int{0, 1} {
		of := api.Tree{Row: 3, Rest: make([]api.Tree, 1)}
		of.Rest[0] = of
		walks(t, of, v, -1)
		of = api.Tree{Row: 3, Path: []int{last}, Cases: make([]api.Case, 1), Rest: make([]api.Tree, 1)}
		of.Cases[0], of.Rest[0] = api.Case{Con: "A", Tree: of}, of
		walks(t, of, v, -1)
	}
	long := make([]int, 1<<20)
	walks(t, asks(long, named("A", row(1))), v, 1)
	walks(t, asks(append(long, 1), counted(4, row(2))), v, 2)
	walks(t, or(asks(append(long, 1, 0)), row(2)), v, -1)
	walks(t, or(asks(append(long, 2)), row(2)), v, -1)
	var wide []api.Case
	for i := range 1 << 16 {
		wide = append(wide, counted(i, row(i)))
	}
	walks(t, asks(nil, wide...), api.Value{Number: 65535}, 65535)
	walks(t, asks(nil, wide...), api.Value{Number: 65536}, -1)
	walks(t, asks([]int{65535}, counted(4, row(1))), api.Value{Con: "B", Parts: slices.Repeat([]api.Value{{Number: 4}}, 1<<16)}, 1)
}
