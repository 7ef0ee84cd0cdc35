package tree_test

import (
	"go/ast"
	"go/parser"
	"go/token"
	"math"
	"path/filepath"
	"reflect"
	"slices"
	"strings"
	"testing"

	"selvage/api"
	"selvage/tree"
)

// R1: Build ends, and does not panic, of rows that stand within themselves, or are too deep or too wide to be gone through whole.
func TestBuildEnds(t *testing.T) {
	cons := conses(t)
	var l []api.Node
	for _, c := range []struct {
		name  string
		arity int
	}{{"Box", 1}, {"Pair", 2}, {"Four", 4}, {"Cons", 2}} {
		n, last := con(c.name, wilds(c.arity)...), con(c.name, wilds(c.arity)...)
		for i := range n.Kids {
			n.Kids[i] = n
		}
		last.Kids[c.arity-1] = last
		l = append(l, n, last)
	}
	for _, kind := range []int{api.NodeAny, api.NodeName, api.NodeInt, api.NodeMatch, 0} {
		n := api.Node{Kind: kind, Kids: make([]api.Node, 1)}
		n.Kids[0] = n
		l = append(l, n)
	}
	twice := wild()
	for range 100 {
		twice = con("Pair", twice, twice)
	}
	l = append(l, twice, boxes(1<<18, wild()), con("Pair", wilds(1<<18)...), con(strings.Repeat("x", 1<<20)))
	for _, n := range l {
		for _, rows := range [][]api.Node{{n}, {wild(), n}, {n, n}, {con("Box", wild()), con("Box", n)}, slices.Repeat([]api.Node{n}, 1000)} {
			for _, cons := range [][]api.Con{cons, nil, cons[1:]} {
				if got, e := tree.Build(rows, cons); e != api.ErrArg || drawn(got) != "0" {
					t.Errorf("%s, %v", drawn(got), e)
				}
			}
		}
	}
	for _, n := range []int{math.MinInt, -1, 5, math.MaxInt} {
		for _, c := range []api.Con{{Name: "K", Of: "k", Many: n}, {Name: "K", Of: "k", Many: 1, Arity: n}, {Name: "K", Of: "k", Many: 1, Tag: n}} {
			refused(t, []api.Node{con("K")}, []api.Con{c}, api.ErrArg)
			refused(t, []api.Node{wild()}, []api.Con{c}, api.ErrArg)
		}
	}
}

// zero holds that of a tree each field is zero that has no meaning: of one that tells a row, or none, all but that; of a question the row, and of each
// Case the constructor or the number. It tells how many trees there are.
func zero(t *testing.T, of api.Tree, cons []api.Con) int {
	t.Helper()
	if len(of.Cases) == 0 {
		if len(of.Path) > 0 || len(of.Rest) > 0 || of.Row < -1 {
			t.Errorf("%+v", of)
		}
		return 1
	}
	many := 1
	if of.Row != 0 || len(of.Rest) > 1 {
		t.Errorf("%+v", of)
	}
	for _, c := range of.Cases {
		if c.Con != "" && (c.Number != 0 || found(cons, c.Con).Name != c.Con) {
			t.Errorf("%+v", c)
		}
		many += zero(t, c.Tree, cons)
	}
	for _, r := range of.Rest {
		many += zero(t, r, cons)
	}
	return many
}

// R3: each field of a tree that has no meaning is zero; so is all of a tree beside an error.
func TestFieldsAreZero(t *testing.T) {
	cons := conses(t)
	for _, rows := range matches(t) {
		of := build(t, rows, cons)
		if many := zero(t, of, cons); many != trees(of) {
			t.Errorf("%s: %d trees", shown(rows), many)
		}
	}
	for _, rows := range [][]api.Node{stairs(8, 9), append(stairs(8, 9), num(1)), pats(t, "True | 1"), {{}}} {
		got, e := tree.Build(rows, cons)
		if e == api.OK || !reflect.DeepEqual(got, api.Tree{}) {
			t.Errorf("%s: %+v, %v", shown(rows), got, e)
		}
	}
}

// taken makes a node of its own, with spare room behind each list.
func taken(n api.Node) api.Node {
	kids := make([]api.Node, 0, len(n.Kids)+3)
	for _, k := range n.Kids {
		kids = append(kids, taken(k))
	}
	kids = append(kids, num(77), num(77), num(77))
	n.Kids = kids[:len(n.Kids)]
	n.Names = append(make([]string, 0, len(n.Names)+1), append(slices.Clone(n.Names), "spare")...)[:len(n.Names)]
	return n
}

// spared tells whether a node that was taken is as it was, and so is the spare room behind each list.
func spared(n, was api.Node) bool {
	if n.Kind != was.Kind || n.Text != was.Text || n.Number != was.Number || n.At != was.At || !slices.Equal(n.Names[:len(n.Names)+1], append(slices.Clone(was.Names), "spare")) || len(n.Kids) != len(was.Kids) {
		return false
	}
	for i, k := range n.Kids[:len(n.Kids)+3] {
		if i < len(was.Kids) && !spared(k, was.Kids[i]) || i >= len(was.Kids) && !reflect.DeepEqual(k, num(77)) {
			return false
		}
	}
	return true
}

// R4: what is handed in to Build is not changed, its spare room neither; and it is not kept.
func TestRowsAreLeftAlone(t *testing.T) {
	cons := conses(t)
	for _, was := range append(matches(t), stairs(8, 9), pats(t, "True | 1")) {
		want, f := tree.Build(was, cons)
		text := drawn(want)
		rows := make([]api.Node, 0, len(was)+1)
		for _, r := range was {
			rows = append(rows, taken(r))
		}
		rows = append(rows, num(77))[:len(was)]
		handed := append(make([]api.Con, 0, len(cons)+1), cons...)
		got, e := tree.Build(rows, handed)
		if e != f || drawn(got) != text {
			t.Errorf("%s: %s, %v", shown(was), drawn(got), e)
		}
		for i, r := range rows {
			if !spared(r, was[i]) {
				t.Errorf("%s: row %d has changed", shown(was), i)
			}
		}
		if !slices.Equal(handed, cons) || handed[:len(cons)+1][len(cons)] != (api.Con{}) || !reflect.DeepEqual(rows[:len(was)+1][len(was)], num(77)) {
			t.Errorf("%s: what is behind has changed", shown(was))
		}
		// The same memory with something else in it.
		for _, r := range rows {
			clear(r.Kids)
		}
		clear(rows)
		clear(handed)
		if drawn(got) != text {
			t.Errorf("%s: %s", shown(was), drawn(got))
		}
	}
}

// overwrites overwrites all lists of a tree from within, their spare room, too, by a number.
func overwrites(of api.Tree, n int) {
	path := of.Path[:cap(of.Path)]
	for i := range path {
		path[i] = n
	}
	for _, c := range of.Cases[:cap(of.Cases)] {
		overwrites(c.Tree, n)
	}
	for _, r := range of.Rest[:cap(of.Rest)] {
		overwrites(r, n)
	}
	for i := range of.Cases[:cap(of.Cases)] {
		of.Cases[:cap(of.Cases)][i] = counted(n, row(n))
	}
	for i := range of.Rest[:cap(of.Rest)] {
		of.Rest[:cap(of.Rest)][i] = row(n)
	}
}

// numbered puts numbers of its own into each path in a tree, the spare room, too; it tells the next one.
func numbered(of api.Tree, next int) int {
	path := of.Path[:cap(of.Path)]
	for i := range path {
		path[i] = next
		next++
	}
	for _, c := range of.Cases {
		next = numbered(c.Tree, next)
	}
	for _, r := range of.Rest {
		next = numbered(r, next)
	}
	return next
}

// asNumbered tells the next number, too; and false, if a path's numbers are not those that were put into it.
func asNumbered(of api.Tree, next int) (int, bool) {
	all := true
	for _, n := range of.Path[:cap(of.Path)] {
		all = all && n == next
		next++
	}
	for _, l := range [][]api.Tree{caseTrees(of), of.Rest} {
		for _, r := range l {
			n, is := asNumbered(r, next)
			next, all = n, all && is
		}
	}
	return next, all
}

func caseTrees(of api.Tree) []api.Tree {
	var l []api.Tree
	for _, c := range of.Cases {
		l = append(l, c.Tree)
	}
	return l
}

// R4: what is answered is new memory: no two lists in it share any, nor do they with what is answered later.
func TestTreesAreNew(t *testing.T) {
	cons := conses(t)
	for _, rows := range matches(t) {
		text := drawn(build(t, rows, cons))
		of, other := build(t, rows, cons), build(t, rows, cons)
		numbered(of, 1000)
		if _, is := asNumbered(of, 1000); !is {
			t.Errorf("%s: paths share memory", shown(rows))
		}
		overwrites(of, 77)
		if drawn(other) != text || drawn(build(t, rows, cons)) != text {
			t.Errorf("%s: trees share memory", shown(rows))
		}
	}
}

// R4: Walk changes nothing.
func TestWalkLeavesAllAlone(t *testing.T) {
	cons := conses(t)
	of := build(t, pats(t, "Cons _ (Cons 1 (Cons 2 _)) | Nil | Cons 3 _"), cons)
	text := drawn(of)
	for _, s := range []string{"Cons 0 (Cons 1 (Cons 2 Nil))", "Nil", "Cons 3 Nil", "Cons 3", "7", "Cons 3 (Cons 1 (Cons 3 Nil))"} {
		v := val(t, s)
		was := val(t, s)
		tree.Walk(of, v)
		if drawn(of) != text || !reflect.DeepEqual(v, was) {
			t.Errorf("%s: something has changed", s)
		}
	}
}

// R4: what is handed in to Names is not changed and not kept; what is answered is new memory.
func TestNamesAreNew(t *testing.T) {
	was := pats(t, "Four (Cons x (Cons y _)) z (Pair 1 (Pair u v)) w")[0]
	was.Names = []string{"m"}
	want := placed(tree.Names(was))
	n := taken(was)
	l, other := tree.Names(n), tree.Names(n)
	if !spared(n, was) || placed(l) != want {
		t.Error(placed(l))
	}
	clear(n.Kids)
	next := 0
	for _, p := range l {
		for i := range p.Path[:cap(p.Path)] {
			p.Path[:cap(p.Path)][i] = next
			next++
		}
	}
	next = 0
	for _, p := range l {
		for _, at := range p.Path[:cap(p.Path)] {
			if at != next {
				t.Error("paths share memory")
			}
			next++
		}
	}
	clear(l[:cap(l)])
	if placed(other) != want || placed(tree.Names(was)) != want {
		t.Error(placed(other))
	}
}

// emptied is a node with empty lists in the place of nil, or nil in the place of empty ones.
func emptied(n api.Node, nils bool) api.Node {
	kids := []api.Node{}
	for _, k := range n.Kids {
		kids = append(kids, emptied(k, !nils))
	}
	n.Names, n.Kids = []string{}, kids
	if nils {
		n.Names = nil
		if len(kids) == 0 {
			n.Kids = nil
		}
	}
	return n
}

// R4: nil and empty lists are one.
func TestNilAndEmptyListsAreOne(t *testing.T) {
	cons := conses(t)
	for _, was := range matches(t) {
		want := drawn(build(t, was, cons))
		for _, nils := range []bool{false, true} {
			rows := []api.Node{}
			for i, r := range was {
				rows = append(rows, emptied(r, nils != (i%2 == 0)))
			}
			is(t, rows, cons, want)
			for i, r := range rows {
				has(t, r, placed(tree.Names(was[i])))
			}
		}
	}
	is(t, nil, nil, "-")
	is(t, []api.Node{}, []api.Con{}, "-")
	is(t, []api.Node{wild()}, []api.Con{}, "0")
	for _, of := range []api.Tree{{Row: 3}, {Row: 3, Path: []int{}, Cases: []api.Case{}, Rest: []api.Tree{}}, {Path: []int{}, Cases: []api.Case{}, Rest: []api.Tree{{Row: 3}}}, {Rest: []api.Tree{{Row: 3, Cases: []api.Case{}}}}} {
		for _, v := range []api.Value{{}, {Parts: []api.Value{}}} {
			walks(t, of, v, 3)
		}
	}
}

// R5: the same arguments tell the same, whatever was told ahead; neither their capacities nor the order of the constructors counts.
func TestSameCallsTellTheSame(t *testing.T) {
	cons := conses(t)
	all := append(matches(t), stairs(8, 9))
	for _, rows := range all {
		of, e := tree.Build(rows, cons)
		want := drawn(of)
		for i := range 20 {
			turned := slices.Concat(cons[i%len(cons):], cons[:i%len(cons)])
			if i%2 == 1 {
				slices.Reverse(turned)
			}
			for _, l := range [][]api.Node{slices.Clip(slices.Clone(rows)), slices.Grow(slices.Clone(rows), i)} {
				if got, f := tree.Build(l, slices.Grow(turned, i)); f != e || drawn(got) != want {
					t.Errorf("%s: %s, %v", shown(rows), drawn(got), f)
				}
			}
			tree.Build(all[i%len(all)], turned)
			tree.Build(all[i%len(all)], nil)
		}
	}
	// Constructors that are of the same names, and of other tags or types.
	for _, l := range []struct {
		cons []api.Con
		want string
	}{
		{[]api.Con{{Name: "A", Of: "t", Many: 2}, {Name: "B", Of: "t", Tag: 1, Many: 2}}, "/ (A: 1, B: 0)"},
		{[]api.Con{{Name: "A", Of: "t", Tag: 1, Many: 2}, {Name: "B", Of: "t", Many: 2}}, "/ (B: 0, A: 1)"},
		{[]api.Con{{Name: "A", Of: "t", Tag: 2, Many: 3}, {Name: "B", Of: "t", Tag: 1, Many: 3}, {Name: "C", Of: "t", Many: 3}}, "/ (B: 0, A: 1, _: -)"},
	} {
		is(t, []api.Node{con("B"), con("A")}, l.cons, l.want)
	}
}

// Ways: a walk goes on from within a switch by its label; what a column asks is found by a closure.
func TestWays(t *testing.T) {
	names, err := filepath.Glob("*.go")
	if err != nil {
		t.Fatal(err)
	}
	ways := map[string]bool{}
	for _, name := range names {
		if strings.HasSuffix(name, "_test.go") {
			continue
		}
		file, err := parser.ParseFile(token.NewFileSet(), name, nil, 0)
		if err != nil {
			t.Fatal(err)
		}
		ast.Inspect(file, func(n ast.Node) bool {
			switch x := n.(type) {
			case *ast.ReturnStmt:
				for _, r := range x.Results {
					_, is := r.(*ast.FuncLit)
					ways["closure"] = ways["closure"] || is
				}
			case *ast.SwitchStmt:
				ast.Inspect(x, func(n ast.Node) bool {
					b, is := n.(*ast.BranchStmt)
					ways["label"] = ways["label"] || is && b.Tok == token.CONTINUE && b.Label != nil
					return true
				})
			}
			return true
		})
	}
	for _, way := range []string{"label", "closure"} {
		if !ways[way] {
			t.Errorf("way missing: %s", way)
		}
	}
}

// The chapter's examples.
func TestExamples(t *testing.T) {
	cons := conses(t)
	is(t, pats(t, "True | False"), cons, "/ (False: 1, True: 0)")
	is(t, pats(t, "x | True"), cons, "0")
	has(t, pats(t, "Cons x (Cons _ y)")[0], "x/0 y/1.1")
}
