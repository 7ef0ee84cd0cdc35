package cover_test

import (
	"go/ast"
	"go/parser"
	"go/token"
	"math"
	"path/filepath"
	"reflect"
	"slices"
	"strconv"
	"strings"
	"testing"

	"selvage/api"
	"selvage/cover"
)

// endless are nodes that stand in themselves, and ones that are too deep, or too wide, to be gone through whole.
func endless() []api.Node {
	var l []api.Node
	for _, c := range []struct {
		name  string
		arity int
	}{{"Box", 1}, {"Pair", 2}, {"Four", 4}, {"Cons", 2}} {
		n := con(c.name, wilds(c.arity)...)
		for i := range n.Kids {
			n.Kids[i] = n
		}
		last := con(c.name, wilds(c.arity)...)
		last.Kids[c.arity-1] = last
		l = append(l, n, last)
	}
	for _, kind := range []int{api.NodeAny, api.NodeName, api.NodeInt, api.NodeMatch, 0} {
		n := api.Node{Kind: kind, Kids: make([]api.Node, 1)}
		n.Kids[0] = n
		l = append(l, n)
	}
	down, twice := wild(), wild()
	for range 1 << 18 {
		down = con("Box", down)
	}
	for range 100 {
		twice = con("Pair", twice, twice)
	}
	return append(l, down, twice, con("Pair", wilds(1<<18)...), con("Four", twice, down, twice, down), con(strings.Repeat("x", 1<<20)))
}

// R1, R2: each call ends, and none panics, whatever it is asked; beside an error the place is 0, but where it is told.
func TestEachCallEndsAtAllArguments(t *testing.T) {
	cons := conses(t, types)
	bad := endless()
	for i, n := range bad {
		for _, rows := range [][]api.Node{{n}, {wild(), n}, {n, n}, {wild(), wild(), n, num(1)}, {con("Box", n), con("Box", wild())}, {con("Pair", wild(), bad[0]), con("Pair", n, bad[1])}, slices.Repeat([]api.Node{n}, 1000)} {
			if at, e := cover.Check(rows, cons); at != 0 || e != api.ErrArg {
				t.Errorf("%d: %d, %v", i, at, e)
			}
			if at, e := cover.Check(rows, nil); at != 0 || e != api.ErrArg {
				t.Errorf("%d: %d, %v", i, at, e)
			}
		}
	}
	// Many constructors, sound ones and not.
	var many []api.Con
	for i := range 1 << 16 {
		many = append(many, api.Con{Name: "K" + strconv.Itoa(i), Of: "k", Tag: i, Arity: i % 5, Many: 1 << 16})
	}
	is(t, []api.Node{con("K0"), con("K1", num(3)), con("K4", wilds(4)...), wild()}, many, 0, api.OK)
	is(t, []api.Node{con("K0"), con("K5")}, many, 0, api.ErrCover)
	is(t, []api.Node{con("K0"), wild(), con("K65535")}, many, 2, api.ErrUseless)
	is(t, []api.Node{wild()}, many[1:], 0, api.ErrArg)
	is(t, []api.Node{wild()}, append(many, many[0]), 0, api.ErrArg)
	is(t, []api.Node{wild()}, slices.Repeat(many[:1], 1000), 0, api.ErrArg)
	for _, n := range []int{math.MinInt, -1, 0, 1, 2, 4, 5, 1 << 40, math.MaxInt} {
		for _, m := range []int{math.MinInt, -1, 0, 1, 2, 1 << 40, math.MaxInt} {
			for _, tag := range []int{math.MinInt, -1, 0, 1, math.MaxInt} {
				want := api.ErrArg
				if n >= 0 && n <= 4 && m == 1 && tag == 0 {
					want = api.OK
				}
				is(t, []api.Node{wild()}, []api.Con{{Name: "K", Of: "k", Tag: tag, Arity: n, Many: m}}, 0, want)
			}
		}
	}
}

// triangle is a match of twenty rows and nineteen columns: the row of a number is False in the column ahead, any in the columns ahead of that, and True in the others.
// By its first column, and the one behind, .. there are some half a million ways through it.
func triangle() []api.Node {
	var rows []api.Node
	for i := range 20 {
		l := wilds(19)
		for at := range l {
			if at >= i {
				l[at] = con("True")
			}
			if at == i-1 {
				l[at] = con("False")
			}
		}
		rows = append(rows, spine(l))
	}
	return rows
}

// R1: matches in which there is much to tell apart.
func TestMatchesThatAreHard(t *testing.T) {
	cons := append(conses(t, types), api.Con{Name: "Quad", Of: "quad", Arity: 4, Many: 1})
	// Each value is meant by just one row: by its last column that is False, if there is one.
	rows := triangle()
	is(t, rows, cons, 0, api.OK)
	for i := range rows {
		less := append(rows[:i:i], rows[i+1:]...)
		is(t, less, cons, 0, api.ErrCover)
		is(t, append(less, wild()), cons, 0, api.OK)
		is(t, append(less, rows[i]), cons, 0, api.OK)
		if i < 19 {
			is(t, append(less, less[i]), cons, 19, api.ErrUseless)
		}
	}
	// All rows of columns of which the values are told by one, by two, ..
	for many := range 5 {
		var rows []api.Node
		for v := range 1 << many {
			l := wilds(22)
			for i := range many {
				l[21-5*i] = con([]string{"False", "True"}[v>>i&1])
			}
			rows = append(rows, spine(l))
		}
		is(t, rows, cons, 0, api.OK)
		is(t, append(rows[:len(rows):len(rows)], spine(slices.Repeat([]api.Node{con("True")}, 22))), cons, len(rows), api.ErrUseless)
		is(t, rows[1:], cons, 0, api.ErrCover)
	}
	// Twenty rows with a pair in a column of their own, and one at another depth each.
	rows = nil
	for i := range 19 {
		l := wilds(22)
		l[i], l[i+1] = con("True"), con("False")
		rows = append(rows, spine(l))
	}
	is(t, rows, cons, 0, api.ErrCover)
	is(t, append(rows, spine(wilds(22))), cons, 0, api.OK)
}

// taken makes a node of its own, with spare room behind each list.
func taken(n api.Node) api.Node {
	kids := make([]api.Node, 0, len(n.Kids)+3)
	for _, k := range n.Kids {
		kids = append(kids, taken(k))
	}
	for range 3 {
		kids = append(kids, num(77))
	}
	n.Kids = kids[:len(n.Kids)]
	n.Names = append(make([]string, 0, 1), "spare")[:0]
	return n
}

// spared tells whether a node is as another one, and the spare room behind each list as it was.
func spared(n, was api.Node) bool {
	if n.Kind != was.Kind || n.Text != was.Text || n.Number != was.Number || n.At != was.At || len(n.Names) != 0 || n.Names[:1][0] != "spare" || len(n.Kids) != len(was.Kids) || cap(n.Kids) != len(n.Kids)+3 {
		return false
	}
	for i, k := range n.Kids[:cap(n.Kids)] {
		if i < len(was.Kids) && !spared(k, was.Kids[i]) || i >= len(was.Kids) && !reflect.DeepEqual(k, num(77)) {
			return false
		}
	}
	return true
}

// matches are some matches of each error.
func matches(t *testing.T) [][]api.Node {
	var l [][]api.Node
	for _, s := range []string{
		"", "_", "True | False", "True | _ | False", "0 | 1", "Pair True _ | Pair _ True | Pair False False", "Pair True _ | Pair _ True | Pair False False | _", "Nil | Cons _ Nil", "Nil | Cons x Nil | Cons x (Cons y l)",
		"Pair (Pair True _) _ | Pair (Pair _ True) x | Pair _ _", "True | 1", "Box (Box 1) | Box (Box A)", "Four 1 _ _ _ | Four _ 2 _ _ | Four 1 2 3 4", "Leaf | Node Leaf _ _ | Node (Node _ _ _) _ _ | Node (Both _ _) _ _ | Node _ 1 _",
		"Left 1 | Right True | Left _ | Right _", "Left 1 | Right True | Left _ | Right False",
	} {
		l = append(l, pats(t, s))
	}
	return append(l, triangle())
}

// R4: what is handed in is not changed, its spare room neither; and it is not kept.
func TestWhatIsHandedInIsLeftAlone(t *testing.T) {
	cons := append(conses(t, types), api.Con{Name: "Quad", Of: "quad", Arity: 4, Many: 1})
	for _, was := range matches(t) {
		at, e := cover.Check(was, cons)
		rows := make([]api.Node, 0, len(was)+3)
		for _, r := range was {
			rows = append(rows, taken(r))
		}
		rows = append(rows, num(77), num(77), num(77))[:len(was)]
		handed := append(make([]api.Con, 0, len(cons)+1), cons...)
		is(t, rows, handed, at, e)
		for i, r := range rows {
			if !spared(r, was[i]) {
				t.Errorf("%s: row %d has changed", shown(was), i)
			}
		}
		for _, r := range rows[len(rows):cap(rows)] {
			if !reflect.DeepEqual(r, num(77)) {
				t.Errorf("%s: the spare room behind the rows has changed", shown(was))
			}
		}
		if !slices.Equal(handed, cons) || handed[:cap(handed)][len(cons)] != (api.Con{}) {
			t.Errorf("%s: the constructors have changed", shown(was))
		}
		// The same memory with something else in it.
		for i := range rows {
			rows[i] = wild()
		}
		switch len(rows) {
		case 0:
		case 1:
			is(t, rows, handed, 0, api.OK)
		default:
			is(t, rows, handed, 1, api.ErrUseless)
		}
		clear(handed)
		is(t, rows, handed, 0, api.ErrArg)
		is(t, was, cons, at, e)
	}
}

// emptied is a node with lists that are empty in the place of nil, or the other way round.
func emptied(n api.Node, is bool) api.Node {
	kids := make([]api.Node, 0, len(n.Kids))
	for _, k := range n.Kids {
		kids = append(kids, emptied(k, !is))
	}
	n.Names, n.Kids = []string{}, kids
	if is {
		n.Names = nil
		if len(kids) == 0 {
			n.Kids = nil
		}
	}
	return n
}

// R4: nil and empty lists are one.
func TestNilAndEmptyListsAreOne(t *testing.T) {
	cons := append(conses(t, types), api.Con{Name: "Quad", Of: "quad", Arity: 4, Many: 1})
	for _, was := range matches(t) {
		at, e := cover.Check(was, cons)
		for _, nils := range []bool{false, true} {
			rows := []api.Node{}
			for i, r := range was {
				rows = append(rows, emptied(r, nils != (i%2 == 0)))
			}
			is(t, rows, cons, at, e)
		}
	}
	is(t, nil, nil, 0, api.ErrCover)
	is(t, []api.Node{}, []api.Con{}, 0, api.ErrCover)
	is(t, []api.Node{wild()}, []api.Con{}, 0, api.OK)
	is(t, []api.Node{wild()}, nil, 0, api.OK)
}

// R5: the same arguments tell the same, whatever was told ahead; neither their capacities nor the order of the constructors counts.
func TestSameCallsTellTheSame(t *testing.T) {
	cons := append(conses(t, types), api.Con{Name: "Quad", Of: "quad", Arity: 4, Many: 1})
	all := matches(t)
	for _, rows := range all {
		at, e := cover.Check(rows, cons)
		for i := range 20 {
			turned := slices.Concat(cons[i%len(cons):], cons[:i%len(cons)])
			if i%2 == 1 {
				slices.Reverse(turned)
			}
			is(t, slices.Clip(slices.Clone(rows)), turned, at, e)
			is(t, slices.Grow(slices.Clone(rows), i), slices.Grow(turned, i), at, e)
			cover.Check(all[i%len(all)], turned)
			cover.Check(all[i%len(all)], nil)
			is(t, rows, cons, at, e)
		}
	}
	// Constructors that are of the same names, and of other types.
	is(t, []api.Node{con("A"), con("B")}, []api.Con{{Name: "A", Of: "t", Many: 2}, {Name: "B", Of: "t", Tag: 1, Many: 2}}, 0, api.OK)
	is(t, []api.Node{con("A"), con("B")}, []api.Con{{Name: "A", Of: "t", Many: 1}, {Name: "B", Of: "u", Many: 1}}, 0, api.ErrArg)
	is(t, []api.Node{con("A"), con("B")}, []api.Con{{Name: "A", Of: "t", Many: 3}, {Name: "B", Of: "t", Tag: 1, Many: 3}, {Name: "C", Of: "t", Tag: 2, Many: 3}}, 0, api.ErrCover)
	is(t, []api.Node{con("A"), con("B")}, []api.Con{{Name: "A", Of: "t", Many: 1}, {Name: "B", Of: "t", Tag: 1, Many: 3}, {Name: "C", Of: "t", Tag: 2, Many: 3}}, 0, api.ErrArg)
}

// What the rows are named, and where they stand, changes nothing; nor does it whether a pattern of any value has a name.
func TestNamesAndPlacesDoNotCount(t *testing.T) {
	cons := append(conses(t, types), api.Con{Name: "Quad", Of: "quad", Arity: 4, Many: 1})
	var other func(n api.Node, by int) api.Node
	other = func(n api.Node, by int) api.Node {
		if n.Kind == api.NodeAny || n.Kind == api.NodeName {
			n = []api.Node{wild(), name("x"), name("y"), name("")}[by%4]
		}
		n.At = by * 1000
		kids := slices.Clone(n.Kids)
		for i, k := range kids {
			kids[i] = other(k, by+i+1)
		}
		n.Kids = kids
		return n
	}
	for _, was := range matches(t) {
		at, e := cover.Check(was, cons)
		for by := range 8 {
			var rows []api.Node
			for i, r := range was {
				rows = append(rows, other(r, by+i))
			}
			is(t, rows, cons, at, e)
		}
	}
}

// Ways: rows are made new by a slice expression with three indices; constructors are found by a closure.
func TestWays(t *testing.T) {
	names, err := filepath.Glob("*.go")
	if err != nil {
		t.Fatal(err)
	}
	found := map[string]bool{}
	for _, name := range names {
		if strings.HasSuffix(name, "_test.go") {
			continue
		}
		file, err := parser.ParseFile(token.NewFileSet(), name, nil, 0)
		if err != nil {
			t.Fatal(err)
		}
		ast.Inspect(file, func(n ast.Node) bool {
			switch x := n.(type) {
			case *ast.ReturnStmt:
				for _, r := range x.Results {
					_, is := r.(*ast.FuncLit)
					found["closure"] = found["closure"] || is
				}
			case *ast.CallExpr:
				of, is := x.Fun.(*ast.Ident)
				if !is || of.Name != "append" {
					return true
				}
				s, is := x.Args[0].(*ast.SliceExpr)
				found["three indices"] = found["three indices"] || is && s.Slice3
			}
			return true
		})
	}
	for _, way := range []string{"three indices", "closure"} {
		if !found[way] {
			t.Errorf("way missing: %s", way)
		}
	}
}
