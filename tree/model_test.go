package tree_test

import (
	"math/rand"
	"slices"
	"strconv"
	"testing"

	"selvage/api"
	"selvage/cover"
	"selvage/tree"
)

// A model of the chapter that keeps no columns: what was asked on the way to a tree is a list of answers, and each row is its whole pattern. Columns
// stand in the order in which one comes to their patterns, going through a row from the left on.

// answer is what was found at a path: a number or a constructor (of), or, by other, none of those that were looked for.
type answer struct {
	path  []int
	of    api.Node
	other bool
}

// at is the pattern of a row that stands at a path: any, if any stands on the way.
func at(n api.Node, path []int) api.Node {
	for _, i := range path {
		if !headed(n) {
			return wild()
		}
		n = n.Kids[i]
	}
	return n
}

func headed(n api.Node) bool { return n.Kind == api.NodeInt || n.Kind == api.NodeCon }

func like(a, b api.Node) bool { return a.Kind == b.Kind && a.Text == b.Text && a.Number == b.Number }

// left are the places of those rows that may mean a value of which some answers are known.
func left(rows []api.Node, known []answer) []int {
	var l []int
	for i, r := range rows {
		if !slices.ContainsFunc(known, func(a answer) bool {
			n := at(r, a.path)
			return headed(n) && (a.other || !like(n, a.of))
		}) {
			l = append(l, i)
		}
	}
	return l
}

// open is the path of the first pattern in a row that is not any, and of which no answer is known; false, if there is none.
func open(n api.Node, path []int, known []answer) ([]int, bool) {
	if !headed(n) {
		return nil, false
	}
	if !slices.ContainsFunc(known, func(a answer) bool { return slices.Equal(a.path, path) }) {
		return path, true
	}
	for i, k := range n.Kids {
		if p, is := open(k, append(slices.Clone(path), i), known); is {
			return p, true
		}
	}
	return nil, false
}

// found is a constructor by its name.
func found(cons []api.Con, name string) api.Con {
	return cons[slices.IndexFunc(cons, func(c api.Con) bool { return c.Name == name })]
}

// modelled is the tree of rows that go together. Many counts its trees; there are no more than tooMany of them.
func modelled(rows []api.Node, cons []api.Con, known []answer, many *int) api.Tree {
	if *many++; *many > tooMany {
		return api.Tree{}
	}
	l := left(rows, known)
	if len(l) == 0 {
		return api.Tree{Row: -1}
	}
	path, is := open(rows[l[0]], nil, known)
	if !is {
		return api.Tree{Row: l[0]}
	}
	t := api.Tree{Path: path}
	var heads []api.Node
	for _, i := range l {
		if n := at(rows[i], path); headed(n) && !slices.ContainsFunc(heads, func(h api.Node) bool { return like(h, n) }) {
			heads = append(heads, n)
		}
	}
	rest := true
	if heads[0].Kind == api.NodeCon {
		var sorted []api.Node
		for tag := range found(cons, heads[0].Text).Many {
			for _, h := range heads {
				if found(cons, h.Text).Tag == tag {
					sorted = append(sorted, h)
				}
			}
		}
		rest = len(sorted) < found(cons, heads[0].Text).Many
		heads = sorted
	}
	for _, h := range heads {
		if *many > tooMany {
			return t
		}
		c := api.Case{Number: h.Number, Tree: modelled(rows, cons, append(known[:len(known):len(known)], answer{path: path, of: h}), many)}
		if h.Kind == api.NodeCon {
			c.Con = h.Text
		}
		t.Cases = append(t.Cases, c)
	}
	if rest {
		t.Rest = []api.Tree{modelled(rows, cons, append(known[:len(known):len(known)], answer{path: path, other: true}), many)}
	}
	return t
}

// tooMany is some more than a tree may have in it.
const tooMany = 320

// values are those that go together with the patterns of a place: of numbers those that stand there, and another one; where all are any, one that is
// neither a number nor a constructor of any type.
func values(column []api.Node, cons []api.Con) []api.Value {
	var all []api.Value
	for _, n := range column {
		switch n.Kind {
		case api.NodeInt:
			v := api.Value{Number: n.Number}
			if len(all) == 0 {
				all = []api.Value{{Number: -1}}
			}
			if !slices.ContainsFunc(all, func(w api.Value) bool { return w.Number == v.Number }) {
				all = append(all, v)
			}
		case api.NodeCon:
			if len(all) == 0 {
				for _, d := range cons {
					if d.Of == found(cons, n.Text).Of {
						all = append(all, made(column, cons, d)...)
					}
				}
			}
		}
	}
	if len(all) == 0 {
		return []api.Value{{Con: "some", Parts: []api.Value{{Number: 1}}}}
	}
	return all
}

// made are the values of a constructor.
func made(column []api.Node, cons []api.Con, c api.Con) []api.Value {
	all := []api.Value{{Con: c.Name}}
	for i := range c.Arity {
		var behind []api.Node
		for _, n := range column {
			if n.Kind == api.NodeCon && n.Text == c.Name {
				behind = append(behind, n.Kids[i])
			}
		}
		parts := values(behind, cons)
		var longer []api.Value
		for _, v := range all {
			for _, part := range parts {
				longer = append(longer, api.Value{Con: c.Name, Parts: append(slices.Clone(v.Parts), part)})
			}
		}
		all = longer
	}
	return all
}

// means tells whether a pattern means a value.
func means(n api.Node, v api.Value) bool {
	switch n.Kind {
	case api.NodeInt:
		return n.Number == v.Number
	case api.NodeCon:
		for i, k := range n.Kids {
			if v.Con != n.Text || !means(k, v.Parts[i]) {
				return false
			}
		}
		return v.Con == n.Text
	}
	return true
}

// held holds Build, and Walk on its tree, against the model; it tells the error. Where there are too many values, they are not gone through.
func held(t *testing.T, rows []api.Node, cons []api.Con) api.Errno {
	t.Helper()
	if _, e := cover.Check(rows, cons); e == api.ErrArg {
		refused(t, rows, cons, api.ErrArg)
		return e
	}
	many := 0
	want := modelled(rows, cons, nil, &many)
	if many > 300 {
		refused(t, rows, cons, api.ErrMany)
		return api.ErrMany
	}
	got, e := tree.Build(rows, cons)
	if e != api.OK || drawn(got) != drawn(want) {
		t.Errorf("%s: %s, %v, not %s", shown(rows), drawn(got), e, drawn(want))
		return e
	}
	if few(rows, cons) > 3000 {
		return e
	}
	for _, v := range values(rows, cons) {
		first := slices.IndexFunc(rows, func(n api.Node) bool { return means(n, v) })
		if row := tree.Walk(got, v); row != first {
			t.Errorf("%s: %v is told %d, not %d", shown(rows), v, row, first)
		}
	}
	return e
}

// few tells how many values go together with the patterns of a place.
func few(column []api.Node, cons []api.Con) int {
	sum := 1
	for _, n := range column {
		switch n.Kind {
		case api.NodeInt:
			sum++
		case api.NodeCon:
			sum = 0
			for _, d := range cons {
				if d.Of != found(cons, n.Text).Of {
					continue
				}
				product := 1
				for i := range d.Arity {
					var behind []api.Node
					for _, n := range column {
						if n.Kind == api.NodeCon && n.Text == d.Name {
							behind = append(behind, n.Kids[i])
						}
					}
					product = min(product*few(behind, cons), 1<<20)
				}
				sum += product
			}
			return sum
		}
	}
	return sum
}

// lists goes through all lists of patterns, up to so many of them.
func lists(l []api.Node, many int, with func(rows []api.Node)) {
	var goes func(rows []api.Node)
	goes = func(rows []api.Node) {
		with(rows)
		if len(rows) == many {
			return
		}
		for _, n := range l {
			goes(append(rows[:len(rows):len(rows)], n))
		}
	}
	goes(nil)
}

// P10.1, P10.4: all short lists of small patterns, those that go together, and those that don't.
func TestSmallMatchesAreAsTheModel(t *testing.T) {
	cons := conses(t)
	for _, l := range []struct {
		s    string
		many int
	}{
		{"_ | x | True | False", 5},
		{"_ | 0 | 1 | 2", 5},
		{"_ | A | B | C", 5},
		{"_ | One | Box _ | Box One | Box 0 | 0", 4},
		{"_ | No | Yes _ | Yes No | Yes (Yes _) | Yes (Yes No)", 4},
		{"_ | No | Yes _ | Yes True | Yes False | Yes 0", 4},
		{"_ | Pair _ _ | Pair True _ | Pair False _ | Pair _ True | Pair True True | Pair True False | Pair False True", 4},
		{"_ | Pair 0 _ | Pair 1 _ | Pair _ 0 | Pair 0 0 | Pair 0 1 | Pair 1 0 | Pair True 0", 4},
		{"_ | Nil | Cons _ _ | Cons _ Nil | Cons True _ | Cons False Nil | Cons _ (Cons _ _) | Cons True (Cons _ Nil)", 4},
		{"_ | Left _ | Right _ | Left 0 | Right 0 | Left True | Right True | Left False", 4},
		{"_ | Leaf | Node _ _ _ | Both _ _ | Node Leaf 0 _ | Both Leaf _ | Both _ Leaf | Both (Both _ _) _", 4},
		{"_ | Pair A _ | Pair B _ | Pair C _ | Pair _ A | Pair _ B | Pair A A | Pair B C", 4},
		{"_ | 0 | True | A | One | Box _ | Pair _ _ | No | Yes _ | Left _ | Nil", 3},
		{"Box (Pair _ True) | Box (Pair True _) | Box (Pair False False) | Box (Pair 0 _) | Box _ | Pair _ _ | _", 4},
	} {
		lists(pats(t, l.s), l.many, func(rows []api.Node) { held(t, rows, cons) })
		if t.Failed() {
			return
		}
	}
}

// maker makes rows at random, of which most go together.
type maker struct {
	*rand.Rand
	cons  []api.Con
	kinds map[string]string // of each place: a type's name, or int
	loose bool              // whether what stands at a place is sometimes of another one
}

// kind is that of a place.
func (m maker) kind(place string) string {
	all := []string{"int", "bool", "bool", "one", "box", "pair", "pair", "four", "opt", "list", "sum", "tri", "tree"}
	if m.kinds[place] == "" || m.loose && m.Intn(100) == 0 {
		m.kinds[place] = all[m.Intn(len(all))]
	}
	return m.kinds[place]
}

// pattern is one for a place, with some depth left; the greater any is, the fewer are any.
func (m maker) pattern(place string, deep, any int) api.Node {
	if deep == 0 || m.Intn(any) == 0 {
		return []api.Node{wild(), wild(), name("x"), name("y")}[m.Intn(4)]
	}
	kind := m.kind(place)
	if kind == "int" {
		return num(m.Intn(4))
	}
	var l []api.Con
	for _, c := range m.cons {
		if c.Of == kind {
			l = append(l, c)
		}
	}
	c := l[m.Intn(len(l))]
	n := con(c.Name)
	for i := range c.Arity {
		n.Kids = append(n.Kids, m.pattern(place+" "+c.Name+"."+strconv.Itoa(i), deep-1, any))
	}
	return n
}

// P10.1, P10.4: matches made at random.
func TestRandomMatchesAreAsTheModel(t *testing.T) {
	cons := conses(t)
	told := map[api.Errno]int{}
	for seed := range 20000 {
		m := maker{rand.New(rand.NewSource(int64(seed))), cons, map[string]string{}, seed%4 == 0}
		var rows []api.Node
		deep, any := 1+m.Intn(6), 2+m.Intn(4)
		for range m.Intn(9) + m.Intn(2)*m.Intn(13) {
			rows = append(rows, m.pattern("", deep, any))
		}
		told[held(t, rows, cons)]++
		if t.Failed() {
			return
		}
	}
	if told[api.OK] < 10000 || told[api.ErrArg] < 100 {
		t.Errorf("%d matches have a tree, %d may not be handed in", told[api.OK], told[api.ErrArg])
	}
}

// spine is a row of sixteen columns, by constructors of four.
func spine(columns []api.Node) api.Node {
	var kids []api.Node
	for l := range slices.Chunk(columns, 4) {
		kids = append(kids, con("Four", l...))
	}
	return con("Four", kids...)
}

// columned is a row of sixteen columns, of which about so many of the first ones are a head.
func columned(r *rand.Rand, columns, many int, heads []api.Node) api.Node {
	l := wilds(16)
	for i := range columns {
		if r.Intn(columns) < many {
			l[i] = heads[r.Intn(len(heads))]
		}
	}
	return spine(l)
}

// P10.1, P10.4: matches of some columns, made at random; of many the tree is too great.
func TestBroadMatchesAreAsTheModel(t *testing.T) {
	cons := conses(t)
	told := map[api.Errno]int{}
	for seed := range 1000 {
		r := rand.New(rand.NewSource(int64(seed)))
		heads := [][]api.Node{pats(t, "True | False"), pats(t, "A | B | C"), pats(t, "0 | 1 | 2 | 3"), pats(t, "No | Yes 1 | Yes 2")}[seed%4]
		rows := make([]api.Node, 1+r.Intn(20))
		columns, many := 2+r.Intn(6), 1+r.Intn(4)
		for i := range rows {
			rows[i] = columned(r, columns, many, heads)
		}
		told[held(t, rows, cons)]++
		if t.Failed() {
			return
		}
	}
	if told[api.OK] < 500 || told[api.ErrMany] < 100 {
		t.Errorf("%d matches have a tree, %d one that is too great", told[api.OK], told[api.ErrMany])
	}
}

// P10.1: of trees about as great as may be, made at random, just those are too great that have more than 300 in them.
func TestLimitIsAsTheModel(t *testing.T) {
	cons := conses(t)
	seen := map[int]int{}
	for seed := range 1200 {
		r := rand.New(rand.NewSource(int64(seed)))
		columns, heads, rows := 6, pats(t, "A | B | C"), make([]api.Node, 14)
		if seed%2 == 0 {
			columns, heads, rows = 4, pats(t, "0 | 1 | 2 | 3"), make([]api.Node, 20)
		}
		for i := range rows {
			rows[i] = columned(r, columns, 3, heads)
		}
		many := 0
		if modelled(rows, cons, nil, &many); many >= 290 && many <= 310 {
			held(t, rows, cons)
			seen[many]++
		}
	}
	for many := 298; many <= 303; many++ {
		if seen[many] == 0 {
			t.Errorf("no tree has %d in it", many)
		}
	}
}
