package cover_test

import (
	"math/rand"
	"reflect"
	"slices"
	"strconv"
	"testing"

	"selvage/api"
	"selvage/cover"
)

// A model of the chapter, that holds all values against all patterns.

// modelSound tells whether constructors are sound.
func modelSound(cons []api.Con) bool {
	var names []string
	tags := map[string][]int{}
	for _, c := range cons {
		names = append(names, c.Name)
		tags[c.Of] = append(tags[c.Of], c.Tag)
	}
	slices.Sort(names)
	for i := 1; i < len(names); i++ {
		if names[i] == names[i-1] {
			return false
		}
	}
	for _, c := range cons {
		l := tags[c.Of]
		slices.Sort(l)
		for i, tag := range l {
			if i != tag {
				return false
			}
		}
		if len(l) != c.Many || !slices.Contains([]int{0, 1, 2, 3, 4}, c.Arity) {
			return false
		}
	}
	return true
}

// named is a constructor by its name.
func named(cons []api.Con, name string) (api.Con, bool) {
	i := slices.IndexFunc(cons, func(c api.Con) bool { return c.Name == name })
	if i < 0 {
		return api.Con{}, false
	}
	return cons[i], true
}

// modelMay tells whether rows may be handed in.
func modelMay(rows []api.Node, cons []api.Con) bool {
	if !modelSound(cons) || len(rows) > 20 {
		return false
	}
	kinds := map[string]string{} // of each place: what stands there
	may := true
	var goes func(n api.Node, place string) int
	goes = func(n api.Node, place string) int {
		kind := ""
		want := api.Node{Kind: n.Kind, At: n.At}
		switch n.Kind {
		case api.NodeAny:
		case api.NodeName:
			want.Text = n.Text
		case api.NodeInt:
			want.Number, kind = n.Number, "a number"
			may = may && n.Number >= 0
		case api.NodeCon:
			c, is := named(cons, n.Text)
			want.Text, want.Kids, kind = n.Text, n.Kids, "of "+c.Of
			may = may && is && len(n.Kids) == c.Arity
		default:
			may = false
		}
		if len(n.Kids) == 0 {
			n.Kids, want.Kids = nil, nil
		}
		if len(n.Names) == 0 {
			n.Names = nil
		}
		may = may && reflect.DeepEqual(n, want)
		if kind != "" {
			may = may && (kinds[place] == "" || kinds[place] == kind)
			kinds[place] = kind
		}
		many := 1
		for i, k := range n.Kids {
			many += goes(k, place+" "+n.Text+"."+strconv.Itoa(i))
		}
		return many
	}
	for _, r := range rows {
		may = goes(r, "") <= 30 && may
	}
	return may
}

// values are those that go together with the patterns of a place: of numbers those that stand there, and another one.
func values(column []api.Node, cons []api.Con) []api.Value {
	var all []api.Value
	for _, n := range column {
		switch n.Kind {
		case api.NodeInt:
			v := api.Value{Number: n.Number}
			if len(all) == 0 {
				all = []api.Value{{Number: -1}}
			}
			if !slices.ContainsFunc(all, func(w api.Value) bool { return w.Number == v.Number }) {
				all = append(all, v)
			}
		case api.NodeCon:
			if c, _ := named(cons, n.Text); len(all) == 0 {
				for _, d := range cons {
					if d.Of == c.Of {
						all = append(all, made(column, cons, d)...)
					}
				}
			}
		}
	}
	if len(all) == 0 {
		return []api.Value{{}}
	}
	return all
}

// made are the values of a constructor.
func made(column []api.Node, cons []api.Con, c api.Con) []api.Value {
	all := []api.Value{{Con: c.Name}}
	for i := range c.Arity {
		var behind []api.Node
		for _, n := range column {
			if n.Kind == api.NodeCon && n.Text == c.Name {
				behind = append(behind, n.Kids[i])
			}
		}
		parts := values(behind, cons)
		var longer []api.Value
		for _, v := range all {
			for _, part := range parts {
				longer = append(longer, api.Value{Con: c.Name, Parts: append(slices.Clone(v.Parts), part)})
			}
		}
		all = longer
	}
	return all
}

// means tells whether a pattern means a value.
func means(n api.Node, v api.Value) bool {
	switch n.Kind {
	case api.NodeInt:
		return n.Number == v.Number
	case api.NodeCon:
		for i, k := range n.Kids {
			if v.Con != n.Text || !means(k, v.Parts[i]) {
				return false
			}
		}
		return v.Con == n.Text
	}
	return true
}

// modelled is what the model tells of rows.
func modelled(rows []api.Node, cons []api.Con) (int, api.Errno) {
	if !modelMay(rows, cons) {
		return 0, api.ErrArg
	}
	left := values(rows, cons) // what no row ahead means
	for i, r := range rows {
		was := len(left)
		left = slices.DeleteFunc(left, func(v api.Value) bool { return means(r, v) })
		if len(left) == was {
			return i, api.ErrUseless
		}
	}
	if len(left) > 0 {
		return 0, api.ErrCover
	}
	return 0, api.OK
}

// held holds Check against the model; it tells the error.
func held(t *testing.T, rows []api.Node, cons []api.Con) api.Errno {
	t.Helper()
	at, e := modelled(rows, cons)
	is(t, rows, cons, at, e)
	return e
}

// lists goes through all lists of patterns, up to so many of them.
func lists(l []api.Node, many int, with func(rows []api.Node)) {
	var goes func(rows []api.Node)
	goes = func(rows []api.Node) {
		with(rows)
		if len(rows) == many {
			return
		}
		for _, n := range l {
			goes(append(rows[:len(rows):len(rows)], n))
		}
	}
	goes(nil)
}

// P9.1, P9.2: all short lists of small patterns, those that go together, and those that don't.
func TestSmallMatchesAreAsTheModel(t *testing.T) {
	cons := conses(t, types)
	for _, l := range []struct {
		s    string
		many int
	}{
		{"_ | x | True | False", 5},
		{"_ | 0 | 1 | 2 | x", 5},
		{"_ | A | B | C", 5},
		{"_ | One | Box _ | Box One | Box 0 | 0", 4},
		{"_ | No | Yes _ | Yes No | Yes (Yes _) | Yes (Yes No)", 5},
		{"_ | No | Yes _ | Yes True | Yes False | Yes 0", 4},
		{"_ | Pair _ _ | Pair True _ | Pair False _ | Pair _ True | Pair _ False | Pair True True | Pair True False | Pair False True | Pair False False", 4},
		{"_ | Pair _ _ | Pair 0 _ | Pair 1 _ | Pair _ 0 | Pair 0 0 | Pair 0 1 | Pair 1 0 | Pair True 0 | Pair 0 True", 4},
		{"_ | Nil | Cons _ _ | Cons _ Nil | Cons True _ | Cons False Nil | Cons _ (Cons _ _) | Cons True (Cons _ Nil) | Cons False (Cons True _) | Cons 0 Nil", 4},
		{"_ | Left _ | Right _ | Left 0 | Right 0 | Left True | Right True | Left False", 4},
		{"_ | Leaf | Node _ _ _ | Both _ _ | Node Leaf 0 _ | Both Leaf _ | Both _ Leaf | Both (Both _ _) _", 4},
		{"_ | Pair A _ | Pair B _ | Pair C _ | Pair _ A | Pair _ B | Pair A A | Pair B C | Pair C B | Pair C C", 4},
		{"_ | 0 | True | A | One | Box _ | Pair _ _ | No | Yes _ | Left _ | Nil", 3},
		{"Box (Pair _ True) | Box (Pair True _) | Box (Pair False False) | Box (Pair 0 _) | Box _ | Pair _ _ | _", 4},
	} {
		lists(pats(t, l.s), l.many, func(rows []api.Node) { held(t, rows, cons) })
		if t.Failed() {
			return
		}
	}
}

// maker makes rows at random, of which most go together.
type maker struct {
	*rand.Rand
	cons  []api.Con
	kinds map[string]string // of each place: a type's name, or int
	whole bool              // whether what stands at a place is always of its kind
}

// kind is that of a place.
func (m maker) kind(place string) string {
	all := []string{"int", "bool", "bool", "one", "box", "pair", "four", "opt", "list", "sum", "tri", "tree"}
	if m.kinds[place] == "" || !m.whole && m.Intn(50) == 0 {
		m.kinds[place] = all[m.Intn(len(all))]
	}
	return m.kinds[place]
}

// of are the constructors of a type.
func (m maker) of(name string) []api.Con {
	var l []api.Con
	for _, c := range m.cons {
		if c.Of == name {
			l = append(l, c)
		}
	}
	return l
}

// any is a pattern of any value.
func (m maker) any() api.Node {
	if m.Intn(3) == 0 {
		return name("x")
	}
	return wild()
}

// pattern is one for a place, with some depth left.
func (m maker) pattern(place string, deep int) api.Node {
	if deep == 0 || m.Intn(3) == 0 {
		return m.any()
	}
	kind := m.kind(place)
	if kind == "int" {
		return num(m.Intn(3))
	}
	l := m.of(kind)
	c := l[m.Intn(len(l))]
	n := con(c.Name)
	for i := range c.Arity {
		n.Kids = append(n.Kids, m.pattern(place+" "+c.Name+"."+strconv.Itoa(i), deep-1))
	}
	return n
}

// split makes some rows of one: one of its patterns of any value is all that it means.
func (m maker) split(n api.Node, place string) []api.Node {
	if len(n.Kids) > 0 {
		at := m.Intn(len(n.Kids))
		var rows []api.Node
		for _, k := range m.split(n.Kids[at], place+" "+n.Text+"."+strconv.Itoa(at)) {
			kids := slices.Clone(n.Kids)
			kids[at] = k
			rows = append(rows, con(n.Text, kids...))
		}
		return rows
	}
	if n.Kind != api.NodeAny && n.Kind != api.NodeName {
		return []api.Node{n}
	}
	kind := m.kind(place)
	if kind == "int" {
		return []api.Node{num(m.Intn(3)), n}
	}
	var rows []api.Node
	for _, c := range m.of(kind) {
		rows = append(rows, con(c.Name, wilds(c.Arity)...))
	}
	return rows
}

// loose makes one of a pattern's parts any.
func (m maker) loose(n api.Node) api.Node {
	if len(n.Kids) == 0 || m.Intn(4) == 0 {
		return m.any()
	}
	kids := slices.Clone(n.Kids)
	at := m.Intn(len(kids))
	kids[at] = m.loose(kids[at])
	return con(n.Text, kids...)
}

// rows are rows that are whole at first, of which some are changed then.
func (m maker) rows(many int) []api.Node {
	rows := []api.Node{m.any()}
	for range 40 {
		if len(rows) < many {
			at := m.Intn(len(rows))
			rows = slices.Concat(rows[:at], m.split(rows[at], ""), rows[at+1:])
		}
	}
	for range m.Intn(4) {
		at := m.Intn(len(rows))
		switch m.Intn(6) {
		case 0:
			rows[at] = m.loose(rows[at])
		case 1:
			rows = slices.Delete(rows, at, at+1)
		case 2:
			rows = slices.Insert(rows, at, rows[m.Intn(len(rows))])
		case 3:
			rows = slices.Insert(rows, at, m.pattern("", 3))
		case 4:
			m.Shuffle(len(rows), func(i, j int) { rows[i], rows[j] = rows[j], rows[i] })
		case 5:
			rows = append(rows, m.any())
		}
		if len(rows) == 0 {
			break
		}
	}
	return rows
}

// few tells whether a model has not too much to do.
func few(rows []api.Node, cons []api.Con) bool {
	if !modelMay(rows, cons) {
		return true
	}
	var many func(column []api.Node) int
	many = func(column []api.Node) int {
		sum := 0
		for _, n := range column {
			if c, is := named(cons, n.Text); is && n.Kind == api.NodeCon {
				for _, d := range cons {
					if d.Of != c.Of {
						continue
					}
					product := 1
					for i := range d.Arity {
						var behind []api.Node
						for _, n := range column {
							if n.Kind == api.NodeCon && n.Text == d.Name {
								behind = append(behind, n.Kids[i])
							}
						}
						product = min(product*many(behind), 1<<20)
					}
					sum += product
				}
				return sum
			}
			if n.Kind == api.NodeInt {
				sum++
			}
		}
		return sum + 1
	}
	return many(rows) <= 3000
}

// P9.1, P9.2: matches made at random.
func TestRandomMatchesAreAsTheModel(t *testing.T) {
	cons := conses(t, types)
	told := map[api.Errno]int{}
	for seed := range 30000 {
		m := maker{rand.New(rand.NewSource(int64(seed))), cons, map[string]string{}, seed%8 > 0}
		var rows []api.Node
		if seed%3 == 0 {
			for range m.Intn(6) {
				rows = append(rows, m.pattern("", 3))
			}
		} else {
			rows = m.rows(1 + m.Intn(18))
		}
		if few(rows, cons) {
			told[held(t, rows, cons)]++
		}
		if t.Failed() {
			return
		}
	}
	for _, e := range []api.Errno{api.OK, api.ErrArg, api.ErrCover, api.ErrUseless} {
		if told[e] < 100 {
			t.Errorf("only %d matches were told %v", told[e], e)
		}
	}
}

// spine is a row of columns: at most 22 stand in one, by constructors of four.
func spine(columns []api.Node) api.Node {
	l := slices.Concat(columns, wilds(22-len(columns)))
	four := func(l []api.Node) api.Node { return con("Quad", l...) }
	return four([]api.Node{
		four([]api.Node{four(l[:4]), l[4], l[5], l[6]}), four([]api.Node{l[7], four(l[8:12]), l[12], l[13]}), four(l[14:18]), four(l[18:22]),
	})
}

// columned is a row of columns of a type, of which about so many are not any.
func columned(r *rand.Rand, columns, many int, of []string) api.Node {
	l := wilds(columns)
	for i := range l {
		if r.Intn(columns) < many {
			l[i] = con(of[r.Intn(len(of))])
		}
	}
	return spine(l)
}

// P9.1: up to twenty rows of some columns, made at random; each means something of its own, but maybe the last one.
func TestBroadMatchesAreAsTheModel(t *testing.T) {
	cons := append(conses(t, types), api.Con{Name: "Quad", Of: "quad", Arity: 4, Many: 1})
	told := map[api.Errno]int{}
	for seed := range 90 {
		r := rand.New(rand.NewSource(int64(seed)))
		of, columns := []string{"False", "True"}, 10
		if seed%3 == 0 {
			of, columns = []string{"A", "B", "C"}, 6
		}
		var rows []api.Node
		for range 60 {
			n := columned(r, columns, 2+r.Intn(2), of)
			if _, e := cover.Check(append(rows[:len(rows):len(rows)], n), cons); e != api.ErrUseless && len(rows) < 20 {
				rows = append(rows, n)
			}
		}
		told[held(t, rows, cons)]++
		last := len(rows) - 1
		for range 3 {
			told[held(t, append(rows[:last:last], columned(r, columns, 5, of)), cons)]++
		}
		told[held(t, append(rows[:last:last], wild()), cons)]++
	}
	for _, e := range []api.Errno{api.OK, api.ErrCover, api.ErrUseless} {
		if told[e] < 30 {
			t.Errorf("only %d matches were told %v", told[e], e)
		}
	}
}

// broken is a row of which something is changed at random.
func broken(r *rand.Rand, n api.Node) api.Node {
	if len(n.Kids) > 0 && r.Intn(3) > 0 {
		n.Kids = slices.Clone(n.Kids)
		at := r.Intn(len(n.Kids))
		n.Kids[at] = broken(r, n.Kids[at])
		return n
	}
	switch r.Intn(7) {
	case 0:
		n.Kind = r.Intn(api.NodeProg + 2)
	case 1:
		n.Text = []string{"", "x", "True", "A", "Box", "Nil", "Q"}[r.Intn(7)]
	case 2:
		n.Number = r.Intn(4) - 1
	case 3:
		n.Names = [][]string{nil, {}, {"x"}}[r.Intn(3)]
	case 4:
		n.Kids = [][]api.Node{nil, {}, wilds(1), wilds(2), {num(0)}}[r.Intn(5)]
	case 5:
		n.At = r.Intn(9) - 4
	case 6:
		return []api.Node{wild(), name("y"), num(1), con("True"), con("B"), con("Box", num(2)), con("Pair", wild(), con("A"))}[r.Intn(7)]
	}
	return n
}

// P9.1: rows that are broken at random, and constructors that are.
func TestBrokenMatchesAreAsTheModel(t *testing.T) {
	all := conses(t, types)
	told := map[api.Errno]int{}
	for seed := range 30000 {
		m := maker{rand.New(rand.NewSource(int64(seed))), all, map[string]string{}, true}
		rows := m.rows(1 + m.Intn(6))
		for range m.Intn(3) {
			if len(rows) > 0 {
				at := m.Intn(len(rows))
				rows[at] = broken(m.Rand, rows[at])
			}
		}
		cons := slices.Clone(all)
		if seed%4 == 0 {
			c := &cons[m.Intn(len(cons))]
			switch m.Intn(5) {
			case 0:
				c.Name = []string{"True", "X"}[m.Intn(2)]
			case 1:
				c.Of = []string{"bool", "pair", "x"}[m.Intn(3)]
			case 2:
				c.Tag = m.Intn(4) - 1
			case 3:
				c.Arity = m.Intn(7) - 1
			case 4:
				c.Many = m.Intn(4)
			}
		}
		if few(rows, cons) {
			told[held(t, rows, cons)]++
		}
		if t.Failed() {
			return
		}
	}
	for _, e := range []api.Errno{api.OK, api.ErrArg, api.ErrCover, api.ErrUseless} {
		if told[e] < 1000 {
			t.Errorf("only %d matches were told %v", told[e], e)
		}
	}
}
