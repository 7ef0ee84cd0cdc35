package tree_test

import (
	"math/rand"
	"slices"
	"strconv"
	"strings"
	"testing"

	"selvage/api"
	"selvage/tree"
)

// placed is names and their paths as a text.
func placed(l []api.Place) string {
	var all []string
	for _, p := range l {
		s := p.Name + "/"
		for i, at := range p.Path {
			if i > 0 {
				s += "."
			}
			s += strconv.Itoa(at)
		}
		all = append(all, s)
	}
	return strings.Join(all, " ")
}

// has holds what names are in a node.
func has(t *testing.T, n api.Node, want string) {
	t.Helper()
	if got := placed(tree.Names(n)); got != want {
		t.Errorf("%s: %s, not %s", pattern(n, false), got, want)
	}
}

// P10.3: the names in a pattern, from the left on, and their paths.
func TestNamesOfPatterns(t *testing.T) {
	for _, l := range [][2]string{
		{"_", ""}, {"7", ""}, {"Nil", ""}, {"x", "x/"}, {"longer_Name0", "longer_Name0/"},
		{"Box _", ""}, {"Box x", "x/0"}, {"Box (Box (Box x))", "x/0.0.0"}, {"Pair x y", "x/0 y/1"}, {"Pair y x", "y/0 x/1"}, {"Pair _ y", "y/1"}, {"Pair 1 y", "y/1"}, {"Pair x _", "x/0"},
		{"Cons x (Cons _ y)", "x/0 y/1.1"}, {"Four a b c d", "a/0 b/1 c/2 d/3"}, {"Four _ b True d", "b/1 d/3"}, {"Node (Node a b c) d (Node e f g)", "a/0.0 b/0.1 c/0.2 d/1 e/2.0 f/2.1 g/2.2"},
		{"Pair (Pair (Pair a b) c) d", "a/0.0.0 b/0.0.1 c/0.1 d/1"}, {"Pair a (Pair b (Pair c d))", "a/0 b/1.0 c/1.1.0 d/1.1.1"}, {"Four (Box _) (Box x) Nil (Cons 1 y)", "x/1.0 y/3.1"},
	} {
		for _, n := range pats(t, l[0]) {
			has(t, n, l[1])
		}
	}
	// A name that stands there twice, and one that is empty, or any.
	has(t, con("Pair", name("x"), con("Pair", name("x"), name("x"))), "x/0 x/1.0 x/1.1")
	has(t, con("Pair", name(""), name("\x00 ")), "/0 \x00 /1")
}

// P10.3: of a name its own name alone, whatever Kids it has; of any other node those of its Kids, whatever its kind.
func TestNamesOfAnyNode(t *testing.T) {
	kids := []api.Node{name("a"), con("Box", name("b")), {Kind: api.NodeFun, Text: "p", Names: []string{"q"}, Kids: []api.Node{num(1), name("c")}}, wild()}
	for kind := -1; kind <= api.NodeProg+1; kind++ {
		for _, n := range []api.Node{{Kind: kind, Kids: kids}, {Kind: kind, Text: "n", Number: 5, At: 6, Names: []string{"m", "x"}, Kids: kids}} {
			if kind == api.NodeName {
				has(t, n, n.Text+"/")
				has(t, con("Pair", wild(), n), n.Text+"/1")
				continue
			}
			has(t, n, "a/0 b/1.0 c/2.1")
			has(t, con("Pair", n, name("d")), "a/0.0 b/0.1.0 c/0.2.1 d/1")
		}
		if kind != api.NodeName {
			has(t, api.Node{Kind: kind}, "")
			has(t, api.Node{Kind: kind, Text: "n", Number: 5, At: 6, Names: []string{"m"}}, "")
		}
	}
	for _, s := range []string{"fun x -> x y", "let f = g in f", "match a with | Cons x l -> b | y -> c end", "atomically (write v (read w))", "1"} {
		n := parsed(t, "do "+s)
		var names []string
		var goes func(n api.Node)
		goes = func(n api.Node) {
			if n.Kind == api.NodeName {
				names = append(names, n.Text)
			}
			for _, k := range n.Kids {
				goes(k)
			}
		}
		goes(n)
		l := tree.Names(n)
		for i, p := range l {
			if got := node(n, p.Path); got.Kind != api.NodeName || got.Text != p.Name || p.Name != names[i] {
				t.Errorf("%s: %s", s, placed(l))
			}
		}
		if len(l) != len(names) {
			t.Errorf("%s: %s", s, placed(l))
		}
	}
}

// P10.3: as deep, and as wide, as a node is.
func TestNamesOfGreatNodes(t *testing.T) {
	const many = 1 << 18
	has(t, boxes(1000, name("x")), "x/0"+strings.Repeat(".0", 999))
	l := tree.Names(boxes(many, con("Pair", wild(), name("x"))))
	if len(l) != 1 || l[0].Name != "x" || len(l[0].Path) != many+1 || l[0].Path[many] != 1 || slices.Max(l[0].Path[:many]) != 0 {
		t.Errorf("%d names", len(l))
	}
	if l := tree.Names(boxes(many, wild())); len(l) != 0 {
		t.Errorf("%d names", len(l))
	}
	wide := make([]api.Node, many)
	for i := range wide {
		if i%3 == 0 {
			wide[i] = name("x" + strconv.Itoa(i))
		}
	}
	l = tree.Names(con("Wide", wide...))
	if len(l) != (many+2)/3 {
		t.Errorf("%d names", len(l))
	}
	for i, p := range l {
		if p.Name != "x"+strconv.Itoa(3*i) || !slices.Equal(p.Path, []int{3 * i}) {
			t.Errorf("%v", p)
		}
	}
}

// R1, P10.3: nodes that share Kids, and ones that stand within themselves.
func TestNamesOfNodesThatShareKids(t *testing.T) {
	// Each has two of the one ahead: there are as many names as all of them have.
	twice, want := name("x"), []string{""}
	for range 10 {
		kids := []api.Node{twice, twice}
		twice = con("Pair", kids...)
		var l []string
		for _, at := range []string{"0", "1"} {
			for _, w := range want {
				l = append(l, strings.TrimSuffix(at+"."+w, "."))
			}
		}
		want = l
	}
	has(t, twice, "x/"+strings.Join(want, " x/"))
	// More nodes than can be gone through, and one name behind them, or ahead.
	none, late := wild(), name("x")
	for range 100 {
		none = con("Pair", none, none)
	}
	has(t, none, "")
	has(t, con("Pair", none, name("x")), "x/1")
	has(t, con("Pair", name("x"), none), "x/0")
	for range 100 {
		late = con("Four", none, none, late, none)
	}
	has(t, late, "x/2"+strings.Repeat(".2", 99))
	// A node without a name that stands within itself.
	self := con("Pair", wilds(2)...)
	self.Kids[0], self.Kids[1] = self, con("Box", self)
	has(t, self, "")
	has(t, con("Four", self, name("x"), con("Pair", self, name("y")), self), "x/1 y/2.1")
	// The same list of Kids, less the last ones.
	kids := []api.Node{name("a"), con("Pair", wilds(2)...), name("b")}
	kids[1].Kids = kids[:1]
	has(t, con("Four", kids...), "a/0 a/1.0 b/2")
	// What is a name's Kids is another node's, too.
	kids = []api.Node{name("a"), name("b")}
	has(t, con("Four", api.Node{Kind: api.NodeName, Text: "x", Kids: kids}, con("Pair", kids...), api.Node{Kind: api.NodeName, Text: "y", Kids: kids}), "x/0 a/1.0 b/1.1 y/2")
}

// R1: where so many names are in a node that they can't all be told, none is; but it ends.
func TestNamesWithoutEnd(t *testing.T) {
	for _, many := range []int{1, 2, 4} {
		for at := range many {
			for in := range many {
				n := con("Some", wilds(many)...)
				n.Kids[in] = con("Box", n)
				if at != in {
					n.Kids[at] = name("x")
				} else {
					n.Kids[at] = con("Pair", name("x"), n)
				}
				has(t, n, "")
				has(t, con("Pair", name("y"), n), "")
				has(t, con("Pair", n, name("y")), "")
			}
		}
	}
	twice := name("x")
	for range 100 {
		twice = con("Pair", twice, twice)
	}
	has(t, twice, "")
	has(t, con("Pair", name("y"), twice), "")
	// All the paths of so many names would take some ten gigabytes, the names without them two megabytes.
	stairs := name("x")
	for range 49152 {
		stairs = con("Pair", name("x"), stairs)
	}
	has(t, stairs, "")
}

// node is the node at a path in one.
func node(n api.Node, path []int) api.Node {
	for _, i := range path {
		n = n.Kids[i]
	}
	return n
}

// P10.3: the names of patterns made at random: at each path stands a name, and there are as many as names, in the order of their paths.
func TestNamesOfRandomPatterns(t *testing.T) {
	cons := conses(t)
	for seed := range 3000 {
		m := maker{rand.New(rand.NewSource(int64(seed))), cons, map[string]string{}, true}
		n := m.pattern("", 4, 8)
		l := tree.Names(n)
		for i, p := range l {
			if got := node(n, p.Path); got.Kind != api.NodeName || got.Text != p.Name {
				t.Fatalf("%s: %s", pattern(n, false), placed(l))
			}
			if i > 0 && slices.Compare(l[i-1].Path, p.Path) >= 0 {
				t.Fatalf("%s: %s", pattern(n, false), placed(l))
			}
		}
		if many := counts(n); many != len(l) {
			t.Fatalf("%s: %s", pattern(n, false), placed(l))
		}
	}
}

// counts is how many names there are in a pattern.
func counts(n api.Node) int {
	if n.Kind == api.NodeName {
		return 1
	}
	many := 0
	for _, k := range n.Kids {
		many += counts(k)
	}
	return many
}
