package parse_test

import (
	"math"
	"slices"
	"strings"
	"testing"

	"selvage/api"
	"selvage/parse"
)

// same holds that two nodes are the same, or that they are not, whichever stands ahead.
func same(t *testing.T, a, b api.Node, want bool) {
	t.Helper()
	if parse.Same(a, b) != want || parse.Same(b, a) != want {
		t.Errorf("Same of %.200s and %.200s: %v and %v, not %v", shown(a, 0), shown(b, 0), parse.Same(a, b), parse.Same(b, a), want)
	}
}

// copied is a node anew, at each depth.
func copied(n api.Node) api.Node {
	n.Names, n.Kids = slices.Clone(n.Names), slices.Clone(n.Kids)
	for i := range n.Kids {
		n.Kids[i] = copied(n.Kids[i])
	}
	return n
}

// parts are a node and all within it.
func parts(n *api.Node) []*api.Node {
	l := []*api.Node{n}
	for i := range n.Kids {
		l = append(l, parts(&n.Kids[i])...)
	}
	return l
}

// P5.2: each source's node is the same as itself, and as no other one's.
func TestSameOfSources(t *testing.T) {
	sources := append([]string{"do 2", "do x", "do \"x\"", "do A", "do f x", "do A x", "do f x y", "do f (x y)", "do let x = 1 in f", "do let x = 2 in x", "do retry", "do tvar a", "do print b", "do write b a", "type u = A; do A", "type t = B; do A", "type t a = A; do A", "type t b = A; do A"}, whole...)
	for i, a := range sources {
		for j, b := range sources {
			same(t, goes(t, a), goes(t, b), i == j)
		}
	}
	same(t, api.Node{}, api.Node{}, true)
	same(t, api.Node{}, goes(t, "do 1"), false)
}

// Places do not count, at whatever depth.
func TestSameWithOtherPlaces(t *testing.T) {
	for _, s := range whole {
		a := goes(t, s)
		b := copied(a)
		for i, p := range parts(&b) {
			p.At += i*7 - 99
		}
		same(t, a, b, true)
		same(t, a, goes(t, "  "+strings.ReplaceAll(s, " ", " # a\n\t")), true)
		last := parts(&b)
		last[len(last)-1].At = math.MinInt
		same(t, a, b, true)
	}
}

// Each other field counts, in each node: one that differs in one of them only is another one.
func TestSameWithOneOtherField(t *testing.T) {
	for _, s := range whole {
		a := goes(t, s)
		for i := range parts(&a) {
			for _, change := range []func(n *api.Node){
				func(n *api.Node) { n.Kind++ },
				func(n *api.Node) { n.Kind = -n.Kind },
				func(n *api.Node) { n.Kind += 1 << 32 },
				func(n *api.Node) { n.Text += "a" },
				func(n *api.Node) { n.Text += "\x00" },
				func(n *api.Node) { n.Text = strings.ToUpper(n.Text) + " " },
				func(n *api.Node) { n.Number++ },
				func(n *api.Node) { n.Number = math.MinInt },
				func(n *api.Node) { n.Number += 1 << 32 },
				func(n *api.Node) { n.Names = append(n.Names, "") },
				func(n *api.Node) { n.Names = append(n.Names, "a") },
				func(n *api.Node) { n.Names = append([]string{"z"}, n.Names...) },
				func(n *api.Node) { n.Kids = append(n.Kids, api.Node{}) },
				func(n *api.Node) { n.Kids = append(n.Kids, api.Node{Kind: api.NodeUnit}) },
				func(n *api.Node) { n.Kids = append([]api.Node{{Kind: -1}}, n.Kids...) },
			} {
				b := copied(a)
				change(parts(&b)[i])
				same(t, a, b, false)
				c := copied(a)
				change(parts(&c)[i])
				same(t, b, c, true)
			}
			b := copied(a)
			p := parts(&b)[i]
			if len(p.Kids) > 0 {
				p.Kids = p.Kids[:len(p.Kids)-1]
				same(t, a, b, false)
			}
			b = copied(a)
			p = parts(&b)[i]
			if len(p.Kids) > 0 {
				p.Kids = nil
				same(t, a, b, false)
			}
			if len(p.Names) > 0 {
				p.Names[0] += "b"
				same(t, a, b, false)
			}
		}
	}
}

// What no source gives is held against another one likewise.
func TestSameOfOtherNodes(t *testing.T) {
	n := api.Node{Kind: -5, Text: "\xff", Number: math.MinInt, At: -1, Names: []string{"", "A", ""}, Kids: []api.Node{{Kind: 99}, {}, {Names: []string{"x"}}}}
	same(t, n, n, true)
	same(t, n, copied(n), true)
	for i, change := range []func(n *api.Node){
		func(n *api.Node) { n.Kind = 5 },
		func(n *api.Node) { n.Text = "\xfe" },
		func(n *api.Node) { n.Text = "\ufffd" },
		func(n *api.Node) { n.Number = math.MaxInt },
		func(n *api.Node) { n.Names[2] = "a" },
		func(n *api.Node) { n.Names = n.Names[:2] },
		func(n *api.Node) { n.Names = []string{"A", "", ""} },
		func(n *api.Node) { n.Names = []string{"A"} },
		func(n *api.Node) { n.Names = nil },
		func(n *api.Node) { n.Kids = nil },
		func(n *api.Node) { n.Kids[1].Kind = 1 },
		func(n *api.Node) { n.Kids[2].Names = []string{"y"} },
		func(n *api.Node) { n.Kids[2].Names = nil },
		func(n *api.Node) { n.Kids[0], n.Kids[1] = n.Kids[1], n.Kids[0] },
		func(n *api.Node) { n.Kids[1].Kids = []api.Node{{}} },
	} {
		m := copied(n)
		change(&m)
		if parse.Same(n, m) || parse.Same(m, n) {
			t.Errorf("change %d is not seen", i)
		}
	}
	for _, m := range []api.Node{{Kind: 1}, {Text: "a"}, {Number: 1}, {Names: []string{""}}, {Kids: []api.Node{{}}}} {
		same(t, m, api.Node{}, false)
		same(t, m, copied(m), true)
	}
	same(t, api.Node{At: 5}, api.Node{At: -7}, true)
	// Names that are the same when put together are not the same.
	same(t, api.Node{Names: []string{"ab", "c"}}, api.Node{Names: []string{"a", "bc"}}, false)
	same(t, api.Node{Names: []string{"ab"}}, api.Node{Text: "ab"}, false)
	// Nor are Kids that are as many in all.
	same(t, api.Node{Kids: []api.Node{{Kids: []api.Node{{}}}, {}}}, api.Node{Kids: []api.Node{{}, {Kids: []api.Node{{}}}}}, false)
}

// R4: nil and empty lists are one, at each depth.
func TestSameOfNilAndEmpty(t *testing.T) {
	a := api.Node{Kind: 1, Kids: []api.Node{{Kind: 2}, {Kind: 3}}}
	b := api.Node{Kind: 1, Names: []string{}, Kids: []api.Node{{Kind: 2, Kids: []api.Node{}}, {Kind: 3, Names: make([]string, 0, 9), Kids: make([]api.Node, 0, 9)}}}
	same(t, a, b, true)
	same(t, api.Node{Names: []string{}, Kids: []api.Node{}}, api.Node{}, true)
}

// chain is nodes in one another, so many, with another one within.
func chain(n int, last api.Node) api.Node {
	for range n {
		last = api.Node{Kind: api.NodePrint, Kids: []api.Node{last}}
	}
	return last
}

// As deep as they go: no depth is too great.
func TestSameOfDeepNodes(t *testing.T) {
	const deep = 1 << 18
	one, two := api.Node{Kind: api.NodeInt, Number: 1}, api.Node{Kind: api.NodeInt, Number: 2}
	for _, n := range []int{1, 39, 40, 41, 1000, deep} {
		a := chain(n, one)
		if b := chain(n, one); !parse.Same(a, b) || !parse.Same(a, a) {
			t.Errorf("two of %d are not the same", n)
		}
		if b := chain(n, two); parse.Same(a, b) || parse.Same(b, a) {
			t.Errorf("two others of %d are the same", n)
		}
		if b := chain(n+1, one); parse.Same(a, b) || parse.Same(b, a) {
			t.Errorf("%d and one more are the same", n)
		}
	}
}

// Many Kids, and many that are the same memory.
func TestSameOfWideNodes(t *testing.T) {
	a, b := make([]api.Node, 1<<20), make([]api.Node, 1<<20)
	same(t, api.Node{Kids: a}, api.Node{Kids: b}, true)
	b[1<<20-1].Number = 1
	if parse.Same(api.Node{Kids: a}, api.Node{Kids: b}) || parse.Same(api.Node{Kids: a}, api.Node{Kids: a[1:]}) {
		t.Error("other ones are the same")
	}
	// Each has the one below it twice: as a tree it is of 2^60 nodes.
	shared := func(last int) api.Node {
		n := api.Node{Number: last}
		for range 60 {
			n = api.Node{Kids: []api.Node{n, n}}
		}
		return n
	}
	x, y, z := shared(1), shared(1), shared(2)
	if !parse.Same(x, y) || parse.Same(x, z) || !parse.Same(x, x) {
		t.Error("what is shared is not seen")
	}
}

// Lists that begin as others do, but are longer, are gone through, too.
func TestSameOfListsThatBeginAlike(t *testing.T) {
	made := func(second int) api.Node {
		l := []api.Node{{Number: 1}, {Number: second}}
		short, long := api.Node{Kids: l[:1]}, api.Node{Kids: l}
		return api.Node{Kids: append(append(slices.Repeat([]api.Node{short}, 200), long), slices.Repeat([]api.Node{short}, 200)...)}
	}
	same(t, made(2), made(2), true)
	same(t, made(2), made(3), false)
}

// R1: also where nodes stand within themselves it ends; they are the same, as deep as they go.
func TestSameOfNodesWithinThemselves(t *testing.T) {
	round := func(n int, change int) api.Node {
		l := make([]api.Node, n)
		for i := range l {
			l[i] = api.Node{Kind: 1, Kids: l[(i+1)%n : (i+1)%n+1]}
		}
		l[n-1].Number = change
		return l[0]
	}
	for _, n := range []int{1, 2, 3, 7} {
		for _, m := range []int{1, 2, 3, 7, 10} {
			same := parse.Same(round(n, 0), round(m, 0))
			other := parse.Same(round(n, 0), round(m, 1))
			if !same || other {
				t.Errorf("rounds of %d and %d: %v, %v", n, m, same, other)
			}
		}
	}
}

// R4: nodes that are handed in are left as they are.
func TestSameChangesNothing(t *testing.T) {
	for _, s := range whole {
		a, b := goes(t, s), goes(t, s)
		kept := copied(a)
		parse.Same(a, b)
		parse.Same(b, goes(t, "do 1"))
		if shown(a, 0) != shown(kept, 0) || shown(b, 0) != shown(kept, 0) {
			t.Errorf("%q is another node now", s)
		}
	}
}
