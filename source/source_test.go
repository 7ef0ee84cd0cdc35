package source_test

import (
	"slices"
	"strings"
	"testing"
	"time"

	"selvage/api"
	"selvage/parse"
	"selvage/show"
	"selvage/source"
)

// node is a source's node.
func node(t *testing.T, s string) api.Node {
	t.Helper()
	n, at, e := parse.Program(s)
	if e != api.OK {
		t.Fatalf("%s: %d, %v", s, at, e)
	}
	return n
}

// each is a source with each kind of node.
var each = []string{
	"do 1", "do \"a\"", "do ()", "do x", "do A 1 x () B", "do fun x -> y", "do f x (g y) z", "do let x = 1 in y", "do let rec f = fun x -> y in z", "do if a then b else c", "do retry", "do a; b; c", "do match a with | 1 -> b | A x _ -> c | A (B y) C -> d | _ -> e end", "do try a with x -> b end",
	"do a + b * c - d", "do (a = b) = (c < d)", "do print a", "do raise a", "do spawn a", "do atomically a", "do tvar a", "do read a", "do write a b", "do orelse a b", "do (A b) c", "do f (fun x -> x; y)", "type t = A; do 1", "type t a b = A of a, t a b | B | C of list (pair a (b c)) d; do 1",
	"let x = 1; do x", "let rec f = fun x -> y; do f", "let x = (a; b); do x", "let x = if a then (b; c) else (d; e); do x", "let rec f = fun x -> (let y = (a; b) in (c; d)); do x", "let x = try a; b with c -> d; e end; do x",
}

// parts are all nodes in a node, itself the first one.
func parts(n *api.Node) []*api.Node {
	l := []*api.Node{n}
	for i := range n.Kids {
		l = append(l, parts(&n.Kids[i])...)
	}
	return l
}

// copied is a node with lists of its own.
func copied(n api.Node) api.Node {
	n.Names, n.Kids = slices.Clone(n.Names), slices.Clone(n.Kids)
	for i, k := range n.Kids {
		n.Kids[i] = copied(k)
	}
	return n
}

// A source's node is had, wherever it stands; of each change of one of its parts show tells whether it is so still.
func TestHas(t *testing.T) {
	leaf := api.Node{Kind: api.NodeName, Text: "x"}
	changes := []func(n *api.Node){
		func(n *api.Node) {}, func(n *api.Node) { n.At -= 5 }, func(n *api.Node) { *n = api.Node{} }, func(n *api.Node) { *n = leaf }, func(n *api.Node) { n.Kids = nil }, func(n *api.Node) { n.Kids = append(n.Kids, leaf) }, func(n *api.Node) { n.Kids = n.Kids[:max(0, len(n.Kids)-1)] },
		func(n *api.Node) { slices.Reverse(n.Kids) }, func(n *api.Node) { n.Number++ }, func(n *api.Node) { n.Number-- }, func(n *api.Node) { n.Names = append(n.Names, "z") }, func(n *api.Node) { n.Names = []string{"in"} }, func(n *api.Node) { *n = api.Node{Kind: api.NodeSeq, Kids: []api.Node{copied(*n), leaf}} },
		func(n *api.Node) { *n = api.Node{Kind: api.NodeProg, Kids: []api.Node{copied(*n)}} }, func(n *api.Node) { *n = api.Node{Kind: api.NodeVal, Text: "v", Kids: []api.Node{copied(*n)}} },
	}
	for kind := -1; kind < 32; kind++ {
		changes = append(changes, func(n *api.Node) { n.Kind = kind })
	}
	for _, text := range []string{"", "x", "X", "_", "let", "x y", "1", "+", "=", "\"", strings.Repeat("x", 16), strings.Repeat("x", 17), strings.Repeat("\xff", 60), strings.Repeat("x", 61)} {
		changes = append(changes, func(n *api.Node) { n.Text = text })
	}
	var many [2]int
	for _, s := range each {
		whole := node(t, s)
		if !source.Has(whole) {
			t.Errorf("%s has no node", s)
		}
		for i := range parts(&whole) {
			for j, change := range changes {
				n := copied(whole)
				change(parts(&n)[i])
				_, e := show.Program(n)
				if source.Has(n) != (e == api.OK) {
					t.Errorf("%s, by change %d of part %d: %v", s, j, i, e)
				}
				many[int(e)]++
			}
		}
	}
	if many[0] < 500 || many[1] < 5000 {
		t.Error(many)
	}
}

// A source has what may be written in 2000 bytes, with as few blanks and brackets as can be.
func TestHasByBytes(t *testing.T) {
	for _, s := range []string{"do 1", "do f 1a\"\"()b", "do(1+1)*(1-1)", "do match a with|A(B 1a)_->1|A->2end", "let a=(let b=1;1in 1;1);do 1", "let a=let b=1in(1;1);do 1", "type t a b=A of a,t a b|B|C of l(p a(b c))d;do 1", "do\"\\n\\\"\\\\a \\x00\\xff~\""} {
		for _, more := range []int{0, 1} {
			n, left := node(t, s), 2000-len(s)+more
			for left > 0 {
				take := left
				if left > 69 {
					take = min(69, left-9)
				}
				left -= take
				n.Kids = append(node(t, "let z=\""+strings.Repeat("z", take-9)+"\";do 1").Kids[:1:1], n.Kids...)
			}
			if source.Has(n) != (more == 0) {
				t.Errorf("%s, and %d bytes more than may be: %v", s, more, more > 0)
			}
		}
	}
}

// Any node may be asked, also one that stands within itself.
func TestHasEnds(t *testing.T) {
	over := make(chan struct{})
	go func() {
		defer close(over)
		for kind := range 32 {
			loop := api.Node{Kind: kind, Text: "x", Kids: make([]api.Node, 2)}
			loop.Kids[0], loop.Kids[1] = loop, loop
			often := api.Node{Kind: kind, Text: "x"}
			for range 60 {
				often.Kids = []api.Node{often, often}
			}
			for _, n := range []api.Node{loop, often, {Kind: api.NodeProg, Kids: []api.Node{loop}}, {Kind: api.NodeProg, Kids: []api.Node{often}}, {Kind: kind, Kids: make([]api.Node, 1<<16)}, {Kind: kind, Names: make([]string, 1<<16)}} {
				if source.Has(n) {
					t.Errorf("a node of kind %d is had", kind)
				}
			}
		}
	}()
	select {
	case <-over:
	case <-time.After(60 * time.Second):
		t.Fatal("it is not over")
	}
}
