package show_test

import (
	"go/ast"
	"go/parser"
	"go/token"
	"math"
	"path/filepath"
	"reflect"
	"runtime"
	"slices"
	"strings"
	"sync"
	"testing"
	"unsafe"

	"selvage/api"
	"selvage/show"
)

// R1, R2: each call ends, and none panics, whatever it is asked; beside an error stands no text.
func TestEachCallEndsAtAllArguments(t *testing.T) {
	kids := [][]api.Node{nil, {{}}, {name("x")}, {name("x"), name("y")}, {{}, {}, {}}, slices.Repeat([]api.Node{name("x")}, 9)}
	for kind := -2; kind < 34; kind++ {
		for _, text := range []string{"", "x", "A", "+", "=", "let", "\xff"} {
			for _, number := range []int{0, -1, math.MinInt, math.MaxInt} {
				for _, names := range [][]string{nil, {}, {""}, {"a", "b"}} {
					for _, k := range kids {
						n := api.Node{Kind: kind, Text: text, Number: number, At: number, Names: names, Kids: k}
						for _, p := range []api.Node{n, does(n), of(api.NodeProg, "", n, n), does(of(api.NodeMatch, "", n, n, n)), of(api.NodeProg, "", of(api.NodeType, "t", n), name("x"))} {
							if s, e := show.Program(p); e != api.OK && (s != "" || e != api.ErrArg) || e == api.OK && !strings.Contains(s, "do ") {
								t.Fatalf("the text of %+v is %q, %v", p, s, e)
							}
						}
					}
				}
			}
		}
	}
}

// chain is nodes in one another, each as the frame has it.
func chain(f frame, at, many int) api.Node {
	n := name("x")
	for range many {
		n = f.round(n, at)
	}
	return n
}

// What is too deep, too wide, or many times the same.
func TestHugeNodes(t *testing.T) {
	for _, f := range frames() {
		for at := range f.kids {
			n := chain(f, at, 1<<13)
			for _, p := range programs(n) {
				refused(t, "a deep node", p)
			}
		}
	}
	for _, f := range []frame{{api.Node{Kind: api.NodeCall}, 2}, {api.Node{Kind: api.NodeOp, Text: "+"}, 2}, {api.Node{Kind: api.NodeProg}, 1}, {api.Node{}, 1}} {
		refused(t, "a deep node", does(chain(f, 0, 1<<18)))
	}
	for kind := range 32 {
		refused(t, "a wide node", does(of(kind, "x", make([]api.Node, 1<<16)...)))
		refused(t, "a wide node", of(kind, "", slices.Repeat([]api.Node{name("x")}, 1<<16)...))
		n := api.Node{Kind: kind, Text: "t"}
		for range 60 {
			n = of(kind, "t", n, n, n)
		}
		refused(t, "a node with others thrice", does(n))
		refused(t, "a node with others thrice", of(api.NodeProg, "", n, n))
		refused(t, "names", does(api.Node{Kind: kind, Text: "x", Names: make([]string, 1<<16)}))
	}
	typ := of(api.NodeType, "t", of(api.NodeDef, "A"))
	typ.Names = make([]string, 1<<20)
	refused(t, "names", of(api.NodeProg, "", typ, name("x")))
	refused(t, "nodes", of(api.NodeProg, "", make([]api.Node, 1<<20)...))
}

// What is given may be many times the same, and so in all more than can be put together: it is left ahead of that.
func TestLongTextsAreNotPutTogether(t *testing.T) {
	long := strings.Repeat("\x00", 1<<22)
	typ := of(api.NodeType, "t", of(api.NodeDef, "A"))
	typ.Names = slices.Repeat([]string{long}, 1000)
	nodes := []api.Node{of(api.NodeProg, "", typ, name("x"))}
	for _, n := range []api.Node{{Kind: api.NodeText, Text: long}, name(long), of(api.NodeCon, long), of(api.NodeOp, long, name("x"), name("x")), {Kind: api.NodeInt, Text: long}} {
		nodes = append(nodes, does(n), does(listOf(api.NodeCon, "A", 100, n)), does(listOf(api.NodeMatch, "", 100, n, n)), of(api.NodeProg, "", slices.Repeat([]api.Node{n}, 100)...))
	}
	var before, behind runtime.MemStats
	runtime.ReadMemStats(&before)
	for _, n := range nodes {
		refused(t, "long texts", n)
	}
	runtime.ReadMemStats(&behind)
	if took := behind.TotalAlloc - before.TotalAlloc; took > 1<<24 {
		t.Errorf("it takes %d bytes", took)
	}
}

// R4: what is handed in is not changed, its spare room neither; nor is it kept.
func TestNothingHandedInIsChanged(t *testing.T) {
	d := newDice(7)
	for i := range 2000 {
		var n api.Node
		switch {
		case i < len(whole):
			n = node(t, whole[i])
		default:
			n = d.program()
			if i%2 == 0 {
				d.broken(&n)
			}
		}
		n = roomy(n)
		kept := roomy(n)
		s, e := show.Program(n)
		if !reflect.DeepEqual(full(n), full(kept)) {
			t.Fatalf("%q is another node now", s)
		}
		// What is done with the node afterwards is not to be seen.
		was := strings.Clone(s)
		for _, p := range parts(&n) {
			clear(p.Names)
			clear(p.Kids[:0])
		}
		for _, p := range parts(&n) {
			*p = api.Node{Kind: -1}
		}
		if s != was {
			t.Fatalf("%q has become %q", was, s)
		}
		if again, f := show.Program(kept); again != was || f != e {
			t.Fatalf("%q, %v was %q, %v", again, f, was, e)
		}
	}
}

// roomy is a node anew, whose lists have room to spare that is not empty.
func roomy(n api.Node) api.Node {
	names := append(slices.Clone(n.Names), "spare", "room")
	kids := append(slices.Clone(n.Kids), api.Node{Kind: 9, Text: "spare"}, api.Node{Kind: 8})
	n.Names, n.Kids = names[:len(n.Names)], kids[:len(n.Kids)]
	for i := range n.Kids {
		n.Kids[i] = roomy(n.Kids[i])
	}
	return n
}

// full is a node whose lists go up to their spare room's end.
func full(n api.Node) api.Node {
	n.Names, n.Kids = n.Names[:cap(n.Names)], slices.Clone(n.Kids[:cap(n.Kids)])
	for i := range n.Kids {
		n.Kids[i] = full(n.Kids[i])
	}
	return n
}

// R4: a text is new memory.
func TestTextsAreNewMemory(t *testing.T) {
	for _, s := range whole {
		n := node(t, s)
		a, _ := show.Program(n)
		b, _ := show.Program(n)
		if overlap(a, b) {
			t.Errorf("two texts of %q share memory", s)
		}
		for _, p := range parts(&n) {
			for _, text := range append([]string{p.Text}, p.Names...) {
				if overlap(a, text) {
					t.Errorf("%q lies in the text of %q", text, s)
				}
			}
		}
	}
}

// overlap tells whether two texts share a byte.
func overlap(a, b string) bool {
	begin := func(s string) uintptr { return uintptr(unsafe.Pointer(unsafe.StringData(s))) }
	return a != "" && b != "" && begin(a) < begin(b)+uintptr(len(b)) && begin(b) < begin(a)+uintptr(len(a))
}

// R4: nil and empty lists are one, at each depth.
func TestNilAndEmptyLists(t *testing.T) {
	for _, s := range whole {
		n := node(t, s)
		want, _ := show.Program(n)
		for _, p := range parts(&n) {
			if len(p.Names) == 0 {
				p.Names = []string{}
			}
			if len(p.Kids) == 0 {
				p.Kids = make([]api.Node, 0, 3)
			}
		}
		shows(t, n, want)
		for _, p := range parts(&n) {
			if len(p.Names) == 0 {
				p.Names = nil
			}
			if len(p.Kids) == 0 {
				p.Kids = nil
			}
		}
		shows(t, n, want)
	}
}

// R5: what is asked again is answered alike, whatever was asked between, or beside it.
func TestAnswersHangOnArgumentsAlone(t *testing.T) {
	d := newDice(8)
	type answer struct {
		s string
		e api.Errno
	}
	var nodes []api.Node
	var first []answer
	for i := range 300 {
		n := d.program()
		if i%3 == 0 {
			d.broken(&n)
		}
		s, e := show.Program(n)
		nodes, first = append(nodes, n), append(first, answer{s, e})
	}
	var group sync.WaitGroup
	for hand := range 4 {
		group.Go(func() {
			for i := range 1200 {
				j := (i*7 + hand) % len(nodes)
				if s, e := show.Program(copied(nodes[j])); (answer{s, e}) != first[j] {
					t.Errorf("the text is %q, %v, and was %v", s, e, first[j])
				}
			}
		})
	}
	group.Wait()
}

// Ways: words are put together by a variadic function; how loosely a node binds is told by iota.
func TestWays(t *testing.T) {
	names, err := filepath.Glob("*.go")
	if err != nil {
		t.Fatal(err)
	}
	variadic := map[string]bool{}
	calls := map[string]int{}
	level := map[string]bool{} // constants that are numbered by iota
	asked := 0
	for _, name := range names {
		if strings.HasSuffix(name, "_test.go") {
			continue
		}
		file, err := parser.ParseFile(token.NewFileSet(), name, nil, 0)
		if err != nil {
			t.Fatal(err)
		}
		ast.Inspect(file, func(n ast.Node) bool {
			switch x := n.(type) {
			case *ast.FuncDecl:
				if p := x.Type.Params.List; len(p) > 0 {
					if _, is := p[len(p)-1].Type.(*ast.Ellipsis); is {
						variadic[x.Name.Name] = true
					}
				}
			case *ast.CallExpr:
				if f, is := x.Fun.(*ast.Ident); is {
					calls[f.Name]++
				}
			case *ast.GenDecl:
				numbered := false
				ast.Inspect(x, func(n ast.Node) bool {
					id, is := n.(*ast.Ident)
					numbered = numbered || is && id.Name == "iota"
					return true
				})
				for _, s := range x.Specs {
					if v, is := s.(*ast.ValueSpec); is && numbered {
						level[v.Names[0].Name] = true
					}
				}
			case *ast.ReturnStmt:
				for _, r := range x.Results {
					if id, is := r.(*ast.Ident); is && level[id.Name] {
						asked++
					}
				}
			}
			return true
		})
	}
	if !variadic["words"] || calls["words"] < 10 {
		t.Error("words are not put together by a variadic function")
	}
	if len(level) < 7 || asked < 6 {
		t.Error("how loosely a node binds is not told by iota")
	}
}
