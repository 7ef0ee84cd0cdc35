package fold_test

import (
	"go/ast"
	"go/parser"
	"go/token"
	"math"
	"path/filepath"
	"reflect"
	"slices"
	"strings"
	"sync"
	"testing"
	"time"
	"unsafe"

	"selvage/api"
	"selvage/fold"
	"selvage/parse"
)

// samples are programs with each kind of node.
var samples = []string{
	"type l a b = N | C of a, l (l a int) b; type u = U; let a = (1 + 2) * 3; let rec f = fun x -> f (1 + 2); let s = \"a\" ^ \"b\"; do if 1 < 2 then C a (C (f 1) N) else N",
	"do let x = 1 in let y = f x in match A x y with | A (A _ 1) z -> (1; z) | A x x -> 1 = 1 | _ -> let q = () in retry end",
	"do let rec f = fun x -> if x = 0 then 1 + 1 else f (x - 1) in try f (2 * 3); raise (1 / 0) with e -> e - 1 + (let u = e in 3) end",
	"do spawn (print (\"a\" ^ \"b\" ^ c)); atomically (orelse (write (tvar 1) (read v + 1)) (True; retry))",
	"do fun x -> fun y -> x (fun z -> let w = z in y)", "do 1", "do x", "do A", "do ()", "do 1 + 2", "do \"a\" ^ \"b\"", "do 1 = 2", "let a = if True then (f; g) else h; do a",
}

// most nodes by the bytes of a source.
func dense() []string {
	return []string{
		"do " + strings.Repeat("1a()", 499), "do " + strings.Repeat("a()", 665), "do " + strings.Repeat("1a ", 665), "do a" + strings.Repeat("\"\"", 998), "do A" + strings.Repeat("(A", 38) + strings.Repeat("()1a\"\"", 1) + strings.Repeat(")", 38),
		"do 1" + strings.Repeat("+a", 998), "do a" + strings.Repeat("=a;a", 38), "do match 1 with" + strings.Repeat("|A ____->a()1a()1a()1a()1a()1a()1a()1a()1a()1a()1a()1a()1a()1a()1a()1a()", 20) + "end",
		strings.Repeat("type t a b c d=A of a,b,c,d|B|C;", 60) + "do 1a()", strings.Repeat("let a=1a();", 60) + "do " + strings.Repeat("1a()", 330), "do " + strings.Repeat("f(1a())", 285), "do " + strings.Repeat("(1;a)", 399),
	}
}

// R1: nodes of a source are gone through, however many there are in it.
func TestGreatSources(t *testing.T) {
	for _, s := range dense() {
		n := program(t, s)
		for _, m := range append([]api.Node{n}, n.Kids...) {
			got := fold.Program(m)
			if want := modelFold(m); shown(got) != shown(want) || got.Kind == 0 || shown(fold.Exp(m)) != shown(want) {
				t.Errorf("%s is %s", s, shown(got))
			}
			if got, want := fold.Free(m), modelFree(m); !slices.Equal(got, want) {
				t.Errorf("free in %s: %q, not %q", s, got, want)
			}
		}
	}
}

// ends holds that calls end of any node: Exp tells one that stays as it is, and Free names each once.
func ends(t *testing.T, n api.Node) {
	t.Helper()
	one, other := fold.Exp(n), fold.Program(n)
	if again := fold.Exp(one); shown(again) != shown(one) || shown(other) != shown(one) {
		t.Fatalf("%s, %s, %s", shown(one), shown(again), shown(other))
	}
	l := fold.Free(n)
	once := slices.Compact(slices.Sorted(slices.Values(l)))
	if len(once) != len(l) {
		t.Fatalf("%q", l)
	}
}

// R1: each call ends, and none panics, whatever it is asked.
func TestEachCallEndsAtAllArguments(t *testing.T) {
	x, one := node(api.NodeName, "x"), api.Node{Kind: api.NodeInt, Number: 1}
	kids := [][]api.Node{nil, {}, {{}}, {x}, {one}, {x, x}, {one, one}, {one, x}, {{}, {}}, {node(api.NodeCon, "True")}, {node(api.NodeCon, "True"), x}, {node(api.NodeCon, "False"), x}, {node(api.NodeText, "a"), node(api.NodeText, "b")}, {node(api.NodeCon, "True"), one, x}, {one, one, one}, {node(api.NodeFun, "x"), x}, {node(api.NodeCon, "False", x), x, x, x}, slices.Repeat([]api.Node{x}, 5), slices.Repeat([]api.Node{x}, 50), {{Kind: api.NodeInt, Number: math.MinInt}, {Kind: api.NodeInt, Number: -1}}, {{Kind: api.NodeInt, Number: math.MaxInt}, one}}
	for _, kind := range append([]int{math.MinInt, -1, 0, math.MaxInt}, numbers(34)...) {
		for _, text := range []string{"", "x", "True", "+", "/", "<", "^", "\xff", strings.Repeat("x", 1000)} {
			for _, names := range [][]string{nil, {"", "a", "a"}} {
				for i, k := range kids {
					n := api.Node{Kind: kind, Text: text, Number: i - 5, At: -i, Names: names, Kids: k}
					for _, m := range []api.Node{n, doing(n), node(api.NodeLet, "x", n, n), node(api.NodeSeq, "", n, n), node(api.NodeMatch, "", n, n, n), node(api.NodeMatch, "", n, n), node(api.NodeIf, "", n, n, n)} {
						ends(t, m)
					}
				}
			}
		}
	}
}

func numbers(many int) []int {
	var l []int
	for i := range many {
		l = append(l, i)
	}
	return l
}

// gone holds that a node that is greater than a source's is left: the zero node, and no name, are told.
func gone(t *testing.T, n api.Node) {
	t.Helper()
	for _, got := range []api.Node{fold.Exp(n), fold.Program(n)} {
		if !reflect.DeepEqual(got, api.Node{}) {
			t.Fatalf("a node of kind %d is one of kind %d", n.Kind, got.Kind)
		}
	}
	if l := fold.Free(n); len(l) != 0 {
		t.Fatalf("%q", l)
	}
}

// within holds that something is over in some time.
func within(t *testing.T, seconds time.Duration, do func()) {
	t.Helper()
	over := make(chan struct{})
	go func() {
		defer close(over)
		do()
	}()
	select {
	case <-over:
	case <-time.After(seconds * time.Second):
		t.Fatal("it is not over")
	}
}

// R1: what is too deep, too wide, many times the same, or stands within itself.
func TestHugeNodes(t *testing.T) {
	x := node(api.NodeName, "x")
	wide := slices.Repeat([]api.Node{x}, 1<<20)
	within(t, 60, func() {
		for kind := range 34 {
			for _, text := range []string{"x", "+"} {
				for many := 1; many < 5; many++ {
					all, often := node(kind, text, make([]api.Node, many)...), node(kind, text)
					for at := range many {
						loop, deep := node(kind, text, slices.Repeat([]api.Node{x}, many)...), node(kind, text)
						loop.Kids[at] = loop
						for range 1 << 12 {
							l := slices.Repeat([]api.Node{x}, many)
							l[at] = deep
							deep = node(kind, text, l...)
						}
						gone(t, loop)
						gone(t, deep)
						all.Kids[at] = all
					}
					for range 60 {
						often = node(kind, text, slices.Repeat([]api.Node{often}, many)...)
					}
					gone(t, all)
					if many > 1 {
						gone(t, often)
					}
				}
				gone(t, node(kind, text, make([]api.Node, 1<<16)...))
				gone(t, node(kind, text, wide...))
				gone(t, doing(api.Node{Kind: kind, Text: text, Names: make([]string, 1<<16)}))
				gone(t, node(kind, text, slices.Repeat([]api.Node{{Kind: kind, Names: make([]string, 99)}}, 99)...))
			}
		}
	})
}

// R1: what no source has, but is no greater, is soon over, too.
func TestManyLets(t *testing.T) {
	within(t, 60, func() {
		for _, kind := range []int{api.NodeLet, api.NodeRec, api.NodeTry} {
			n := node(api.NodeName, "x")
			for i := range 1900 {
				n = node(kind, string(rune('y'+i%2)), node(api.NodeName, "z"), n)
			}
			ends(t, n)
			m := node(api.NodeName, "x")
			for range 1900 {
				m = node(kind, "x", m, node(api.NodeName, "x"))
			}
			ends(t, m)
			k := node(api.NodeMatch, "", slices.Repeat([]api.Node{node(api.NodeName, "x")}, 3901)...)
			ends(t, k)
			ends(t, node(kind, "x", node(api.NodeUnit, ""), k))
		}
	})
}

// roomy is a node anew, whose lists have room to spare that is not empty.
func roomy(n api.Node) api.Node {
	names := append(slices.Clone(n.Names), "spare", "room")
	kids := append(slices.Clone(n.Kids), api.Node{Kind: 9, Text: "spare"}, api.Node{Kind: 8})
	n.Names, n.Kids = names[:len(n.Names)], kids[:len(n.Kids)]
	for i := range n.Kids {
		n.Kids[i] = roomy(n.Kids[i])
	}
	return n
}

// full is a node whose lists go up to their spare room's end.
func full(n api.Node) api.Node {
	n.Names, n.Kids = n.Names[:cap(n.Names)], slices.Clone(n.Kids[:cap(n.Kids)])
	for i := range n.Kids {
		n.Kids[i] = full(n.Kids[i])
	}
	return n
}

// wipes overwrites all lists of a node, their spare room, too.
func wipes(n api.Node) {
	for _, k := range n.Kids {
		wipes(k)
	}
	clear(n.Names[:cap(n.Names)])
	clear(n.Kids[:cap(n.Kids)])
}

// R4: what is handed in is not changed, its spare room neither; nor is it kept.
func TestNothingHandedInIsChanged(t *testing.T) {
	for _, s := range samples {
		n := roomy(program(t, s))
		was := shown(full(n))
		one, other, free := fold.Program(n), fold.Exp(n), fold.Free(n)
		if shown(full(n)) != was {
			t.Errorf("%s is another node now", s)
		}
		want := shown(modelFold(program(t, s)))
		wipes(n)
		if shown(one) != want || shown(other) != want || !slices.Equal(free, modelFree(program(t, s))) {
			t.Errorf("%s: what was told is %s, %s, %q", s, shown(one), shown(other), free)
		}
	}
}

// span is memory, from a place on up to another one.
type span struct{ from, to uintptr }

// lists are the memory of all lists of a node, at each depth, with their spare room.
func lists(n api.Node) []span {
	var l []span
	if cap(n.Names) > 0 {
		from := uintptr(unsafe.Pointer(unsafe.SliceData(n.Names)))
		l = append(l, span{from, from + uintptr(cap(n.Names))*unsafe.Sizeof("")})
	}
	if cap(n.Kids) > 0 {
		from := uintptr(unsafe.Pointer(unsafe.SliceData(n.Kids)))
		l = append(l, span{from, from + uintptr(cap(n.Kids))*unsafe.Sizeof(n)})
	}
	for _, k := range n.Kids {
		l = append(l, lists(k)...)
	}
	return l
}

// texts are all texts in a node.
func texts(n api.Node) []string {
	l := append([]string{n.Text}, n.Names...)
	for _, k := range n.Kids {
		l = append(l, texts(k)...)
	}
	return l
}

// overlap tells whether two texts share a byte.
func overlap(a, b string) bool {
	begin := func(s string) uintptr { return uintptr(unsafe.Pointer(unsafe.StringData(s))) }
	return a != "" && b != "" && begin(a) < begin(b)+uintptr(len(b)) && begin(b) < begin(a)+uintptr(len(a))
}

// R4: what is answered is new memory, at each depth: no two lists share any, whether of an answer, of two, or of what was handed in.
func TestWhatIsAnsweredIsNewMemory(t *testing.T) {
	for _, s := range samples {
		n := roomy(program(t, s))
		all := slices.Concat(lists(n), lists(fold.Program(n)), lists(fold.Exp(n)), lists(fold.Program(n)))
		slices.SortFunc(all, func(x, y span) int { return int(x.from) - int(y.from) })
		for j := range all[1:] {
			if all[j].to > all[j+1].from {
				t.Fatalf("%s: two lists share memory", s)
			}
		}
		a, b := fold.Free(n), fold.Free(n)
		was := slices.Clone(b)
		for _, name := range a {
			for _, text := range texts(n) {
				if overlap(name, text) {
					t.Errorf("%s: the name %s is handed out", s, name)
				}
			}
		}
		clear(a[:cap(a)])
		if !slices.Equal(b, was) || !slices.Equal(fold.Free(n), was) {
			t.Errorf("%s: what was told reaches what is told", s)
		}
		one := fold.Program(n)
		wipes(one)
		if got := fold.Program(n); shown(got) != shown(modelFold(program(t, s))) {
			t.Errorf("%s is %s", s, shown(got))
		}
	}
}

// emptied is a node with empty lists in the place of nil, or nil in the place of empty ones.
func emptied(n api.Node, nils bool) api.Node {
	kids := []api.Node{}
	for _, k := range n.Kids {
		kids = append(kids, emptied(k, nils))
	}
	n.Kids = kids
	if len(n.Names) == 0 {
		n.Names = []string{}
	}
	if nils && len(n.Names) == 0 {
		n.Names = nil
	}
	if nils && len(kids) == 0 {
		n.Kids = nil
	}
	return n
}

// R4: nil and empty lists are one, at each depth.
func TestNilAndEmptyListsAreOne(t *testing.T) {
	for _, s := range append(slices.Clone(samples), "do if True then a else b", "do A (f 1); 2", "do Nil; 2", "do let x = Nil in 5") {
		n := program(t, s)
		want := modelFold(n)
		for _, nils := range []bool{false, true} {
			m := emptied(n, nils)
			if got := fold.Program(m); shown(got) != shown(want) || !parse.Same(got, want) {
				t.Errorf("%s is %s", s, shown(got))
			}
			if got := fold.Free(m); !slices.Equal(got, modelFree(n)) {
				t.Errorf("free in %s: %q", s, got)
			}
		}
	}
}

// R5: what is asked again is answered alike, whatever was asked between, or beside it.
func TestAnswersHangOnArgumentsAlone(t *testing.T) {
	d := dice(3)
	var nodes, first []api.Node
	var free [][]string
	for i := range 200 {
		n := d.exp(i % 40)
		nodes, first, free = append(nodes, n), append(first, fold.Exp(n)), append(free, fold.Free(n))
	}
	var group sync.WaitGroup
	for hand := range 4 {
		group.Go(func() {
			for i := range 2000 {
				j := (i*7 + hand) % len(nodes)
				n := nodes[j]
				if i%2 == 0 {
					n = roomy(n)
				}
				if got := fold.Exp(n); shown(got) != shown(first[j]) {
					t.Errorf("it is %s, and was %s", shown(got), shown(first[j]))
				}
				if got := fold.Free(n); !slices.Equal(got, free[j]) {
					t.Errorf("it is %q, and was %q", got, free[j])
				}
			}
		})
	}
	group.Wait()
}

// Ways: what is bound is kept by a slice expression with three indices; how an exp is folded is a function in a map whose keys are arrays.
func TestWays(t *testing.T) {
	names, err := filepath.Glob("*.go")
	if err != nil {
		t.Fatal(err)
	}
	functions, found := map[string]bool{}, map[string]bool{}
	for _, name := range names {
		if strings.HasSuffix(name, "_test.go") {
			continue
		}
		file, err := parser.ParseFile(token.NewFileSet(), name, nil, 0)
		if err != nil {
			t.Fatal(err)
		}
		for _, d := range file.Decls {
			if f, is := d.(*ast.FuncDecl); is && f.Recv == nil {
				functions[f.Name.Name] = true
			}
		}
		ast.Inspect(file, func(n ast.Node) bool {
			switch x := n.(type) {
			case *ast.CompositeLit:
				m, isMap := x.Type.(*ast.MapType)
				if !isMap {
					return true
				}
				if key, is := m.Key.(*ast.ArrayType); is && key.Len != nil {
					for _, e := range x.Elts {
						if value, is := e.(*ast.KeyValueExpr).Value.(*ast.Ident); is {
							found[value.Name] = true
						}
					}
				}
			case *ast.SliceExpr:
				of, is := x.X.(*ast.Ident)
				found["three indices"] = found["three indices"] || x.Slice3 && is && of.Name == "bound"
			}
			return true
		})
	}
	if !found["three indices"] {
		t.Error("what is bound is not kept by three indices")
	}
	many := 0
	for name := range found {
		if functions[name] {
			many++
		}
	}
	if many < 4 {
		t.Errorf("%d functions are in a map by arrays", many)
	}
}

// The chapter's examples.
func TestExamples(t *testing.T) {
	is(t, "1 + 2 * 3", "7")
	stays(t, "1 - 2")
	is(t, "let x = fun y -> x in 5", "5")
	is(t, "if 1 < 2 then a else b", "a")
}
