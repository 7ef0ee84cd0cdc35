package infer_test

import (
	"go/ast"
	"go/parser"
	"go/token"
	"math"
	"path/filepath"
	"reflect"
	"runtime"
	"slices"
	"strings"
	"sync"
	"testing"
	"time"
	"unsafe"

	"selvage/api"
	"selvage/infer"
)

// samples are sources with all that is told of a program, and some that are refused.
func samples() []string {
	return append(slices.Clone(each),
		list+pair+"let rec map = fun f -> fun l -> match l with | Nil -> Nil | Cons h t -> Cons (f h) (map f t) end; let r = tvar Nil; let g = fun x -> Pair r x; do g (map (fun x -> x) (Cons \"a\" Nil))",
		"type t a b = A of a, t a b | B of int, var b | C; type u = D of t int u; let a = A True C; let f = fun x -> fun y -> A x (A y C); let p = print \"a\"; do B 1 (tvar (fun x -> x))",
		"let r = tvar (raise 1); let get = fun x -> read r; do spawn (print (atomically (get ())))", "let f = fun x -> x x; do 1", "type t = A of t | A; do 1", "let f = fun x -> y; do 1",
		"do atomically (print \"a\")", pair+"do match Pair 1 2 with | Pair x x -> 1 end",
	)
}

func node1(kind int, text string, kids ...api.Node) api.Node {
	return api.Node{Kind: kind, Text: text, Kids: kids}
}

func doing(n api.Node) api.Node { return node1(api.NodeProg, "", n) }

// R1, R2: a call ends, and does not panic, whatever it is asked; beside an error the result is zero.
func TestEachCallEndsAtAllArguments(t *testing.T) {
	x := node1(api.NodeName, "x")
	kids := [][]api.Node{nil, {{}}, {x}, {x, x}, {{}, {}, {}}, {node1(api.NodeFun, "x", x), x}, {x, x, x, x, x}, slices.Repeat([]api.Node{x}, 50), slices.Repeat([]api.Node{node1(api.NodeDef, "A")}, 3)}
	for kind := -2; kind < 34; kind++ {
		for _, text := range []string{"", "x", "A", "+", "=", "int", "let", "\xff"} {
			for _, number := range []int{0, -1, math.MinInt, math.MaxInt} {
				for _, names := range [][]string{nil, {}, {""}, {"a", "a"}, {"a", "b", "c", "d", "e"}} {
					for _, k := range kids {
						n := api.Node{Kind: kind, Text: text, Number: number, At: number, Names: names, Kids: k}
						for _, p := range []api.Node{n, doing(n), doing(node1(api.NodeCall, "", n, n)), doing(node1(api.NodeMatch, "", n, n, n)), node1(api.NodeProg, "", n, x), node1(api.NodeProg, "", node1(api.NodeVal, "v", n), x), node1(api.NodeProg, "", node1(api.NodeType, "t", n), x)} {
							if r, at, e := infer.Program(p); e != api.OK && !reflect.DeepEqual(r, api.Result{}) || e == api.OK && (at != 0 || len(r.Cons) == 0) || e == api.ErrArg && at != 0 {
								t.Fatalf("%+v: %+v, %d, %v", p, r, at, e)
							}
						}
					}
				}
			}
		}
	}
}

// What is too deep, too wide, many times the same, or stands within itself.
func TestHugeNodes(t *testing.T) {
	x, unit := node1(api.NodeName, "x"), node1(api.NodeUnit, "")
	over := make(chan struct{})
	go func() {
		defer close(over)
		for kind := range 32 {
			for _, text := range []string{"", "x", "+"} {
				for many := range 4 {
					// As many Kids, of which one is the node itself, or all are; and one in one another.
					for at := range max(1, many) {
						loop := node1(kind, text, slices.Repeat([]api.Node{unit}, many)...)
						deep := node1(kind, text)
						if many > 0 {
							loop.Kids[at] = loop
						}
						for range 1 << 12 {
							l := slices.Repeat([]api.Node{x}, many)
							if many > 0 {
								l[at] = deep
							}
							deep = node1(kind, text, l...)
						}
						for _, n := range []api.Node{loop, deep} {
							if many > 0 {
								refused(t, "an endless node", n, true)
								refused(t, "an endless node", doing(n), true)
								refused(t, "an endless node", node1(api.NodeProg, "", node1(api.NodeVal, "v", n), x), true)
							}
						}
					}
					all := node1(kind, text, make([]api.Node, many)...)
					for i := range all.Kids {
						all.Kids[i] = all
					}
					often := node1(kind, text)
					for range 60 {
						often = node1(kind, text, slices.Repeat([]api.Node{often}, many)...)
					}
					if many > 0 {
						refused(t, "a node within itself", doing(all), true)
						refused(t, "a node with others many times", doing(often), true)
					}
				}
				refused(t, "a wide node", doing(node1(kind, text, make([]api.Node, 1<<16)...)), true)
				refused(t, "a wide node", node1(kind, text, slices.Repeat([]api.Node{x}, 1<<16)...), true)
				refused(t, "names", doing(api.Node{Kind: kind, Text: text, Names: make([]string, 1<<16)}), true)
			}
		}
	}()
	select {
	case <-over:
	case <-time.After(60 * time.Second):
		t.Fatal("it is not over")
	}
}

// What is given may be more in all than can be put together: it is left ahead of that.
func TestLongTextsAreNotPutTogether(t *testing.T) {
	long := strings.Repeat("\x00", 1<<22)
	var before, behind runtime.MemStats
	runtime.ReadMemStats(&before)
	for _, n := range []api.Node{node1(api.NodeText, long), node1(api.NodeName, long), node1(api.NodeCon, long), node1(api.NodeFun, long, node1(api.NodeUnit, "")), {Kind: api.NodeInt, Text: long}} {
		refused(t, "a long text", doing(n), true)
		refused(t, "long texts", doing(node1(api.NodeCon, "A", slices.Repeat([]api.Node{n}, 1000)...)), true)
		refused(t, "long names", node1(api.NodeProg, "", api.Node{Kind: api.NodeType, Text: "t", Names: slices.Repeat([]string{long}, 1000), Kids: []api.Node{node1(api.NodeDef, "A")}}, n), true)
	}
	runtime.ReadMemStats(&behind)
	if took := behind.TotalAlloc - before.TotalAlloc; took > 1<<24 {
		t.Errorf("it takes %d bytes", took)
	}
}

// Sources that are as long, as deep and as wide as can be are soon over.
func TestGreatSources(t *testing.T) {
	over := make(chan struct{})
	go func() {
		defer close(over)
		right(t, "do 1"+strings.Repeat("+1", 998))
		right(t, "do ()"+strings.Repeat(";()", 38))
		right(t, strings.Repeat("let f=fun x->x;", 60)+"do f"+strings.Repeat(" f", 500))
		right(t, "let f=fun x->x;do f 1"+strings.Repeat("+f 1", 490))
		right(t, "do match 1 with"+strings.Repeat("|_->match 1 with"+strings.Repeat("|_->1", 19)+"end", 15)+" end")
		right(t, "do "+strings.Repeat("let f=fun a->a in ", 38)+"f")
		// Each is a fun of the one ahead: of a type that has each variable often.
		right(t, pair+"let f=fun x->Pair x x;let g=fun x->f(f(f(f(f(f x)))));do let h=g in 1")
		fails(t, pair+"let f=fun x->Pair x x;let g=fun x->@f(f(f(f(f(f(f x))))));do g 1", api.ErrMany)
		// What is kept grows with each let, of which each has the one ahead twice.
		s := "type q a b=Q of a,b;let t=fun x->Q x x;let r=raise 1;let a=t r;"
		for range 40 {
			s += "let a=(match a with|Q a b->t b end);"
		}
		right(t, s+"do 1")
	}()
	select {
	case <-over:
	case <-time.After(60 * time.Second):
		t.Fatal("it is not over")
	}
}

// roomy is a node anew, whose lists have room to spare that is not empty.
func roomy(n api.Node) api.Node {
	names := append(slices.Clone(n.Names), "spare", "room")
	kids := append(slices.Clone(n.Kids), api.Node{Kind: 9, Text: "spare"}, api.Node{Kind: 8})
	n.Names, n.Kids = names[:len(n.Names)], kids[:len(n.Kids)]
	for i := range n.Kids {
		n.Kids[i] = roomy(n.Kids[i])
	}
	return n
}

// full is a node whose lists go up to their spare room's end.
func full(n api.Node) api.Node {
	n.Names, n.Kids = n.Names[:cap(n.Names)], slices.Clone(n.Kids[:cap(n.Kids)])
	for i := range n.Kids {
		n.Kids[i] = full(n.Kids[i])
	}
	return n
}

// R4: what is handed in is not changed, its spare room neither, nor is it kept.
func TestNothingHandedInIsChanged(t *testing.T) {
	for _, s := range samples() {
		n := roomy(node(t, s))
		kept := roomy(n)
		r, at, e := infer.Program(n)
		if !reflect.DeepEqual(full(n), full(kept)) {
			t.Errorf("%s is another node now", s)
		}
		was := told(r)
		for _, p := range parts(&n) {
			clear(p.Names[:cap(p.Names)])
			*p = api.Node{Kind: -1}
		}
		again, to, f := infer.Program(kept)
		if told(r) != was || told(again) != was || at != to || e != f {
			t.Errorf("%s: %s, %d, %v, and %s, %d, %v", s, told(r), at, e, told(again), to, f)
		}
	}
}

// lists are where all lists of types in a type begin.
func lists(u api.Type) []*api.Type {
	var l []*api.Type
	if cap(u.Args) > 0 {
		l = append(l, &u.Args[:1][0])
	}
	for _, arg := range u.Args {
		l = append(l, lists(arg)...)
	}
	return l
}

// texts are all texts in a type.
func texts(u api.Type) []string {
	l := []string{u.Name}
	for _, arg := range u.Args {
		l = append(l, texts(arg)...)
	}
	return l
}

// R4: what is answered is new memory, at every depth; no two lists of it are one; it shares none with what was handed in.
func TestWhatIsAnsweredIsNewMemory(t *testing.T) {
	for _, s := range samples() {
		n := node(t, s)
		a, _, _ := infer.Program(n)
		b, _, _ := infer.Program(n)
		met := map[*api.Type]bool{}
		var words []string
		for _, r := range []api.Result{a, b} {
			all := append(lists(r.Main), lists(api.Type{})...)
			words = append(words, texts(r.Main)...)
			for _, c := range r.Types {
				all, words = append(all, lists(c.Type)...), append(words, texts(c.Type)...)
			}
			for _, l := range all {
				if met[l] {
					t.Errorf("two lists told of %s are one", s)
				}
				met[l] = true
			}
			words = append(words, r.Names...)
			for _, c := range r.Cons {
				words = append(words, c.Name, c.Of)
			}
		}
		for _, p := range parts(&n) {
			for _, text := range append([]string{p.Text}, p.Names...) {
				if slices.ContainsFunc(words, func(w string) bool { return overlap(w, text) }) {
					t.Errorf("%q of %s is handed out", text, s)
				}
			}
		}
		was := told(b)
		clear(a.Cons[:cap(a.Cons)])
		clear(a.Names[:cap(a.Names)])
		for _, c := range a.Types {
			clear(c.Type.Args[:cap(c.Type.Args)])
		}
		clear(a.Types[:cap(a.Types)])
		clear(a.Main.Args[:cap(a.Main.Args)])
		if c, _, _ := infer.Program(n); told(b) != was || told(c) != was {
			t.Errorf("%s: what was told reaches what is told: %s, %s, not %s", s, told(b), told(c), was)
		}
	}
}

// overlap tells whether two texts share a byte.
func overlap(a, b string) bool {
	begin := func(s string) uintptr { return uintptr(unsafe.Pointer(unsafe.StringData(s))) }
	return a != "" && b != "" && begin(a) < begin(b)+uintptr(len(b)) && begin(b) < begin(a)+uintptr(len(a))
}

// R3: fields without a meaning are zero; and the variables of each type are 1, 2, .. by their first place.
func TestOtherFieldsAreZero(t *testing.T) {
	for _, s := range samples() {
		r, _, e := infer.Program(node(t, s))
		if e != api.OK {
			continue
		}
		for i, u := range append([]api.Type{r.Main}, typesOf(r)...) {
			last := 0
			var check func(u api.Type)
			check = func(u api.Type) {
				if u.Var != 0 && (u.Name != "" || u.Args != nil) || u.Var == 0 && u.Name == "" || u.Args != nil && len(u.Args) == 0 || u.Var > last+1 || u.Var < 0 {
					t.Errorf("type %d of %s has %+v", i, s, u)
				}
				last = max(last, u.Var)
				for _, arg := range u.Args {
					check(arg)
				}
			}
			check(u)
		}
	}
}

func typesOf(r api.Result) []api.Type {
	var l []api.Type
	for _, c := range r.Types {
		l = append(l, c.Type)
	}
	return l
}

// R4: nil and empty lists are one, at each depth.
func TestNilAndEmptyLists(t *testing.T) {
	for _, s := range samples() {
		n := node(t, s)
		r, at, e := infer.Program(n)
		for _, empty := range []bool{true, false} {
			for _, p := range parts(&n) {
				if len(p.Names) == 0 {
					p.Names = nil
					if empty {
						p.Names = []string{}
					}
				}
				if len(p.Kids) == 0 {
					p.Kids = nil
					if empty {
						p.Kids = make([]api.Node, 0, 3)
					}
				}
			}
			if is, to, f := infer.Program(n); told(is) != told(r) || to != at || f != e {
				t.Errorf("%s: %s, %d, %v, not %s, %d, %v", s, told(is), to, f, told(r), at, e)
			}
		}
	}
}

// R5: what is asked again is answered alike, whatever was asked between, or beside it.
func TestAnswersHangOnArgumentsAlone(t *testing.T) {
	type answer struct {
		r  api.Result
		at int
		e  api.Errno
	}
	var nodes []api.Node
	var first []answer
	for _, s := range samples() {
		n := node(t, s)
		r, at, e := infer.Program(n)
		nodes, first = append(nodes, n), append(first, answer{r, at, e})
	}
	var group sync.WaitGroup
	for hand := range 4 {
		group.Go(func() {
			for i := range 2000 {
				j := (i*7 + hand) % len(nodes)
				if r, at, e := infer.Program(copied(nodes[j])); !reflect.DeepEqual(answer{r, at, e}, first[j]) {
					t.Errorf("it is %s, %d, %v, and was %v", told(r), at, e, first[j])
				}
			}
		})
	}
	group.Wait()
}

// Ways: how a node is gone through is a method expression in a map; what is kept is cut back by a slice expression with three indices.
func TestWays(t *testing.T) {
	names, err := filepath.Glob("*.go")
	if err != nil {
		t.Fatal(err)
	}
	found := map[string]bool{}
	for _, name := range names {
		if strings.HasSuffix(name, "_test.go") {
			continue
		}
		file, err := parser.ParseFile(token.NewFileSet(), name, nil, 0)
		if err != nil {
			t.Fatal(err)
		}
		ast.Inspect(file, func(n ast.Node) bool {
			switch x := n.(type) {
			case *ast.CompositeLit:
				_, isMap := x.Type.(*ast.MapType)
				for _, e := range x.Elts {
					if pair, is := e.(*ast.KeyValueExpr); is && isMap {
						found["method expression"] = found["method expression"] || isMethodOf(pair.Value)
					}
				}
			case *ast.SliceExpr:
				of, is := x.X.(*ast.SelectorExpr)
				found["three indices"] = found["three indices"] || x.Slice3 && is && of.Sel.Name == "kept"
			}
			return true
		})
	}
	for _, way := range []string{"method expression", "three indices"} {
		if !found[way] {
			t.Errorf("way missing: %s", way)
		}
	}
}

// isMethodOf tells whether an expression is a pointer type's method.
func isMethodOf(e ast.Expr) bool {
	x, is := e.(*ast.SelectorExpr)
	if !is {
		return false
	}
	of, is := x.X.(*ast.ParenExpr)
	if !is {
		return false
	}
	_, is = of.X.(*ast.StarExpr)
	return is
}
