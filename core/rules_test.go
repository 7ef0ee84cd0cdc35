package core_test

import (
	"go/ast"
	"go/parser"
	"go/token"
	"math"
	"path/filepath"
	"reflect"
	"slices"
	"strings"
	"sync"
	"testing"
	"time"
	"unsafe"

	"selvage/api"
	"selvage/core"
	"selvage/parse"
)

// samples are sources that are right, with each kind of core among them.
func samples() []string {
	return []string{
		"do 1", "do \"a\"", "do ()", "do fun x -> fun y -> x", declared + "do Cons \"a\" Nil",
		declared + "let a = 1 + 2; let rec f = fun x -> if x = a then \"a\" ^ \"b\" else f (x - 1); let v = tvar 1; do print (f 3); spawn (print (f 1); spawn (print \"c\")); try raise (atomically (orelse (write v 2; retry) (read v))) with e -> e + (let u = v in atomically (read u)) end",
		declared + "let rec map = fun f -> fun l -> match l with | Nil -> Nil | Cons h t -> Cons (f h) (map f t) end; do match Three 1 (Three 2 Two) with | Three a (Three b c) -> (map (fun x -> x + a + b) Nil; c) | Three _ One -> One | x -> x end",
		"do match 1 with | 0 -> \"a\" | 7 -> \"b\" | x -> let y = x in let rec g = fun z -> g (z + y) in \"c\" end", declared + "do let a = 1 in let b = 2 in (fun x -> fun y -> let c = a in fun z -> a + b + c + x + y) 1 2 3",
	}
}

// refused are sources that are right, but are refused here.
func refused() []string {
	return []string{
		"do match 1 with | 0 -> 1 end", "do fun x -> match x with | 1 -> 2 | 1 -> 3 | _ -> 4 end", declared + "let a = 1; do (fun x -> a; match Nil with | Cons _ _ -> 1 end)",
	}
}

func node1(kind int, text string, kids ...api.Node) api.Node {
	return api.Node{Kind: kind, Text: text, Kids: kids}
}

func doing(n api.Node) api.Node { return node1(api.NodeProg, "", n) }

// ends holds that the call ends; that beside an error there are no functions; and that else each number is one that there is.
func ends(t *testing.T, n api.Node, cons []api.Con) {
	t.Helper()
	funs, at, e := core.Program(n, cons)
	switch {
	case e != api.OK && len(funs) > 0, e == api.OK && (at != 0 || len(funs) == 0), e == api.ErrArg && at != 0:
		t.Fatalf("%+v: %q, %d, %v", n, told(funs), at, e)
	case e == api.OK:
		numbered(t, "a node", funs)
		for _, f := range funs {
			cores(f.Body, func(c api.Core) {
				if c.Kind < api.CoreInt || c.Kind > api.CoreStore {
					t.Fatalf("%+v: a core of kind %d", n, c.Kind)
				}
			})
		}
	}
}

// R1, R2: the call ends, and does not panic, whatever it is asked; beside an error there are no functions.
func TestEachCallEndsAtAllArguments(t *testing.T) {
	_, cons := right(t, declared+"do 1")
	x := node1(api.NodeName, "x")
	kids := [][]api.Node{nil, {}, {{}}, {x}, {x, x}, {{}, {}, {}}, {node1(api.NodeFun, "x", x), x}, {x, x, x}, {x, node1(api.NodeInt, ""), x, x, x}, slices.Repeat([]api.Node{x}, 5), slices.Repeat([]api.Node{x}, 50), slices.Repeat([]api.Node{node1(api.NodeDef, "A")}, 3)}
	for kind := -2; kind < 34; kind++ {
		for _, text := range []string{"", "x", "Nil", "Cons", "+", "=", "let", "\xff"} {
			for _, number := range []int{0, -1, math.MinInt, math.MaxInt} {
				for _, names := range [][]string{nil, {}, {"a"}, {"", "a", "a"}} {
					for _, k := range kids {
						n := api.Node{Kind: kind, Text: text, Number: number, At: number, Names: names, Kids: k}
						for _, p := range []api.Node{n, doing(n), doing(node1(api.NodeFun, "x", n)), doing(node1(api.NodeFun, "x", node1(api.NodeMatch, "", n, n, n))), node1(api.NodeProg, "", node1(api.NodeVal, "x", n), x), node1(api.NodeProg, "", node1(api.NodeType, "t", n), x)} {
							ends(t, p, cons)
						}
					}
				}
			}
		}
	}
}

// R1: of programs that are not right, and of constructors that are not theirs, there is some answer.
func TestProgramsThatAreNotRight(t *testing.T) {
	lists := [][]api.Con{
		nil, {}, {{}}, {{Name: "Nil"}, {Name: "Cons"}}, {{Name: "Nil", Of: "list", Many: 2}, {Name: "Cons", Of: "list", Tag: 1, Arity: 2, Many: 2}}, {{Name: "Nil", Of: "list", Many: 2}, {Name: "Nil", Of: "list", Tag: 1, Arity: 2, Many: 2}},
		{{Name: "Nil", Of: "list", Many: 1, Tag: -5, Arity: -5}, {Name: "Cons", Of: "list", Tag: math.MaxInt, Arity: math.MaxInt, Many: math.MinInt}}, {{Name: "Cons", Of: "list", Arity: 2, Many: 1}}, {{Name: "", Of: "", Many: 1}}, {{Name: "Cons", Of: "x", Arity: 4, Many: 1}},
		slices.Repeat([]api.Con{{Name: "Cons", Of: "list", Tag: 1, Arity: 2, Many: 2}}, 1000),
	}
	sources := slices.Concat(samples(), refused(), []string{
		"do x", "do Nil", "do Cons", "do Cons 1 Nil", "do match 1 with | Cons x x -> x end", "do match 1 with | 1 -> 1 | Cons x y -> x | Nil -> y end", "do match 1 with | Cons (Cons 1 _) Nil -> 1 | Cons True 1 -> 2 | _ -> 3 end", "do Nil 1 2 3 4", "do match x with | Nope -> 1 end", "do 1 2", "do fun x -> y",
		"let x = y; let y = x; do z", "let rec f = fun x -> g x; let rec g = fun x -> f x; do f g", "do let rec f = fun x -> x in (x; f)", "do retry", "do atomically (print 1)", "type t = Cons of int; do Cons (Cons 1)", "do match 1 with | x -> x | y -> y end", "do \"a\" + ()",
	})
	for _, s := range sources {
		for _, cons := range lists {
			ends(t, node(t, s), cons)
		}
	}
	d := dice(5)
	for i := range 3000 {
		if n, _, e := parse.Program("do " + d.wild(i%30)); e == api.OK {
			ends(t, n, lists[i%len(lists)])
		}
	}
}

// Names, and constructors, that there are not are refused, for no core could stand for them.
func TestNamesThatThereAreNot(t *testing.T) {
	for s, place := range map[string]int{
		"do x": 3, "do fun x -> y": 12, "let x = x; do x": 8, "let f = fun x -> f; do f": 17, "let x = 1; do (let y = x in y) + y": 33, "do let rec f = fun x -> x in x": 29, "do try e with e -> e end": 7, "do match 1 with | 1 -> x | x -> x end": 23, "do (fun x -> x) x": 16, "do spawn (x; y)": 10,
		"do Nil": 3, "do Cons 1 Nil": 3, "do fun x -> True": 12,
	} {
		if funs, at, e := core.Program(node(t, s), nil); len(funs) > 0 || at != place || e != api.ErrName {
			t.Errorf("%s: %q, %d, %v", s, told(funs), at, e)
		}
	}
}

// within holds that something is over in some time.
func within(t *testing.T, seconds time.Duration, do func()) {
	t.Helper()
	over := make(chan struct{})
	go func() {
		defer close(over)
		do()
	}()
	select {
	case <-over:
	case <-time.After(seconds * time.Second):
		t.Fatal("it is not over")
	}
}

// R1: what is too deep, too wide, many times the same, or stands within itself.
func TestHugeNodes(t *testing.T) {
	x := node1(api.NodeName, "x")
	gone := func(n api.Node) {
		t.Helper()
		if funs, at, e := core.Program(n, nil); e != api.ErrArg || at != 0 || len(funs) > 0 {
			t.Errorf("a node of kind %d: %d, %v", n.Kind, at, e)
		}
	}
	within(t, 60, func() {
		for kind := range 33 {
			for _, text := range []string{"", "x", "+"} {
				for many := 1; many < 4; many++ {
					all, often := node1(kind, text, make([]api.Node, many)...), node1(kind, text)
					for at := range many {
						loop, deep := node1(kind, text, slices.Repeat([]api.Node{x}, many)...), node1(kind, text)
						loop.Kids[at] = loop
						for range 1 << 12 {
							l := slices.Repeat([]api.Node{x}, many)
							l[at] = deep
							deep = node1(kind, text, l...)
						}
						for _, n := range []api.Node{loop, deep} {
							gone(n)
							gone(doing(n))
							gone(node1(api.NodeProg, "", node1(api.NodeVal, "v", n), x))
						}
						all.Kids[at] = all
					}
					for range 60 {
						often = node1(kind, text, slices.Repeat([]api.Node{often}, many)...)
					}
					gone(doing(all))
					gone(doing(often))
				}
				gone(doing(node1(kind, text, make([]api.Node, 1<<16)...)))
				gone(node1(kind, text, slices.Repeat([]api.Node{x}, 1<<16)...))
				gone(doing(api.Node{Kind: kind, Text: text, Names: make([]string, 1<<16)}))
			}
		}
	})
}

// R1: sources that are as long, as deep and as wide as can be are soon over.
func TestGreatSources(t *testing.T) {
	_, cons := right(t, declared+"do 1")
	within(t, 60, func() {
		for _, s := range []string{
			"do 1" + strings.Repeat("+1", 998), "do ()" + strings.Repeat(";()", 38), strings.Repeat("let f=fun x->x;", 60) + "do f" + strings.Repeat(" f", 500), "do match 1 with" + strings.Repeat("|0->1|_->match 1 with", 30) + "|_->1" + strings.Repeat(" end", 31), "do " + strings.Repeat("let f=fun a->a in ", 38) + "f",
			"do " + strings.Repeat("fun x->", 38) + "x" + strings.Repeat(" x", 800), "do fun a->" + strings.Repeat("fun x->", 37) + "a" + strings.Repeat(" a", 800), "do 1" + strings.Repeat("+(match 1 with|0->1|1->2|x->x end)", 50), declared + "do 1" + strings.Repeat("+(match Nil with|Cons x _->x|_->1end)", 45),
		} {
			if funs, at, e := core.Program(node(t, s), cons); e != api.OK || at != 0 || len(funs) == 0 {
				t.Errorf("%s: %d, %v", s, at, e)
			}
		}
	})
}

// R3: fields without a meaning are zero.
func TestOtherFieldsAreZero(t *testing.T) {
	met := map[int]bool{}
	for _, s := range samples() {
		n, cons := right(t, s)
		funs, _, e := core.Program(n, cons)
		if e != api.OK {
			t.Errorf("%s: %v", s, e)
		}
		for _, f := range funs {
			cores(f.Body, func(c api.Core) {
				met[c.Kind] = true
				if !slices.Contains([]int{api.CoreInt, api.CoreLocal, api.CoreKept, api.CoreName, api.CoreMake, api.CoreFun, api.CoreLet, api.CoreMatch, api.CoreTry, api.CoreStore}, c.Kind) && c.Number != 0 {
					t.Errorf("%s: a core of kind %d has the number %d", s, c.Kind, c.Number)
				}
				if c.Kind != api.CoreText && c.Kind != api.CoreOp && c.Text != "" {
					t.Errorf("%s: a core of kind %d has the text %q", s, c.Kind, c.Text)
				}
				if c.Kind != api.CoreMatch && (len(c.Binds) > 0 || !reflect.DeepEqual(plainTree(c.Tree), api.Tree{})) {
					t.Errorf("%s: a core of kind %d has a tree, or binds", s, c.Kind)
				}
				if many := kidsOf(c.Kind); many >= 0 && len(c.Kids) != many || c.Kind == api.CoreMatch && len(c.Kids) != 1+len(c.Binds) {
					t.Errorf("%s: a core of kind %d has %d Kids", s, c.Kind, len(c.Kids))
				}
			})
		}
	}
	for kind := api.CoreInt; kind <= api.CoreStore; kind++ {
		if !met[kind] {
			t.Errorf("no core of kind %d is among them", kind)
		}
	}
}

// cores goes through all cores in one.
func cores(c api.Core, with func(api.Core)) {
	with(c)
	for _, k := range c.Kids {
		cores(k, with)
	}
}

// kidsOf is how many Kids a core of a kind has; below 0, if not all have as many.
func kidsOf(kind int) int {
	switch kind {
	case api.CoreInt, api.CoreText, api.CoreLocal, api.CoreKept, api.CoreSelf, api.CoreName, api.CoreRetry:
		return 0
	case api.CoreMake, api.CoreFun, api.CoreMatch:
		return -1
	case api.CoreIf:
		return 3
	case api.CorePrint, api.CoreRaise, api.CoreSpawn, api.CoreAtom, api.CoreTvar, api.CoreRead, api.CoreStore:
		return 1
	}
	return 2
}

// roomy is a node anew, whose lists have room to spare that is not empty.
func roomy(n api.Node) api.Node {
	names := append(slices.Clone(n.Names), "spare", "room")
	kids := append(slices.Clone(n.Kids), api.Node{Kind: 9, Text: "spare"}, api.Node{Kind: 8})
	n.Names, n.Kids = names[:len(n.Names)], kids[:len(n.Kids)]
	for i := range n.Kids {
		n.Kids[i] = roomy(n.Kids[i])
	}
	return n
}

// fullNode is a node whose lists go up to their spare room's end.
func fullNode(n api.Node) api.Node {
	n.Names, n.Kids = n.Names[:cap(n.Names)], slices.Clone(n.Kids[:cap(n.Kids)])
	for i := range n.Kids {
		n.Kids[i] = fullNode(n.Kids[i])
	}
	return n
}

// R4: what is handed in is not changed, its spare room neither, nor is it kept.
func TestNothingHandedInIsChanged(t *testing.T) {
	for _, s := range slices.Concat(samples(), refused()) {
		was, list := right(t, s)
		n, cons := roomy(was), append(slices.Clone(list), api.Con{Name: "Spare"})[:len(list)]
		kept, all := roomy(n), slices.Clone(cons[:cap(cons)])
		funs, at, e := core.Program(n, cons)
		if !reflect.DeepEqual(fullNode(n), fullNode(kept)) || !slices.Equal(cons[:cap(cons)], all) {
			t.Errorf("%s is another node now", s)
		}
		want := told(funs)
		for _, p := range parts(&n) {
			clear(p.Names[:cap(p.Names)])
			*p = api.Node{Kind: -1}
		}
		clear(cons[:cap(cons)])
		again, to, f := core.Program(kept, list)
		if !slices.Equal(told(funs), want) || !slices.Equal(told(again), want) || at != to || e != f {
			t.Errorf("%s: %q, %d, %v, and %q, %d, %v", s, told(funs), at, e, told(again), to, f)
		}
	}
}

// span is memory, from a place on up to another one.
type span struct{ from, to uintptr }

func spanOf[T any](l []T) []span {
	if cap(l) == 0 {
		return nil
	}
	var item T
	from := uintptr(unsafe.Pointer(unsafe.SliceData(l)))
	return []span{{from, from + uintptr(cap(l))*unsafe.Sizeof(item)}}
}

func textSpan(s string) []span {
	if s == "" {
		return nil
	}
	from := uintptr(unsafe.Pointer(unsafe.StringData(s)))
	return []span{{from, from + uintptr(len(s))}}
}

// memory is that of all lists of a core, with their spare room; and that of its texts.
func memory(c api.Core) (lists, texts []span) {
	lists, texts = slices.Concat(spanOf(c.Kids), spanOf(c.Binds)), textSpan(c.Text)
	for _, binds := range c.Binds {
		lists = append(lists, spanOf(binds)...)
		for _, b := range binds {
			lists = append(lists, spanOf(b.Path)...)
		}
	}
	var goes func(t api.Tree)
	goes = func(t api.Tree) {
		lists = slices.Concat(lists, spanOf(t.Path), spanOf(t.Cases), spanOf(t.Rest))
		for _, c := range t.Cases {
			texts = append(texts, textSpan(c.Con)...)
			goes(c.Tree)
		}
		for _, r := range t.Rest {
			goes(r)
		}
	}
	goes(c.Tree)
	for _, k := range c.Kids {
		l, m := memory(k)
		lists, texts = append(lists, l...), append(texts, m...)
	}
	return lists, texts
}

// nodeMemory is that of all lists of a node, and of its texts.
func nodeMemory(n api.Node) (lists, texts []span) {
	for _, p := range parts(&n) {
		lists = slices.Concat(lists, spanOf(p.Kids), spanOf(p.Names))
		texts = append(texts, textSpan(p.Text)...)
	}
	return lists, texts
}

// R4: what is answered is new memory, at each depth: no two lists share any, whether of an answer, of two, or of what was handed in; nor does a text
// with what was handed in.
func TestWhatIsAnsweredIsNewMemory(t *testing.T) {
	for _, s := range samples() {
		n, cons := right(t, s)
		all, given := nodeMemory(n)
		all = append(all, spanOf(cons)...)
		for _, c := range cons {
			given = slices.Concat(given, textSpan(c.Name), textSpan(c.Of))
		}
		var texts []span
		for range 2 {
			funs, _, _ := core.Program(n, cons)
			all = append(all, spanOf(funs)...)
			for _, f := range funs {
				l, m := memory(f.Body)
				all, texts = append(all, l...), append(texts, m...)
			}
		}
		slices.SortFunc(all, func(x, y span) int { return int(x.from) - int(y.from) })
		for j := range all[1:] {
			if all[j].to > all[j+1].from {
				t.Fatalf("%s: two lists share memory", s)
			}
		}
		for _, x := range texts {
			if slices.ContainsFunc(given, func(y span) bool { return x.from < y.to && y.from < x.to }) {
				t.Errorf("%s: a text that was handed in is handed out", s)
			}
		}
	}
}

// R4: nil and empty lists are one, at each depth.
func TestNilAndEmptyListsAreOne(t *testing.T) {
	for _, s := range samples() {
		n, cons := right(t, s)
		want, _, _ := core.Program(n, cons)
		for _, nils := range []bool{false, true} {
			m := copied(n)
			for _, p := range parts(&m) {
				if len(p.Names) == 0 {
					p.Names = map[bool][]string{false: {}}[nils]
				}
				if len(p.Kids) == 0 {
					p.Kids = map[bool][]api.Node{false: {}}[nils]
				}
			}
			if got, at, e := core.Program(m, cons); !reflect.DeepEqual(plain(got), plain(want)) || at != 0 || e != api.OK {
				t.Errorf("%s: %q, %d, %v", s, told(got), at, e)
			}
		}
	}
	for _, cons := range [][]api.Con{nil, {}} {
		if funs, at, e := core.Program(node(t, "do fun x -> x"), cons); len(funs) != 2 || at != 0 || e != api.OK {
			t.Errorf("%d, %v", at, e)
		}
		if funs, at, e := core.Program(node(t, "do fun x -> match x with | 1 -> x | _ -> 2 end"), cons); len(funs) != 2 || at != 0 || e != api.OK {
			t.Errorf("%d, %v", at, e)
		}
	}
}

// R5: what is asked again is answered alike, whatever was asked between, or beside it, and in whatever order constructors stand.
func TestAnswersHangOnArgumentsAlone(t *testing.T) {
	type answer struct {
		funs []api.Fun
		at   int
		e    api.Errno
	}
	var nodes []api.Node
	var all [][]api.Con
	var first []answer
	for _, s := range slices.Concat(samples(), refused()) {
		n, cons := right(t, s)
		funs, at, e := core.Program(n, cons)
		nodes, all, first = append(nodes, n), append(all, cons), append(first, answer{funs, at, e})
	}
	var group sync.WaitGroup
	for hand := range 4 {
		group.Go(func() {
			for i := range 400 {
				j := (i*7 + hand) % len(nodes)
				n, cons := nodes[j], slices.Clone(all[j])
				if i%2 == 0 {
					n = roomy(n)
					slices.Reverse(cons)
				}
				if funs, at, e := core.Program(n, cons); !reflect.DeepEqual(plain(funs), plain(first[j].funs)) || at != first[j].at || e != first[j].e {
					t.Errorf("it is %q, and was %q", told(funs), told(first[j].funs))
				}
			}
		})
	}
	group.Wait()
}

// Places do not count, but for where an error is told: at the node's own one.
func TestPlacesInNodes(t *testing.T) {
	for s, want := range map[string]api.Errno{
		"do @match 1 with | 0 -> 1 end": api.ErrCover, "do 1 + match 1 with | x -> 2 | @0 -> 1 end": api.ErrUseless, "do fun x -> (x; @match x with | 0 -> 1 end)": api.ErrCover,
	} {
		place := strings.IndexByte(s, '@')
		was, cons := right(t, strings.Replace(s, "@", "", 1))
		for _, moved := range []func(at int) int{func(at int) int { return at + 7 }, func(at int) int { return -at - 1 }, func(at int) int { return at * 1e15 }} {
			n := copied(was)
			for _, p := range parts(&n) {
				p.At = moved(p.At)
			}
			if funs, at, e := core.Program(n, cons); len(funs) > 0 || at != moved(place) || e != want {
				t.Errorf("%s, moved: %d, %v", s, at, e)
			}
		}
	}
	for _, s := range samples() {
		n, cons := right(t, s)
		want, _, _ := core.Program(n, cons)
		m := copied(n)
		for i, p := range parts(&m) {
			p.At = 1000 - i
		}
		if got, at, e := core.Program(m, cons); !slices.Equal(told(got), told(want)) || at != 0 || e != api.OK {
			t.Errorf("%s, moved: %q, %d, %v", s, told(got), at, e)
		}
	}
}

// Ways: how an exp is gone through is a method expression in a map; a scope is embedded in what goes through it.
func TestWays(t *testing.T) {
	names, err := filepath.Glob("*.go")
	if err != nil {
		t.Fatal(err)
	}
	embeds, found := false, 0
	for _, name := range names {
		if strings.HasSuffix(name, "_test.go") {
			continue
		}
		file, err := parser.ParseFile(token.NewFileSet(), name, nil, 0)
		if err != nil {
			t.Fatal(err)
		}
		ast.Inspect(file, func(n ast.Node) bool {
			switch x := n.(type) {
			case *ast.CompositeLit:
				if _, is := x.Type.(*ast.MapType); is {
					for _, e := range x.Elts {
						if isMethodOf(e.(*ast.KeyValueExpr).Value) {
							found++
						}
					}
				}
			case *ast.StructType:
				for _, f := range x.Fields.List {
					of, is := f.Type.(*ast.Ident)
					embeds = embeds || len(f.Names) == 0 && is && of.Name == "scope"
				}
			}
			return true
		})
	}
	if found < 20 || !embeds {
		t.Errorf("%d method expressions are in a map; a scope is embedded: %v", found, embeds)
	}
}

// isMethodOf tells whether an expression is a pointer type's method.
func isMethodOf(e ast.Expr) bool {
	x, is := e.(*ast.SelectorExpr)
	if !is {
		return false
	}
	of, is := x.X.(*ast.ParenExpr)
	if !is {
		return false
	}
	_, is = of.X.(*ast.StarExpr)
	return is
}
