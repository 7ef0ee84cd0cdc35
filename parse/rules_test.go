package parse_test

import (
	"go/ast"
	"go/parser"
	"go/token"
	"path/filepath"
	"slices"
	"strings"
	"sync"
	"testing"
	"unsafe"

	"selvage/api"
	"selvage/parse"
)

// R1, R2: each call ends, and none panics, whatever it is asked; beside an error stands the zero node, beside none no place.
func TestEachCallEndsAtAllArguments(t *testing.T) {
	pieces := []string{"", " ", "do ", "(", ")", "()", "let x = ", "let rec f = fun x -> ", " in ", "1", "x ", "A ", "match x with ", "| ", "-> ", " end ", "try x with e -> ", "fun x -> ", "if ", " then ", " else ", ";", "1;", "+", "1+", "=", "print ", "write ", "type t = ", "A of a ", ", ", "_ ", "retry ", "\"", "\"a\"", "$", "\x00", "\xff", "# ", "\n", "99999999999999999999"}
	for _, a := range pieces {
		for _, b := range pieces {
			for _, n := range []int{1, 2, 19, 45, 120, 700} {
				for _, s := range []string{strings.Repeat(a+b, n), "do " + strings.Repeat(a, n) + strings.Repeat(b, n), "let x = 1;" + a + strings.Repeat(b, n), strings.Repeat("let a=1;", 60) + a + strings.Repeat(b, n)} {
					p, at, e := parse.Program(s)
					if e != api.OK && (shown(p, 0) != "0@0" || at < 0 || at > len(s)) || e == api.OK && (p.Kind != api.NodeProg || at != 0) {
						t.Errorf("Program(%.50q) is %.50s, %d, %v", s, shown(p, 0), at, e)
					}
					if !parse.Same(p, p) || parse.Same(p, api.Node{Kind: -1}) {
						t.Errorf("Same of %.50q", s)
					}
				}
			}
		}
	}
	failsAt(t, strings.Repeat("(", 1<<26), 0, api.ErrLong)
}

// R3: each field that the chapter does not name for a kind is nought, and those that it names are there.
func TestFieldsOfEachKind(t *testing.T) {
	texts := []int{api.NodeText, api.NodeName, api.NodeCon, api.NodeFun, api.NodeLet, api.NodeRec, api.NodeTry, api.NodeOp, api.NodeType, api.NodeDef, api.NodeTy, api.NodeVal, api.NodeValRec}
	kids := map[int]int{api.NodeInt: 0, api.NodeText: 0, api.NodeUnit: 0, api.NodeName: 0, api.NodeRetry: 0, api.NodeAny: 0,
		api.NodeFun: 1, api.NodePrint: 1, api.NodeRaise: 1, api.NodeSpawn: 1, api.NodeAtom: 1, api.NodeTvar: 1, api.NodeRead: 1, api.NodeVal: 1, api.NodeValRec: 1,
		api.NodeCall: 2, api.NodeLet: 2, api.NodeRec: 2, api.NodeTry: 2, api.NodeOp: 2, api.NodeSeq: 2, api.NodeElse: 2, api.NodeWrite: 2, api.NodeIf: 3}
	d := dice(9)
	for i := range 3000 {
		s := whole[i%len(whole)]
		if i >= len(whole) {
			s, _ = d.program()
		}
		n := goes(t, s)
		for _, p := range parts(&n) {
			many, told := kids[p.Kind]
			if p.Kind != api.NodeInt && p.Number != 0 || !slices.Contains(texts, p.Kind) && p.Text != "" || p.Kind != api.NodeType && len(p.Names) != 0 || told && len(p.Kids) != many || kinds[p.Kind] == "" {
				t.Fatalf("%q has %+v", s, *p)
			}
			if p.Kind != api.NodeText && slices.Contains(texts, p.Kind) && p.Text == "" {
				t.Fatalf("%q has %+v, without a text", s, *p)
			}
		}
	}
}

// span is memory, from a place on up to another one.
type span struct{ from, to uintptr }

// lists are the memory of all lists of a node, at each depth, with their spare room.
func lists(n api.Node) []span {
	var l []span
	if cap(n.Names) > 0 {
		from := uintptr(unsafe.Pointer(unsafe.SliceData(n.Names)))
		l = append(l, span{from, from + uintptr(cap(n.Names))*unsafe.Sizeof("")})
	}
	if cap(n.Kids) > 0 {
		from := uintptr(unsafe.Pointer(unsafe.SliceData(n.Kids)))
		l = append(l, span{from, from + uintptr(cap(n.Kids))*unsafe.Sizeof(n)})
	}
	for _, k := range n.Kids {
		l = append(l, lists(k)...)
	}
	return l
}

// R4: what is answered is new memory at each depth: no two lists of it share any, nor do two answers; no text lies in the source.
func TestNodesAreNewMemory(t *testing.T) {
	d := dice(10)
	for i := range 400 {
		s := whole[i%len(whole)]
		if i >= len(whole) {
			s, _ = d.program()
		}
		kept := strings.Clone(s)
		a, b := goes(t, s), goes(t, s)
		all := append(lists(a), lists(b)...)
		slices.SortFunc(all, func(x, y span) int { return int(x.from) - int(y.from) })
		for j := range all[1:] {
			if all[j].to > all[j+1].from {
				t.Fatalf("%q: two lists share memory", s)
			}
		}
		for _, p := range parts(&a) {
			for _, text := range append([]string{p.Text}, p.Names...) {
				if overlap(text, s) {
					t.Fatalf("%q: the text %q lies in the source", s, text)
				}
			}
		}
		if s != kept {
			t.Fatal("the source is another one")
		}
	}
}

// overlap tells whether two texts share a byte.
func overlap(a, b string) bool {
	begin := func(s string) uintptr { return uintptr(unsafe.Pointer(unsafe.StringData(s))) }
	return a != "" && b != "" && begin(a) < begin(b)+uintptr(len(b)) && begin(b) < begin(a)+uintptr(len(a))
}

// R4: an answer is the asker's: what is done with it is not to be seen in another one.
func TestAnswersMayBeChanged(t *testing.T) {
	for _, s := range whole {
		a := goes(t, s)
		want := shown(a, 0)
		b := goes(t, s)
		for _, p := range parts(&a) {
			p.Names, p.Kids = p.Names[:cap(p.Names)], p.Kids[:cap(p.Kids)]
			for i := range p.Names {
				p.Names[i] = "no"
			}
		}
		for _, p := range parts(&a) {
			*p = api.Node{Kind: -1}
		}
		reads(t, s, want)
		if shown(b, 0) != want {
			t.Errorf("%q is %s now", s, shown(b, 0))
		}
	}
}

// R5: what is asked again is answered alike, whatever was asked between, or beside it.
func TestAnswersHangOnArgumentsAlone(t *testing.T) {
	sources := append([]string{"", "do (", "do $", "do A 1 2 3 4 5", "do " + strings.Repeat("(", 50), "let x = 1 do x", "let x = (a; b); !"}, whole...)
	type answer struct {
		node string
		at   int
		e    api.Errno
	}
	asked := func(s string) answer {
		n, at, e := parse.Program(s)
		return answer{shown(n, 0), at, e}
	}
	var first []answer
	for _, s := range sources {
		first = append(first, asked(s))
	}
	var group sync.WaitGroup
	for hand := range 4 {
		group.Go(func() {
			for i := range 400 {
				j := (i*7 + hand) % len(sources)
				if got := asked(strings.Clone(sources[j])); got != first[j] {
					t.Errorf("Program(%q) is %v, and was %v", sources[j], got, first[j])
				}
			}
		})
	}
	group.Wait()
	a, b := goes(t, whole[3]), goes(t, whole[4])
	for range 100 {
		roomy := a
		roomy.Kids = append(make([]api.Node, 0, 9), a.Kids...)
		same(t, a, roomy, true)
		same(t, a, b, false)
	}
}

// Ways: what an exp begins with is read by a method expression that a map tells by its word; what is one deeper is less deep again by a deferred call.
func TestWays(t *testing.T) {
	names, err := filepath.Glob("*.go")
	if err != nil {
		t.Fatal(err)
	}
	told := map[string]string{} // a word, and the method that reads what it begins
	deferred := false
	for _, name := range names {
		if strings.HasSuffix(name, "_test.go") {
			continue
		}
		file, err := parser.ParseFile(token.NewFileSet(), name, nil, 0)
		if err != nil {
			t.Fatal(err)
		}
		ast.Inspect(file, func(n ast.Node) bool {
			switch x := n.(type) {
			case *ast.CompositeLit:
				if _, is := x.Type.(*ast.MapType); is {
					for _, pair := range x.Elts {
						entry := pair.(*ast.KeyValueExpr)
						if method, is := entry.Value.(*ast.SelectorExpr); is {
							if _, expression := method.X.(*ast.ParenExpr); expression {
								told[strings.Trim(entry.Key.(*ast.BasicLit).Value, `"`)] = method.Sel.Name
							}
						}
					}
				}
			case *ast.FuncDecl:
				if x.Name.Name == "deeper" {
					ast.Inspect(x, func(n ast.Node) bool {
						_, is := n.(*ast.DeferStmt)
						deferred = deferred || is
						return true
					})
				}
			}
			return true
		})
	}
	for _, word := range []string{"let", "fun", "if", "(", "match", "try", "retry"} {
		if told[word] == "" {
			t.Errorf("no method expression is told by %q", word)
		}
	}
	if !deferred {
		t.Error("what is one deeper is not less deep again by a deferred call")
	}
}
