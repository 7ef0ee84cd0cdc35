package tl2_test

import (
	"go/ast"
	"go/parser"
	"go/token"
	"math"
	"path/filepath"
	"slices"
	"strings"
	"testing"
	"time"

	"selvage/api"
	"selvage/tl2"
)

// wild is a call of anything.
func (d *dice) wild() ask {
	whats := []string{
		"Make", "Begin", "Read", "Write", "Part", "Join", "Undo", "Valid", "Step", "Abort", "Active", "Clock", "Start", "Reads", "Newer", "Value", "Words", "Set",
	}
	number := func() int {
		edges := []int{-1, 7, 8, 3999, 4000, math.MinInt, math.MaxInt, 1 << 32, -1 << 32, 1<<32 + 1, 256, 1 << 31}
		if d.below(4) == 0 {
			return edges[d.below(len(edges))]
		}
		return d.below(4)
	}
	q := ask{what: whats[d.below(len(whats))], t: number(), n: number(), v: number()}
	for range d.below(12) {
		q.words = append(q.words, number())
	}
	return q
}

// R1: each call ends, and none panics, at all arguments; R2: beside an error every other result is its zero value.
func TestEachCallEndsAtAllArguments(t *testing.T) {
	met := map[string]int{}
	for seed := range 3000 {
		d, e := dice(seed), tl2.New()
		for range 200 {
			q := d.wild()
			a := asked(e, q)
			met[q.what+" "+a.e.Error()]++
			if a.e != api.OK && (a.n != 0 || a.is || len(a.list) > 0) {
				t.Fatalf("%+v is %+v", q, a)
			}
			if q.what == "Step" && a.e == api.OK && (a.n < 1 || a.n > 4) {
				t.Fatalf("there is no such step: %d", a.n)
			}
		}
	}
	for _, what := range []string{"Read", "Write", "Part", "Join", "Undo", "Valid", "Step", "Abort", "Begin", "Value"} {
		if met[what+" error 0"] < 100 || met[what+" error 1"] < 100 {
			t.Errorf("%s was met %d and %d times", what, met[what+" error 0"], met[what+" error 1"])
		}
	}
}

// The calls of a thread that there is not, or that has no transaction, and of a var that there is not.
func TestWhatThereIsNot(t *testing.T) {
	far := []int{-1, math.MinInt, math.MaxInt, 1 << 32, -1 << 32}
	x := vars(t, 5, 6)
	x.begin(0, 7)
	x.ok(x.Part(0))
	for _, n := range append(far, 1, 6, 8) {
		for _, e := range []api.Errno{x.Write(n, 0, 1), x.Part(n), x.Join(n), x.Undo(n), x.Valid(n), x.Abort(n)} {
			x.is(e, api.ErrArg)
		}
		x.refusesRead(n, 0, api.ErrArg)
		x.refusesStep(n, api.ErrArg)
		x.starts(n, -1)
		x.hasRead(n)
	}
	for _, n := range append(far, 2, 4000) {
		for _, t := range []int{0, 7} {
			x.refusesRead(t, n, api.ErrArg)
			x.is(x.Write(t, n, 1), api.ErrArg)
		}
	}
	x.has(5, 6)
	x.ok(x.Undo(0))
	x.steps(0, 4)
	x.steps(7, 4)
}

// R2: what is ErrArg changes nothing: another engine, of which it isn't asked, answers the same from there on.
func TestWhatIsRefusedChangesNothing(t *testing.T) {
	for seed := range 2000 {
		d := dice(seed)
		e, m := begun(t, nil)
		f := tl2.New()
		for range 1 + d.below(4) {
			q := ask{what: "Make", v: d.below(100)}
			agree(t, e, m, q, nil)
			asked(f, q)
		}
		for range 100 {
			q := d.any(m, 3)
			a := agree(t, e, m, q, nil)
			if a.e == api.ErrArg || a.e != api.OK && q.what != "Step" {
				continue
			}
			if got := asked(f, q); !got.same(a) {
				t.Fatalf("%+v is %+v, not %+v", q, got, a)
			}
		}
		for _, q := range m.all(3) {
			if a, b := asked(e, q), asked(f, q); !a.same(b) {
				t.Fatalf("%+v is %+v, not %+v", q, b, a)
			}
		}
	}
}

// R4: what is answered is new memory.
func TestWhatIsAnsweredIsNew(t *testing.T) {
	x := vars(t, 5, 6, 7, 8, 9)
	x.begin(0)
	for n := range 3 {
		x.reads(0, n, 5+n)
	}
	x.ok(x.Write(0, 1, 1))
	for _, ask := range []func() []int{func() []int { return x.Reads(0) }, x.Words} {
		a, b := ask(), ask()
		was := slices.Clone(a)
		clear(a)
		clear(a[:cap(a)])
		if !slices.Equal(b, was) || !slices.Equal(ask(), was) {
			t.Errorf("%v has become %v, and %v", was, b, ask())
		}
		longer := append(ask(), 77)
		x.reads(0, 3, 8)
		x.reads(0, 4, 9)
		if longer[len(was)] != 77 {
			t.Errorf("%v and more has become %v", was, longer)
		}
	}
	x.hasRead(0, 0, 1, 2, 3, 4)
	x.ok(x.Valid(0))
}

// R4: what is handed in is not changed, and not kept.
func TestWhatIsHandedInIsLeftAlone(t *testing.T) {
	x := vars(t, 5, 6)
	x.begin(0)
	x.ok(x.Write(0, 0, 7))
	room := []int{1, 2, 3, 4, 5}
	x.Set(room[:3])
	if !slices.Equal(room, []int{1, 2, 3, 4, 5}) {
		t.Errorf("what was handed in is %v", room)
	}
	clear(room)
	x.has(1, 2, 3)
	x.Make(8)
	x.ok(x.Write(0, 1, 9))
	if !slices.Equal(room, make([]int, 5)) {
		t.Errorf("what was handed in is %v", room)
	}
}

// R4: nil and empty lists are one.
func TestNilAndEmptyListsAreOne(t *testing.T) {
	for _, l := range [][]int{nil, {}} {
		x := vars(t)
		x.begin(0)
		x.Set(l)
		x.has()
		x.Make(3)
		x.Set(l)
		x.has(3)
	}
}

// R5: engines are told apart by what was asked of them alone; what is asked twice is answered twice the same.
func TestEnginesDoNotReachEachOther(t *testing.T) {
	for seed := range 300 {
		d := dice(seed)
		e, m := begun(t, nil)
		f, g := tl2.New(), tl2.New()
		for range 200 {
			q := d.any(m, 3)
			a := agree(t, e, m, q, nil)
			asked(g, d.any(m, 3))
			if b := asked(f, q); !a.same(b) {
				t.Fatalf("%+v is %+v, and %+v", q, a, b)
			}
			agreeOnAll(t, e, m, 1, nil)
		}
	}
}

// R5: writes are gone through in an order that hangs on no map, also if they are many.
func TestManyWrites(t *testing.T) {
	const many = 300
	x := vars(t, make([]int, many)...)
	x.begin(0, 1)
	for i := range many {
		n := i * 7 % many
		x.ok(x.Write(0, n, n+1))
		if n%3 == 0 {
			x.ok(x.Write(1, n, -n))
		}
	}
	words := x.Words()
	for n := range many {
		if words[many+n] != n+1 || n%3 == 0 && words[2*many+n/3] != -n {
			t.Fatalf("the words are %v", words)
		}
	}
	next := func() int {
		n := 0
		for n < many && !x.Newer(n, 0) {
			n++
		}
		return n
	}
	for n := range many {
		x.steps(0, 1)
		x.begin(2)
		x.refusesRead(2, n, api.ErrLocked)
		if n+1 < many {
			x.reads(2, n+1, 0)
		}
		x.ok(x.Abort(2))
	}
	x.steps(0, 2)
	for n := range many {
		if n > 0 && next() != 0 || x.Newer(n, 0) {
			t.Fatalf("var %d is written too early", n)
		}
		x.steps(0, []int{3, 4}[n/(many-1)])
		x.valueIs(n, n+1)
		x.versionIs(n, 1)
	}
}

// ends asks something that must be over soon.
func ends(t *testing.T, what string, ask func()) {
	t.Helper()
	over := make(chan struct{})
	go func() {
		defer close(over)
		ask()
	}()
	select {
	case <-over:
	case <-time.After(40 * time.Second):
		t.Fatalf("%s is not over", what)
	}
}

// R1: transactions of all vars, in all threads.
func TestGreatTransactions(t *testing.T) {
	x := vars(t, make([]int, api.MaxTvars)...)
	ends(t, "a great transaction", func() {
		for thread := range api.MaxThreads {
			x.begin(thread)
			for n := range api.MaxTvars {
				x.reads(thread, n, 0)
				x.ok(x.Write(thread, n, thread))
			}
		}
		x.steps(3, slices.Repeat([]int{1}, api.MaxTvars)...)
		x.steps(3, 2)
		if l := x.Words(); len(l) != (api.MaxThreads+1)*api.MaxTvars {
			t.Errorf("%d words", len(l))
		}
		x.steps(3, slices.Repeat([]int{3}, api.MaxTvars-1)...)
		x.steps(3, 4)
		for thread := range api.MaxThreads {
			if thread == 3 {
				continue
			}
			x.is(x.Valid(thread), api.ErrStale)
			x.steps(thread, slices.Repeat([]int{1}, api.MaxTvars)...)
			x.refusesStep(thread, api.ErrStale)
			x.ok(x.Abort(thread))
		}
	})
	x.has(slices.Repeat([]int{3}, api.MaxTvars)...)
}

// R1: parts may be as many as are asked for.
func TestManyParts(t *testing.T) {
	const many = 20000
	x := vars(t, 1, 2)
	x.begin(0)
	x.ok(x.Write(0, 0, 5))
	ends(t, "a transaction of many parts", func() {
		for n := range many {
			x.ok(x.Part(0))
			if n%2 == 0 {
				x.ok(x.Write(0, 1, n))
			}
			if n%100 == 0 {
				x.reads(0, 0, 5)
			}
		}
		if l := x.Words(); len(l) != 3+many/2 || l[3+many/2-1] != many-2 {
			t.Errorf("%d words", len(l))
		}
		x.refusesStep(0, api.ErrArg)
		for n := range many {
			if n%3 == 0 {
				x.ok(x.Undo(0))
			} else {
				x.ok(x.Join(0))
			}
		}
	})
	x.is(x.Join(0), api.ErrArg)
	x.steps(0, 1, 1, 2, 3, 4)
	x.valueIs(0, 5)
}

// Ways: writes stand in a map, which is copied into another one and gone through by a range over a map; threads stand in an array.
func TestWays(t *testing.T) {
	names, err := filepath.Glob("*.go")
	if err != nil {
		t.Fatal(err)
	}
	met := map[string]bool{}
	for _, name := range names {
		if strings.HasSuffix(name, "_test.go") {
			continue
		}
		file, err := parser.ParseFile(token.NewFileSet(), name, nil, 0)
		if err != nil {
			t.Fatal(err)
		}
		ast.Inspect(file, func(n ast.Node) bool {
			switch x := n.(type) {
			case *ast.FuncDecl:
				if rangesOverMap(x) {
					met["range over a map"] = true
				}
			case *ast.StructType:
				for _, f := range x.Fields.List {
					l, is := f.Type.(*ast.ArrayType)
					if !is {
						continue
					}
					if f.Names[0].Name == "threads" && l.Len != nil {
						met["array"] = true
					}
					if _, is := l.Elt.(*ast.MapType); is && f.Names[0].Name == "parts" {
						met["map"] = true
					}
				}
			case *ast.SelectorExpr:
				if of, is := x.X.(*ast.Ident); is && of.Name == "maps" && x.Sel.Name == "Copy" {
					met["copy"] = true
				}
			}
			return true
		})
	}
	for _, way := range []string{"map", "copy", "range over a map", "array"} {
		if !met[way] {
			t.Errorf("there is no %s", way)
		}
	}
}

// rangesOverMap tells whether a function goes through a map that it is given.
func rangesOverMap(f *ast.FuncDecl) bool {
	given := map[string]bool{}
	for _, p := range f.Type.Params.List {
		if _, is := p.Type.(*ast.MapType); is {
			for _, name := range p.Names {
				given[name.Name] = true
			}
		}
	}
	found := false
	ast.Inspect(f, func(n ast.Node) bool {
		if r, is := n.(*ast.RangeStmt); is {
			over, is := r.X.(*ast.Ident)
			found = found || is && given[over.Name]
		}
		return true
	})
	return found
}
