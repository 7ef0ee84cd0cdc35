package gen_test

import (
	"go/ast"
	"go/parser"
	"go/token"
	"math"
	"path/filepath"
	"reflect"
	"slices"
	"strings"
	"sync"
	"testing"
	"time"
	"unsafe"

	"selvage/api"
	"selvage/code"
	"selvage/gen"
	"selvage/verify"
)

// within60 holds that something is over in a minute.
func within60(t *testing.T, do func()) {
	t.Helper()
	over := make(chan struct{})
	go func() {
		defer close(over)
		do()
	}()
	select {
	case <-over:
	case <-time.After(60 * time.Second):
		t.Fatal("it is not over")
	}
}

// ends holds that the call ends; that beside an error there is no code; and that a code holds together.
func ends(t *testing.T, f []api.Fun, cons []api.Con, lets int) {
	t.Helper()
	c, at, e := gen.Code(f, cons, lets)
	none := c.Funs == nil && c.Ints == nil && c.Texts == nil && c.Lets == 0
	switch {
	case e == api.OK && (at != 0 || len(c.Funs) != len(f) || c.Lets != lets || verify.Code(c) != api.OK), e == api.ErrArg && (at != 0 || !none), e == api.ErrMany && (at < 0 || at >= len(f) || !none), e != api.OK && e != api.ErrArg && e != api.ErrMany:
		t.Fatalf("%.500s, %d, %v", told(c), at, e)
	}
}

// R1, R2: the call ends, and does not panic, whatever it is asked; beside an error there is no code.
func TestEachCallEndsAtAllArguments(t *testing.T) {
	numbers := []int{0, 1, 59, 60, 61, 65535, 65536, -1, math.MinInt, math.MaxInt}
	one, wild := read("1"), api.Core{Kind: -5, Number: math.MinInt, Kids: []api.Core{{}, {}}}
	kids := [][]api.Core{nil, {}, {{}}, {one}, {one, one}, {wild, one}, {one, wild, one}, {one, one, one}, slices.Repeat([]api.Core{one}, 5), slices.Repeat([]api.Core{one}, 61), slices.Repeat([]api.Core{{}}, 500)}
	trees := []api.Tree{{}, {Row: 1}, {Row: -1}, {Row: math.MinInt}, {Row: math.MaxInt}, {Path: []int{-1}}, {Rest: []api.Tree{{}}}, {Cases: []api.Case{{}}}, {Cases: []api.Case{{Con: "Nope"}}, Rest: []api.Tree{{}, {}}}, {Cases: []api.Case{{Number: -1}, {Number: math.MaxInt}}, Path: numbers}}
	for kind := -2; kind < 30; kind++ {
		for _, number := range numbers {
			for _, k := range kids {
				for i, tree := range trees {
					c := api.Core{Kind: kind, Number: number, Text: []string{"", "+", "^", "\xff"}[i%4], Kids: k, Tree: tree, Binds: [][][]api.Bind{nil, {}, {{}, {}}, {{{Local: number, Path: numbers}}}}[i%4]}
					ends(t, []api.Fun{{Body: c}}, cons(), 1)
					ends(t, []api.Fun{{Locals: 2, Body: one}, {Kept: number, Locals: number, Body: api.Core{Kind: api.CoreSeq, Kids: []api.Core{c, c}}}}, nil, number)
					ends(t, []api.Fun{{Locals: 60, Body: api.Core{Kind: api.CorePrint, Kids: []api.Core{c}}}, {Locals: 1, Body: one}}, []api.Con{{}, {Name: "Nope", Tag: number}}, 1)
				}
			}
		}
	}
}

// R1: what is too deep, too wide, many times the same, or stands within itself.
func TestHugeCores(t *testing.T) {
	one := read("1")
	within60(t, func() {
		for kind := -1; kind < 28; kind++ {
			for many := 1; many < 4; many++ {
				all := api.Core{Kind: kind, Text: "+", Kids: make([]api.Core, many), Tree: api.Tree{Cases: make([]api.Case, 3)}, Binds: make([][]api.Bind, many)}
				often := one
				for at := range many {
					loop := api.Core{Kind: kind, Text: "^", Kids: slices.Repeat([]api.Core{one}, many)}
					loop.Kids[at] = loop
					deep := one
					for range 1 << 14 {
						l := slices.Repeat([]api.Core{one}, many)
						l[at] = deep
						deep = api.Core{Kind: kind, Text: "^", Kids: l}
					}
					ends(t, []api.Fun{{Locals: 1, Body: loop}}, nil, 0)
					ends(t, []api.Fun{{Locals: 1, Body: deep}}, nil, 0)
					ends(t, []api.Fun{{Locals: 1, Body: api.Core{Kind: api.CoreSeq, Kids: []api.Core{{Kind: api.CoreStore, Kids: []api.Core{loop}}, deep}}}}, nil, 0)
					all.Kids[at] = all
				}
				for range 60 {
					often = api.Core{Kind: kind, Text: "*", Kids: slices.Repeat([]api.Core{often}, many)}
				}
				ends(t, []api.Fun{{Body: all}}, nil, 0)
				ends(t, []api.Fun{{Body: often}}, nil, 0)
			}
			wide := api.Core{Kind: kind, Text: "-", Kids: make([]api.Core, 1<<18)}
			ends(t, []api.Fun{{Body: wide}}, nil, 0)
			ends(t, slices.Repeat([]api.Fun{{Body: wide}}, 1<<8), nil, 0)
		}
		// A store that stands ahead in itself.
		seq := api.Core{Kind: api.CoreSeq, Kids: make([]api.Core, 2)}
		seq.Kids[0], seq.Kids[1] = api.Core{Kind: api.CoreStore, Kids: []api.Core{one}}, one
		seq.Kids[0].Kids[0] = seq
		ends(t, []api.Fun{{Body: seq}}, nil, 1)
	})
}

// R1: trees, paths and binds that are too great, and many times the same.
func TestHugeMatches(t *testing.T) {
	within60(t, func() {
		path := make([]int, 1<<20)
		loop := api.Tree{Path: []int{0}, Cases: make([]api.Case, 2), Rest: make([]api.Tree, 1)}
		loop.Cases[0].Tree, loop.Cases[1].Tree, loop.Rest[0] = loop, loop, loop
		only := api.Tree{Cases: make([]api.Case, 1)}
		only.Cases[0].Tree = only
		rest := api.Tree{Cases: make([]api.Case, 1), Rest: make([]api.Tree, 1)}
		rest.Rest[0] = rest
		wide := api.Tree{Cases: slices.Repeat([]api.Case{{Tree: loop}}, 1<<16), Path: path}
		often := api.Tree{}
		for range 100 {
			often = api.Tree{Cases: []api.Case{{Tree: often}, {Tree: often}, {Tree: often}}}
		}
		deep := api.Tree{}
		for range 1 << 16 {
			deep = api.Tree{Cases: []api.Case{{Tree: deep}}}
		}
		for i, tree := range []api.Tree{loop, only, rest, wide, often, deep, {Cases: []api.Case{{Tree: wide}}, Rest: []api.Tree{wide}}} {
			for _, binds := range [][][]api.Bind{nil, {slices.Repeat([]api.Bind{{Path: path}}, 1<<16)}, make([][]api.Bind, 1<<16)} {
				for _, rows := range []int{1, 2, 1 << 16} {
					body := api.Core{Kind: api.CoreMatch, Kids: slices.Repeat([]api.Core{read("1")}, rows+1), Tree: tree, Binds: binds}
					f := []api.Fun{{Locals: 1, Body: body}}
					ends(t, f, nil, 0)
					ends(t, slices.Repeat(f, 200), nil, 0)
				}
			}
			// What has no end in one another has 60 trees; those of which nothing is asked come to nothing.
			c, _, e := gen.Code([]api.Fun{{Locals: 1, Body: api.Core{Kind: api.CoreMatch, Kids: []api.Core{read("1"), read("2")}, Tree: tree}}}, nil, 0)
			if want := map[bool]api.Errno{false: api.ErrMany}[i == 1 || i == 5]; i != 2 && e != want || want == api.OK && i != 2 && listed(c.Funs[0].Code) != "Int 0, Set 0, Int 1, Return" {
				t.Errorf("%d: %s, %v", i, told(c), e)
			}
		}
	})
}

// R1, the bound: many functions that are each as great as may be, though they be many times the same.
func TestHugeFunctions(t *testing.T) {
	within60(t, func() {
		f := slices.Repeat([]api.Fun{{Body: read(prints(398, "1"))}}, 1<<13)
		ends(t, f, nil, 0)
		ends(t, f[:121], nil, 0)
		refuses(t, "many functions", f, 0, 0, api.ErrArg)
		f[len(f)-1].Body = read(prints(399, "1"))
		refuses(t, "many functions", f, 0, len(f)-1, api.ErrMany)
		text := strings.Repeat("a", 1<<26)
		body := read("\"a\"")
		body.Text = text
		ends(t, []api.Fun{{Body: body}}, nil, 0)
		ends(t, slices.Repeat([]api.Fun{{Body: body}}, 20), nil, 0)
		ends(t, f[:1], slices.Repeat([]api.Con{{Name: text}}, 10), 0)
	})
}

// R3: operands that an Op does not use are zero.
func TestOtherOperandsAreZero(t *testing.T) {
	met := map[int]bool{}
	for _, s := range everything() {
		c, _, e := gen.Code(among(read(s)), cons(), fewLets)
		if e != api.OK {
			t.Errorf("%s: %v", s, e)
		}
		for _, f := range c.Funs {
			for _, i := range f.Code {
				met[i.Op] = true
				if uses := code.Uses(i.Op); uses < 2 && i.B != 0 || uses < 1 && i.A != 0 {
					t.Errorf("%s: %s", s, listed([]api.Instr{i}))
				}
			}
		}
	}
	for op := api.OpInt; op <= api.OpWrite; op++ {
		if !met[op] {
			t.Errorf("%s is not among them", opNames[op])
		}
	}
}

// roomy is a core anew, at each depth, whose lists have room to spare that is not empty.
func roomy(c api.Core) api.Core {
	kids, all := append(slices.Clone(c.Kids), api.Core{Kind: 7}, api.Core{Kind: 8}), append(slices.Clone(c.Binds), []api.Bind{{Local: 3}})
	for i, k := range kids {
		kids[i] = roomyPart(k, i < len(c.Kids))
	}
	for i, binds := range all {
		l := append(slices.Clone(binds), api.Bind{Local: 9})
		for j, b := range l {
			l[j].Path = spare(b.Path)
		}
		all[i] = l[:len(binds)]
	}
	c.Kids, c.Binds, c.Tree = kids[:len(c.Kids)], all[:len(c.Binds)], roomyTree(c.Tree)
	return c
}

func roomyPart(c api.Core, inner bool) api.Core {
	if inner {
		return roomy(c)
	}
	return c
}

func spare(l []int) []int { return append(slices.Clone(l), 77, 78)[:len(l)] }

func roomyTree(t api.Tree) api.Tree {
	cases, rest := append(slices.Clone(t.Cases), api.Case{Number: 5}), append(slices.Clone(t.Rest), api.Tree{Row: 8})
	for i, c := range t.Cases {
		cases[i].Tree = roomyTree(c.Tree)
	}
	for i, r := range t.Rest {
		rest[i] = roomyTree(r)
	}
	t.Path, t.Cases, t.Rest = spare(t.Path), cases[:len(t.Cases)], rest[:len(t.Rest)]
	return t
}

// full is a core whose lists go up to their spare room's end.
func full(c api.Core) api.Core {
	c.Kids, c.Binds = slices.Clone(c.Kids[:cap(c.Kids)]), slices.Clone(c.Binds[:cap(c.Binds)])
	for i, k := range c.Kids {
		c.Kids[i] = full(k)
	}
	for i, binds := range c.Binds {
		l := slices.Clone(binds[:cap(binds)])
		for j, b := range l {
			l[j].Path = b.Path[:cap(b.Path)]
		}
		c.Binds[i] = l
	}
	c.Tree = fullTree(c.Tree)
	return c
}

func fullTree(t api.Tree) api.Tree {
	t.Path, t.Cases, t.Rest = t.Path[:cap(t.Path)], slices.Clone(t.Cases[:cap(t.Cases)]), slices.Clone(t.Rest[:cap(t.Rest)])
	for i, c := range t.Cases {
		t.Cases[i].Tree = fullTree(c.Tree)
	}
	for i, r := range t.Rest {
		t.Rest[i] = fullTree(r)
	}
	return t
}

// wipes makes all of a core's lists empty.
func wipes(c api.Core) {
	for _, k := range c.Kids {
		wipes(k)
	}
	for _, binds := range c.Binds {
		for _, b := range binds {
			clear(b.Path)
		}
		clear(binds)
	}
	var goes func(t api.Tree)
	goes = func(t api.Tree) {
		for _, c := range t.Cases {
			goes(c.Tree)
		}
		for _, r := range t.Rest {
			goes(r)
		}
		clear(t.Path)
		clear(t.Cases)
		clear(t.Rest)
	}
	goes(c.Tree)
	clear(c.Kids)
	clear(c.Binds)
}

// samples are bodies that may be, and others.
func samples() []string {
	return append(everything(), "%77", "(match 0 1 (ask @ 65536 r0 else r1) (row 1) (row 2))", "(match 0 1 (ask @0 Nope r0 else r1) (row %1@0 1) (row %2@ 2))", prints(400, "(+ \"a\" 7)"), "(print)")
}

// R4: what is handed in is not changed, its spare room neither, nor is it kept.
func TestNothingHandedInIsChanged(t *testing.T) {
	for _, s := range samples() {
		f := append(among(roomy(read(s))), api.Fun{Kept: 3, Body: read("(+ 1 2)")})[:4]
		list := append(cons(), api.Con{Name: "Spare"})[:len(cons())]
		kept, keptBody, all := slices.Clone(f[:5]), full(f[1].Body), slices.Clone(list[:cap(list)])
		c, at, e := gen.Code(f, list, fewLets)
		if !reflect.DeepEqual(full(f[1].Body), keptBody) || !reflect.DeepEqual(f[:5], kept) || !slices.Equal(list[:cap(list)], all) {
			t.Errorf("%s is another body now", s)
		}
		want := told(c)
		wipes(f[1].Body)
		clear(f[:5])
		clear(list[:cap(list)])
		again, to, g := gen.Code(among(read(s)), cons(), fewLets)
		if told(c) != want || told(again) != want || at != to || e != g {
			t.Errorf("%s: %s, %d, %v, and %s, %d, %v", s, told(c), at, e, told(again), to, g)
		}
	}
}

// span is memory, from a place on up to another one.
type span struct{ from, to uintptr }

func spanOf[T any](l []T) []span {
	if cap(l) == 0 {
		return nil
	}
	var item T
	from := uintptr(unsafe.Pointer(unsafe.SliceData(l)))
	return []span{{from, from + uintptr(cap(l))*unsafe.Sizeof(item)}}
}

// R4: what is answered is new memory: no two lists share any, whether of an answer or of two; nor does a text with one that was handed in.
func TestWhatIsAnsweredIsNewMemory(t *testing.T) {
	for _, s := range everything() {
		f := among(read(s))
		var given []span
		var goes func(c api.Core)
		goes = func(c api.Core) {
			if c.Text != "" {
				from := uintptr(unsafe.Pointer(unsafe.StringData(c.Text)))
				given = append(given, span{from, from + uintptr(len(c.Text))})
			}
			for _, k := range c.Kids {
				goes(k)
			}
		}
		goes(f[1].Body)
		var all []span
		for range 2 {
			c, _, _ := gen.Code(f, cons(), fewLets)
			all = slices.Concat(all, spanOf(c.Funs), spanOf(c.Ints), spanOf(c.Texts))
			for _, f := range c.Funs {
				all = append(all, spanOf(f.Code)...)
			}
			for _, text := range c.Texts {
				from := uintptr(unsafe.Pointer(unsafe.StringData(text)))
				if slices.ContainsFunc(given, func(x span) bool { return text != "" && from < x.to && x.from < from+uintptr(len(text)) }) {
					t.Errorf("%s: %q was handed in", s, text)
				}
			}
			defer clear(c.Funs) // it is not moved or freed meanwhile
		}
		slices.SortFunc(all, func(x, y span) int { return int(x.from) - int(y.from) })
		for i := range all[1:] {
			if all[i].to > all[i+1].from {
				t.Errorf("%s: two lists share memory", s)
			}
		}
	}
}

// R4: nil and empty lists are one, at each depth.
func TestNilAndEmptyListsAreOne(t *testing.T) {
	var emptyTree func(t api.Tree) api.Tree
	emptyTree = func(t api.Tree) api.Tree {
		t.Path, t.Cases, t.Rest = append([]int{}, t.Path...), append([]api.Case{}, t.Cases...), append([]api.Tree{}, t.Rest...)
		for i, c := range t.Cases {
			t.Cases[i].Tree = emptyTree(c.Tree)
		}
		for i, r := range t.Rest {
			t.Rest[i] = emptyTree(r)
		}
		return t
	}
	var empty func(c api.Core) api.Core
	empty = func(c api.Core) api.Core {
		c.Kids, c.Binds, c.Tree = append([]api.Core{}, c.Kids...), append([][]api.Bind{}, c.Binds...), emptyTree(c.Tree)
		for i, k := range c.Kids {
			c.Kids[i] = empty(k)
		}
		for i, binds := range c.Binds {
			c.Binds[i] = append([]api.Bind{}, binds...)
			for j, b := range binds {
				c.Binds[i][j].Path = append([]int{}, b.Path...)
			}
		}
		return c
	}
	for _, s := range samples() {
		want, to, f := gen.Code(among(read(s)), cons(), fewLets)
		if c, at, e := gen.Code(among(empty(read(s))), cons(), fewLets); told(c) != told(want) || at != to || e != f {
			t.Errorf("%s: %s, %d, %v", s, told(c), at, e)
		}
	}
	for _, list := range [][]api.Con{nil, {}} {
		if c, at, e := gen.Code([]api.Fun{{Body: read("1")}}, list, 0); told(c) != "0 lets; ints 1; texts\n0 0 1: Int 0, Return" || at != 0 || e != api.OK {
			t.Errorf("%s, %d, %v", told(c), at, e)
		}
		refuses(t, "no function", map[bool][]api.Fun{true: {}}[list == nil], 0, 0, api.ErrArg)
	}
}

// R5: what is asked again is answered alike, whatever was asked between, or beside it, and in whatever order constructors stand.
func TestAnswersHangOnArgumentsAlone(t *testing.T) {
	type answer struct {
		c  string
		at int
		e  api.Errno
	}
	var first []answer
	for _, s := range samples() {
		c, at, e := gen.Code(among(read(s)), cons(), fewLets)
		first = append(first, answer{told(c), at, e})
	}
	var group sync.WaitGroup
	for hand := range 4 {
		group.Go(func() {
			for i := range 400 {
				j := (i*7 + hand) % len(first)
				body, list := read(samples()[j]), cons()
				if i%2 == 0 {
					body = roomy(body)
					slices.Reverse(list)
				}
				if c, at, e := gen.Code(among(body), list, fewLets); (answer{told(c), at, e}) != first[j] {
					t.Errorf("it is %s, %d, %v, and was %v", told(c), at, e, first[j])
				}
			}
		})
	}
	group.Wait()
}

// The ways of the chapter: places among constants are found by a generic function, how a core is gone through is a method expression in a map.
func TestWays(t *testing.T) {
	paths, err := filepath.Glob("*.go")
	if err != nil {
		t.Fatal(err)
	}
	generic, expressions := false, 0
	for _, path := range paths {
		if strings.HasSuffix(path, "_test.go") {
			continue
		}
		file, err := parser.ParseFile(token.NewFileSet(), path, nil, 0)
		if err != nil {
			t.Fatal(err)
		}
		ast.Inspect(file, func(n ast.Node) bool {
			switch x := n.(type) {
			case *ast.FuncDecl:
				generic = generic || x.Name.Name == "place" && x.Type.TypeParams != nil
			case *ast.CompositeLit:
				if _, is := x.Type.(*ast.MapType); !is {
					return true
				}
				ast.Inspect(x, func(n ast.Node) bool {
					if s, is := n.(*ast.SelectorExpr); is {
						if _, is := s.X.(*ast.ParenExpr); is {
							expressions++
						}
					}
					return true
				})
			}
			return true
		})
	}
	if !generic || expressions < 20 {
		t.Errorf("generic: %v, method expressions: %d", generic, expressions)
	}
}
