package verify_test

import (
	"go/ast"
	"go/parser"
	"go/token"
	"math"
	"reflect"
	"slices"
	"strings"
	"sync"
	"testing"
	"time"
	"unsafe"

	"selvage/api"
	"selvage/code"
	"selvage/verify"
)

// within holds that something is over in some time.
func within(t *testing.T, seconds time.Duration, do func()) {
	t.Helper()
	over := make(chan struct{})
	go func() {
		defer close(over)
		do()
	}()
	select {
	case <-over:
	case <-time.After(seconds * time.Second):
		t.Fatal("it is not over")
	}
}

// R1, R2: each call ends, and none panics, whatever it is asked; of what may not be there is nothing.
func TestEachCallEndsAtAllArguments(t *testing.T) {
	numbers := []int{0, 1, 2, 33, 34, 59, 60, 65535, 65536, -1, math.MinInt, math.MaxInt}
	for _, a := range numbers {
		for _, b := range numbers {
			for _, l := range [][]api.Instr{nil, {}, {{Op: a}}, {{Op: a, A: b}}, {{Op: a, A: b, B: b}, ret()}, {in(1), {Op: api.OpMake, A: a, B: b}}, {in(1), {Op: api.OpFun, A: a, B: b}, ret()}, {in(1), {Op: api.OpCase, A: a, B: b}, stay()}, many(401, stay())} {
				f := api.Body{Kept: a, Locals: b, Stack: a, Code: l}
				for _, funs := range [][]api.Body{nil, {}, {f}, {{Stack: 1, Code: l}}, {{Stack: 1, Code: fine()}, f}, {f, {Stack: 2, Code: l}}} {
					c := api.Code{Funs: funs, Ints: []int{a, b}, Texts: []string{"a"}, Lets: b}
					e := verify.Code(c)
					if (e == api.ErrArg) == code.May(c) || e != api.OK && e != api.ErrArg && e != api.ErrCode {
						t.Fatalf("%v: %v", c, e)
					}
					for _, n := range numbers {
						if d := verify.Depths(c, n); e == api.ErrArg && d != nil || d != nil && (n < 0 || n >= len(funs) || len(d) != len(funs[n].Code)) {
							t.Fatalf("%d of %v: %v", n, c, d)
						}
					}
				}
			}
		}
	}
}

// R1, the bound: what is huge is soon told, though it be many times the same.
func TestHugeCodes(t *testing.T) {
	within(t, 60, func() {
		long := many(1<<20, stay())
		text := strings.Repeat("a", 1<<26)
		for _, c := range []api.Code{
			{Funs: many(1<<20, api.Body{Stack: 1, Code: long})},
			{Funs: many(120, api.Body{Stack: 1, Code: long})},
			{Funs: whole().Funs, Ints: make([]int, 1<<20)},
			{Funs: whole().Funs, Texts: many(1<<16, text)},
			{Funs: whole().Funs, Texts: many(120, text)},
		} {
			for range 200 {
				if e := verify.Code(c); e != api.ErrArg {
					t.Error(e)
				}
				if d := verify.Depths(c, 0); d != nil {
					t.Error(d)
				}
			}
		}
		c := whole()
		c.Funs = many(120, api.Body{Stack: 60, Code: nested()})
		for range 20 {
			if e := verify.Code(c); e != api.OK {
				t.Error(e)
			}
		}
	})
}

// nested is as long a function as may be, each of whose instructions has one mark more, and goes to two places.
func nested() []api.Instr {
	l := many(400, stay())
	for at := range 399 {
		l[at] = in(api.OpElse, at)
	}
	return l
}

// R4: nil and empty lists are one.
func TestNilAndEmptyListsAreOne(t *testing.T) {
	l := of(in(api.OpFun, 1), in(api.OpReturn))
	c := api.Code{Funs: []api.Body{{Stack: 1, Code: l}, {Stack: 1, Code: of(stay())}}}
	holds(t, "nil", c, 0, 0, 1)
	c.Ints, c.Texts = []int{}, []string{}
	holds(t, "empty", c, 0, 0, 1)
	for _, c := range []api.Code{{}, {Funs: []api.Body{}}, {Funs: []api.Body{{Stack: 1}}}, {Funs: []api.Body{{Stack: 1, Code: []api.Instr{}}}}} {
		if e := verify.Code(c); e != api.ErrArg || len(verify.Depths(c, 0)) > 0 {
			t.Errorf("%v: %v", c, e)
		}
	}
}

// samples are codes that hold together, or not, or may not be.
func samples() []api.Code {
	d := dice(7)
	all := []api.Code{whole(), {}, with(0, of(in(api.OpPop))), with(1, nested()), with(2, of(in(api.OpInt, 65536)))}
	for range 40 {
		c := d.code()
		all = append(all, copied(c))
		d.spoil(&c)
		all = append(all, copied(c))
	}
	return all
}

// copied is a code anew, at each depth.
func copied(c api.Code) api.Code {
	c.Ints, c.Texts, c.Funs = slices.Clone(c.Ints), slices.Clone(c.Texts), slices.Clone(c.Funs)
	for i, f := range c.Funs {
		c.Funs[i].Code = slices.Clone(f.Code)
	}
	return c
}

// roomy is a code anew, whose lists have room to spare that is not empty.
func roomy(c api.Code) api.Code {
	c.Ints = append(slices.Clone(c.Ints), 77, 78)[:len(c.Ints)]
	c.Texts = append(slices.Clone(c.Texts), "spare", "room")[:len(c.Texts)]
	funs := append(slices.Clone(c.Funs), api.Body{Kept: 5}, api.Body{Stack: 6})
	for i, f := range funs {
		funs[i].Code = append(slices.Clone(f.Code), in(7), in(0, 8))[:len(f.Code)]
	}
	c.Funs = funs[:len(c.Funs)]
	return c
}

// full is a code whose lists go up to their spare room's end.
func full(c api.Code) api.Code {
	c.Ints, c.Texts, c.Funs = c.Ints[:cap(c.Ints)], c.Texts[:cap(c.Texts)], slices.Clone(c.Funs[:cap(c.Funs)])
	for i, f := range c.Funs {
		c.Funs[i].Code = f.Code[:cap(f.Code)]
	}
	return c
}

// asked is all that the calls tell of a code.
func asked(c api.Code) ([][]int, api.Errno) {
	var all [][]int
	for f := range len(c.Funs) + 1 {
		all = append(all, verify.Depths(c, f))
	}
	return all, verify.Code(c)
}

// R4: what is handed in is not changed, its spare room neither, nor is it kept.
func TestNothingHandedInIsChanged(t *testing.T) {
	for _, c := range samples() {
		mine := roomy(c)
		kept := copied(full(mine))
		was, e := asked(mine)
		if !reflect.DeepEqual(full(mine), kept) {
			t.Errorf("%v is another code now", c)
		}
		told := slices.Clone(was)
		for i := range told {
			told[i] = slices.Clone(told[i])
		}
		for _, f := range mine.Funs {
			clear(f.Code[:cap(f.Code)])
		}
		clear(mine.Funs)
		clear(mine.Ints)
		if again, f := asked(c); !reflect.DeepEqual(was, told) || !reflect.DeepEqual(again, was) || f != e {
			t.Errorf("%v: %v, %v; not %v, %v", c, again, f, was, e)
		}
	}
}

// R4: what is answered is new memory: no two answers share any.
func TestWhatIsAnsweredIsNewMemory(t *testing.T) {
	type span struct{ from, to uintptr }
	for _, c := range samples() {
		var all []span
		for range 2 {
			for f := range c.Funs {
				if d := verify.Depths(c, f); d != nil {
					from := uintptr(unsafe.Pointer(unsafe.SliceData(d)))
					all = append(all, span{from, from + uintptr(cap(d))*unsafe.Sizeof(0)})
					defer clear(d) // it is not moved or freed meanwhile
				}
			}
		}
		slices.SortFunc(all, func(x, y span) int { return int(x.from) - int(y.from) })
		for i := 1; i < len(all); i++ {
			if all[i-1].to > all[i].from {
				t.Errorf("%v: two answers share memory", c)
			}
		}
	}
	c := whole()
	d := verify.Depths(c, 0)
	d[0], d[1] = 7, 8
	holds(t, "an answer that was changed", c, 0, 0, 1)
}

// R5: what a call answers hangs on nothing but what it was given, however often and from how many sides it is asked.
func TestAnswersAreTheSameEachTime(t *testing.T) {
	type answer struct {
		depths [][]int
		e      api.Errno
	}
	all := samples()
	var want []answer
	for _, c := range all {
		d, e := asked(c)
		want = append(want, answer{d, e})
	}
	var group sync.WaitGroup
	for from := range 8 {
		group.Go(func() {
			for i := range 3 * len(all) {
				at := (i + from) % len(all)
				d, e := asked(roomy(all[at]))
				if e != want[at].e || !reflect.DeepEqual(d, want[at].depths) {
					t.Errorf("%v: %v, %v", all[at], d, e)
				}
			}
		})
	}
	group.Wait()
}

// The ways of the chapter: what an Op takes and puts is told by a function in a map, marks are compared as structs.
func TestWays(t *testing.T) {
	functions, structs := false, false
	pkgs, err := parser.ParseDir(token.NewFileSet(), ".", nil, 0)
	if err != nil {
		t.Fatal(err)
	}
	for _, file := range pkgs["verify"].Files {
		ast.Inspect(file, func(n ast.Node) bool {
			switch x := n.(type) {
			case *ast.CompositeLit:
				m, is := x.Type.(*ast.MapType)
				functions = functions || is && x.Elts != nil && m.Value.(*ast.Ident).Name == "rule"
			case *ast.CallExpr:
				f, is := x.Fun.(*ast.SelectorExpr)
				structs = structs || is && f.Sel.Name == "Equal"
			}
			return true
		})
	}
	if !functions || !structs {
		t.Errorf("functions: %v, structs: %v", functions, structs)
	}
}
