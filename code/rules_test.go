package code_test

import (
	"go/ast"
	"go/parser"
	"go/token"
	"math"
	"reflect"
	"slices"
	"strings"
	"sync"
	"testing"
	"time"
	"unsafe"

	"selvage/api"
	"selvage/code"
)

// within holds that something is over in some time.
func within(t *testing.T, seconds time.Duration, do func()) {
	t.Helper()
	over := make(chan struct{})
	go func() {
		defer close(over)
		do()
	}()
	select {
	case <-over:
	case <-time.After(seconds * time.Second):
		t.Fatal("it is not over")
	}
}

// R1, R2: each call ends, and none panics, whatever it is asked; beside an error there is nothing.
func TestEachCallEndsAtAllArguments(t *testing.T) {
	numbers := []int{0, 1, 33, 34, 60, 61, 255, 256, 65536, -1, math.MinInt, math.MaxInt}
	for _, a := range numbers {
		code.Uses(a)
		for _, b := range numbers {
			for _, instrs := range [][]api.Instr{nil, {}, {{Op: a}}, {{Op: 10, A: a, B: b}}, {{Op: a, A: b, B: b}}, many(401, api.Instr{Op: 1})} {
				for _, texts := range [][]string{nil, {""}, {strings.Repeat("a", 61)}} {
					f := api.Body{Kept: a, Locals: b, Stack: a, Code: instrs}
					for _, funs := range [][]api.Body{nil, {f}, {body(instrs...)}, {body(instrs...), f}} {
						c := api.Code{Funs: funs, Ints: []int{a, b}, Texts: texts, Lets: b}
						got, e := code.Encode(c)
						if may := code.May(c); may != (e == api.OK) || may != (len(got) > 0) || !may && e != api.ErrArg {
							t.Fatalf("%v: %v, %q, %v", c, may, got, e)
						}
					}
				}
			}
		}
	}
	for n := range 300 {
		for x := range 256 {
			if c, e := code.Decode(many(n, byte(x))); e != api.ErrBytes || !same(c, api.Code{}) {
				t.Fatalf("%d times %d: %v, %v", n, x, c, e)
			}
		}
	}
}

// R1, the bound: what is huge is soon refused, though it be many times the same.
func TestHugeCodes(t *testing.T) {
	within(t, 60, func() {
		pop := api.Instr{Op: api.OpPop}
		long := many(1<<20, pop)
		for range 200 {
			refused(t, "many functions", api.Code{Funs: many(1<<14, body(pop))})
			refused(t, "many instructions", api.Code{Funs: many(120, body(long...))})
			refused(t, "many constants", api.Code{Funs: small().Funs, Ints: make([]int, 1<<20)})
			refused(t, "many texts", api.Code{Funs: small().Funs, Texts: make([]string, 1<<18)})
		}
		text := strings.Repeat("a", 1<<26)
		refused(t, "a long text", api.Code{Funs: small().Funs, Texts: many(1<<16, text)})
		refused(t, "long texts", api.Code{Funs: small().Funs, Texts: many(120, text)})
		refused(t, "many long ones", api.Code{Funs: many(1<<20, api.Body{Locals: 1, Stack: 1, Code: long})})
		for _, b := range []string{text, strings.Repeat("\xff", 1<<26), "SM1" + strings.Repeat("\xff", 1<<26), "SM1\x00\x00\x00\x78" + strings.Repeat("\x01\x01\x01\xff\xff", 1<<24)} {
			none(t, b)
		}
	})
}

// R3, R4: what comes of bytes has no field but those that are told, and nil for lists that are empty or not.
func TestNilAndEmptyListsAreOne(t *testing.T) {
	c := small()
	want, _ := code.Encode(c)
	c.Ints, c.Texts = []int{}, []string{}
	if b, e := code.Encode(c); !slices.Equal(b, want) || e != api.OK || !code.May(c) {
		t.Errorf("%q, %v", b, e)
	}
	for _, c := range []api.Code{{Funs: []api.Body{}}, {Funs: []api.Body{{Stack: 1, Code: []api.Instr{}}}}} {
		refused(t, "empty lists", c)
	}
	for _, b := range [][]byte{nil, {}} {
		if c, e := code.Decode(b); e != api.ErrBytes || !reflect.DeepEqual(c, api.Code{}) {
			t.Errorf("%v, %v", c, e)
		}
	}
	d, _ := code.Decode(want)
	if len(d.Ints) != 0 || len(d.Texts) != 0 {
		t.Errorf("%v", d)
	}
}

// roomy is a code anew, whose lists have room to spare that is not empty.
func roomy(c api.Code) api.Code {
	c.Ints = append(slices.Clone(c.Ints), 77, 78)[:len(c.Ints)]
	c.Texts = append(slices.Clone(c.Texts), "spare", "room")[:len(c.Texts)]
	funs := append(slices.Clone(c.Funs), api.Body{Kept: 5}, api.Body{Stack: 6})
	for i, f := range funs {
		funs[i].Code = append(slices.Clone(f.Code), api.Instr{Op: 7}, api.Instr{A: 8})[:len(f.Code)]
	}
	c.Funs = funs[:len(c.Funs)]
	return c
}

// full is a code whose lists go up to their spare room's end.
func full(c api.Code) api.Code {
	c.Ints, c.Texts, c.Funs = c.Ints[:cap(c.Ints)], c.Texts[:cap(c.Texts)], slices.Clone(c.Funs[:cap(c.Funs)])
	for i, f := range c.Funs {
		c.Funs[i].Code = f.Code[:cap(f.Code)]
	}
	return c
}

// copied is a code anew, at each depth.
func copied(c api.Code) api.Code {
	c.Ints, c.Texts, c.Funs = slices.Clone(c.Ints), slices.Clone(c.Texts), slices.Clone(c.Funs)
	for i, f := range c.Funs {
		c.Funs[i].Code = slices.Clone(f.Code)
	}
	return c
}

// R4: what is handed in is not changed, its spare room neither, nor is it kept.
func TestNothingHandedInIsChanged(t *testing.T) {
	wrong := three()
	wrong.Funs[2].Code[2].A = 9
	for _, c := range append(samples(), wrong) {
		mine := roomy(c)
		kept := copied(full(mine))
		b, e := code.Encode(mine)
		code.May(mine)
		if !reflect.DeepEqual(full(mine), kept) {
			t.Errorf("%v is another code now", c)
		}
		was := slices.Clone(b)
		for _, f := range mine.Funs {
			clear(f.Code[:cap(f.Code)])
		}
		clear(mine.Funs)
		clear(mine.Ints)
		clear(mine.Texts)
		if again, f := code.Encode(c); !slices.Equal(b, was) || !slices.Equal(again, was) || e != f {
			t.Errorf("%v: %q, %q, %v", c, b, again, f)
		}
	}
}

// R4: bytes that are handed in are not changed, their spare room neither, nor are they kept.
func TestNoBytesHandedInAreChanged(t *testing.T) {
	for _, c := range samples() {
		b, _ := code.Encode(c)
		b = append(slices.Clone(b), "spare"...)
		was := slices.Clone(b)
		b = b[:len(b)-5]
		d, e := code.Decode(b)
		if !slices.Equal(b[:len(b)+5], was) || e != api.OK {
			t.Errorf("%q is %q now, %v", was, b, e)
		}
		clear(b)
		if !same(d, c) {
			t.Errorf("%v is %v now", c, d)
		}
	}
}

// span is memory, from a place on up to another one.
type span struct{ from, to uintptr }

func spanOf[T any](l []T) []span {
	if cap(l) == 0 {
		return nil
	}
	var item T
	from := uintptr(unsafe.Pointer(unsafe.SliceData(l)))
	return []span{{from, from + uintptr(cap(l))*unsafe.Sizeof(item)}}
}

// memory is that of all lists of a code, with their spare room, and of its texts.
func memory(c api.Code) []span {
	all := slices.Concat(spanOf(c.Ints), spanOf(c.Texts), spanOf(c.Funs))
	for _, s := range c.Texts {
		if len(s) > 1 { // texts of one byte may be the language's own
			from := uintptr(unsafe.Pointer(unsafe.StringData(s)))
			all = append(all, span{from, from + uintptr(len(s))})
		}
	}
	for _, f := range c.Funs {
		all = append(all, spanOf(f.Code)...)
	}
	return all
}

// R4: what is answered is new memory: no two lists share any, whether of an answer, of two, or of what was handed in.
func TestWhatIsAnsweredIsNewMemory(t *testing.T) {
	for _, c := range samples() {
		first, _ := code.Encode(c)
		second, _ := code.Encode(c)
		all := slices.Concat(spanOf(first), spanOf(second))
		for range 2 {
			d, _ := code.Decode(first)
			all = append(all, memory(d)...)
		}
		mine := memory(c)
		for _, x := range all {
			if slices.ContainsFunc(mine, func(y span) bool { return x.from < y.to && y.from < x.to }) {
				t.Errorf("%v: what was handed in is handed out", c)
			}
		}
		slices.SortFunc(all, func(x, y span) int { return int(x.from) - int(y.from) })
		for i := range all[1:] {
			if all[i].to > all[i+1].from {
				t.Errorf("%v: two lists share memory", c)
			}
		}
	}
}

// R5: what a call answers hangs on nothing but what it was given, however often and from how many sides it is asked.
func TestAnswersAreTheSameEachTime(t *testing.T) {
	all := samples()
	var want []string
	for _, c := range all {
		b, _ := code.Encode(c)
		want = append(want, string(b))
	}
	var group sync.WaitGroup
	for from := range 8 {
		group.Go(func() {
			for i := range 6 * len(all) {
				at := (i + from) % len(all)
				b, e := code.Encode(roomy(all[at]))
				d, f := code.Decode([]byte(want[at]))
				if string(b) != want[at] || e != api.OK || f != api.OK || !same(d, all[at]) {
					t.Errorf("%v: %v, %v, %v", all[at], e, d, f)
				}
				code.Decode([]byte(want[at][1:]))
			}
		})
	}
	group.Wait()
}

// The ways of the chapter: numbers are put by a variadic function, bytes are read by a closure.
func TestWays(t *testing.T) {
	variadic, closure := false, false
	pkgs, err := parser.ParseDir(token.NewFileSet(), ".", nil, 0)
	if err != nil {
		t.Fatal(err)
	}
	for _, file := range pkgs["code"].Files {
		ast.Inspect(file, func(n ast.Node) bool {
			switch n.(type) {
			case *ast.Ellipsis:
				variadic = true
			case *ast.FuncLit:
				closure = true
			}
			return true
		})
	}
	if !variadic || !closure {
		t.Errorf("variadic: %v, closure: %v", variadic, closure)
	}
}
