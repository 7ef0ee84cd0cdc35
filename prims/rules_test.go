package prims_test

import (
	"go/ast"
	"go/parser"
	"go/token"
	"path/filepath"
	"runtime"
	"slices"
	"strings"
	"testing"

	"selvage/api"
	"selvage/heap"
	"selvage/prims"
)

// mixed is a heap with a block of each kind, and some words beside them.
func mixed(t *testing.T) (*heap.Heap, []int) {
	t.Helper()
	h := heap.New(400)
	a := text(t, h, some(30))
	c := closure(t, h, 3, a, one)
	l := []int{a, text(t, h, ""), c, closure(t, h, 0), put(t, h, 0), put(t, h, 199, c, a), put(t, h, api.Text), put(t, h, api.Text, -1), put(t, h, api.Closure), put(t, h, api.Closure, a)}
	return h, append(append(append(l, noPointers...), far...), a+2, 2*h.Used()+2)
}

// R1, R2: each call ends, and none panics, whatever it is asked; beside an error stands 0 or nothing, and nothing is changed.
func TestEachCallEndsAtAllArguments(t *testing.T) {
	h, words := mixed(t)
	text := func(n int) string { return strings.Repeat("x", n) }
	for _, n := range []int{0, 1, 60, 61, 1 << 22} {
		if w, e := prims.Text(h, text(n)); (e == api.OK) != (n <= 60) || (w != 0) != (n <= 60) {
			t.Errorf("Text of %d bytes is %d, %v", n, w, e)
		}
	}
	was := tell(h)
	for _, a := range words {
		if s, e := prims.Str(h, a); e != api.OK && (s != "" || e != api.ErrWord) {
			t.Errorf("Str(%d) is %q, %v", a, s, e)
		}
		if n, l, e := prims.Open(h, a); e != api.OK && (n != 0 || len(l) != 0 || e != api.ErrWord) {
			t.Errorf("Open(%d) is %d, %v, %v", a, n, l, e)
		}
		if n, e := prims.Case(h, a); e != api.OK && (n != 0 || e != api.ErrWord) {
			t.Errorf("Case(%d) is %d, %v", a, n, e)
		}
		for _, b := range words {
			for k := -2; k < 10; k++ {
				if w, e := prims.Sum(k, a, b); e != api.OK && w != 0 || e == api.OK && w%2 == 0 {
					t.Errorf("Sum(%d, %d, %d) is %d, %v", k, a, b, w, e)
				}
			}
			prims.Sum(a, b, b)
		}
	}
	if !sameBlocks(tell(h), was) {
		t.Fatal("what was only asked has changed the heap")
	}
	for _, a := range words {
		for _, b := range words {
			for _, make := range []func() (int, api.Errno){
				func() (int, api.Errno) { return prims.Join(h, a, b) },
				func() (int, api.Errno) { return prims.Close(h, a, []int{b, b}) },
				func() (int, api.Errno) { return prims.Close(h, 5, []int{a, b}) },
			} {
				used := h.Used()
				if w, e := make(); (e == api.OK) != h.Is(w) || e != api.OK && (w != 0 || h.Used() != used) {
					t.Errorf("of %d and %d comes %d, %v", a, b, w, e)
				}
			}
			if h.Used() > 300 {
				h, _ = mixed(t)
			}
		}
	}
}

// R1, the bound: a closure may be asked to keep as much as one likes, and no more memory is taken for it.
func TestHugeLists(t *testing.T) {
	h := heap.New(64)
	kept := slices.Repeat([]int{one}, 1<<24)
	var was, is runtime.MemStats
	runtime.ReadMemStats(&was)
	for range 10 {
		refused(t, h, api.ErrArg, func() (int, api.Errno) { return prims.Close(h, 1, kept) })
	}
	runtime.ReadMemStats(&is)
	if n := is.TotalAlloc - was.TotalAlloc; n > 1<<24 {
		t.Errorf("%d bytes are taken", n)
	}
}

// R2, R5: what was refused, and what was only asked, shows in no later answer.
func TestRefusedCallsLeaveNoTrace(t *testing.T) {
	x, words := mixed(t)
	y, _ := mixed(t)
	for _, w := range words {
		prims.Str(y, w)
		prims.Open(y, w)
		prims.Case(y, w)
		prims.Text(y, some(61))
		prims.Join(y, w, 0)
		prims.Join(y, 0, w)
		prims.Close(y, -1, []int{one})
		prims.Close(y, 1, []int{w, 0})
		prims.Close(y, 1, slices.Repeat([]int{one}, 60))
	}
	if !sameBlocks(tell(x), tell(y)) {
		t.Fatal("a call that was refused has changed something")
	}
	if v, w := text(t, x, "a"), text(t, y, "a"); v != w {
		t.Errorf("the next block is %d and %d", v, w)
	}
}

// R4: what is handed in is neither changed nor kept, its spare room neither.
func TestWhatIsHandedInIsLeftAlone(t *testing.T) {
	for _, n := range []int{0, 1, 2, 58, 59, 60, 61} {
		h := heap.New(200)
		a := text(t, h, "a")
		room := append(slices.Repeat([]int{one, a}, 31)[:n], 77, 77, 77)
		was := slices.Clone(room)
		w, e := prims.Close(h, 4, room[:n])
		if (e == api.OK) != (n < 60) {
			t.Errorf("Close of %d words: %v", n, e)
		}
		prims.Open(h, w)
		collect(t, h)
		if !slices.Equal(room, was) {
			t.Fatalf("Close has changed what is kept to %v", room)
		}
		h = heap.New(200)
		text(t, h, "a")
		w, e = prims.Close(h, 4, room[:n])
		clear(room)
		if e == api.OK {
			opens(t, h, w, 4, was[:n]...)
		}
	}
}

// R4: what is answered is new memory, with its spare room.
func TestWhatIsAnsweredIsNewMemory(t *testing.T) {
	h := heap.New(400)
	a := text(t, h, "a")
	for _, kept := range [][]int{nil, {one}, {a, one, a}, slices.Repeat([]int{a}, 59)} {
		w := closure(t, h, 6, kept...)
		was := tell(h)
		_, l, _ := prims.Open(h, w)
		_, m, _ := prims.Open(h, w)
		l = l[:cap(l)]
		for i := range l {
			l[i] = -99
		}
		if !slices.Equal(m, kept) || !sameBlocks(tell(h), was) {
			t.Errorf("what Open told reaches the heap, or another answer: %v, %v", m, tell(h))
		}
		opens(t, h, w, 6, kept...)
		h.Set(w, 1, two)
		collect(t, h)
		if !slices.Equal(m, kept) {
			t.Errorf("what Open told has changed: %v", m)
		}
		h = heap.New(400)
		a = text(t, h, "a")
	}
	w := text(t, h, "abc")
	s, _ := prims.Str(h, w)
	h.Set(w, 1, 'x')
	collect(t, h)
	if s != "abc" {
		t.Errorf("what Str told has changed: %q", s)
	}
}

// R4: nil and empty lists are one.
func TestNilAndEmptyListsAreOne(t *testing.T) {
	x, y, z := heap.New(64), heap.New(64), heap.New(64)
	for fun := range 3 {
		u, e := prims.Close(x, fun, nil)
		v, f := prims.Close(y, fun, []int{})
		w, g := prims.Close(z, fun, make([]int, 0, 60))
		if u != v || v != w || e != f || f != g {
			t.Errorf("Close(%d, none) is %d, %v, and %d, %v, and %d, %v", fun, u, e, v, f, w, g)
		}
		opens(t, x, u, fun)
	}
	if !sameBlocks(tell(x), tell(y)) || !sameBlocks(tell(x), tell(z)) {
		t.Errorf("%v and %v and %v", tell(x), tell(y), tell(z))
	}
}

// R5: what is answered hangs on the heap and the arguments, not on other heaps, nor on the room that lists have.
func TestAnswersHangOnArgumentsAlone(t *testing.T) {
	x, words := mixed(t)
	y, _ := mixed(t)
	other := heap.New(64)
	for i, w := range words {
		kept := []int{one, words[i%6]}
		v, e := prims.Close(x, i, kept)
		prims.Text(other, "between")
		prims.Sum(0, one, w)
		u, f := prims.Close(y, i, append(make([]int, 0, 80), kept...))
		if u != v || e != f {
			t.Errorf("the same Close is %d, %v, and %d, %v", v, e, u, f)
		}
		v, e = prims.Join(x, words[0], w)
		u, f = prims.Join(y, words[0], w)
		if u != v || e != f {
			t.Errorf("the same Join is %d, %v, and %d, %v", v, e, u, f)
		}
	}
	if !sameBlocks(tell(x), tell(y)) {
		t.Error("the same calls make unlike heaps")
	}
}

// Ways: what a closure keeps is put behind its number by a copy; a sum's sign is told by an array.
func TestWays(t *testing.T) {
	names, err := filepath.Glob("*.go")
	if err != nil {
		t.Fatal(err)
	}
	copied, array := false, false
	for _, name := range names {
		if strings.HasSuffix(name, "_test.go") {
			continue
		}
		file, err := parser.ParseFile(token.NewFileSet(), name, nil, 0)
		if err != nil {
			t.Fatal(err)
		}
		ast.Inspect(file, func(n ast.Node) bool {
			switch x := n.(type) {
			case *ast.CallExpr:
				f, is := x.Fun.(*ast.Ident)
				copied = copied || is && f.Name == "copy"
			case *ast.CompositeLit:
				of, is := x.Type.(*ast.ArrayType)
				array = array || is && of.Len != nil && len(x.Elts) == 7
			}
			return true
		})
	}
	if !copied || !array {
		t.Errorf("a copy: %v, an array of the signs: %v", copied, array)
	}
}
