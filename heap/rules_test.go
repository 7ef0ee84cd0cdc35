package heap_test

import (
	"go/ast"
	"go/parser"
	"go/token"
	"math"
	"path/filepath"
	"slices"
	"strings"
	"testing"

	"selvage/api"
	"selvage/heap"
)

// R1, R2: each call ends, and none panics, whatever it is asked; beside an error stands 0 or nothing.
func TestEachCallEndsAtAllArguments(t *testing.T) {
	h := withTwoBlocks(t)
	put(t, h, api.Text, 0, 2, -7)
	words := append(append([]int{-1, 1, 2, 3, 8, 10, 18, 61, 199, 200, 201, 202}, strangers...), far...)
	for _, a := range words {
		h.Is(a)
		h.May(a)
		h.Tag(a)
		h.Fields(a)
		for _, b := range words {
			if v, e := h.Get(a, b); e != api.OK && v != 0 {
				t.Errorf("Get(%d, %d) is %d, %v", a, b, v, e)
			}
			for _, c := range words {
				h.Set(a, b, c)
			}
			fields := []int{b, b}
			if w, e := h.Make(a, fields); (e == api.OK) != h.Is(w) || e != api.OK && w != 0 {
				t.Errorf("Make(%d, %v) is %d, %v", a, fields, w, e)
			}
			roots := []int{a, b}
			if n, e := h.Reach(roots); e != api.OK && n != 0 || n < 0 || n > h.Used() {
				t.Errorf("Reach(%v) is %d, %v", roots, n, e)
			}
			used := h.Used()
			if l, e := h.Collect(roots); e != api.OK && (len(l) != 0 || h.Used() != used) || e == api.OK && len(l) != 2 {
				t.Errorf("Collect(%v) is %v, %v", roots, l, e)
			}
			if h.Used() > 50 {
				h.Collect(nil)
			}
		}
	}
}

// R1, the bound: there may be as many roots as one likes.
func TestManyRoots(t *testing.T) {
	h := withTwoBlocks(t)
	roots := slices.Repeat([]int{8, one, 2}, 1<<20)
	if n, e := h.Reach(roots); n != 4 || e != api.OK {
		t.Errorf("Reach is %d, %v", n, e)
	}
	if l := collect(t, h, roots...); !slices.Equal(l, slices.Repeat([]int{2, one, 4}, 1<<20)) || h.Used() != 4 {
		t.Errorf("Used is %d", h.Used())
	}
	if l, e := h.Collect(append(roots, 0)); l != nil || e != api.ErrWord {
		t.Errorf("Collect with nobody's word is %d roots, %v", len(l), e)
	}
}

// R4: what is handed in is neither changed nor kept, its spare room neither.
func TestWhatIsHandedInIsLeftAlone(t *testing.T) {
	room := []int{2, one, 8, 77, 77, 77}
	fields := room[:3]
	for _, tag := range []int{4, api.Closure, api.Text} {
		h := withTwoBlocks(t)
		w := put(t, h, tag, fields...)
		set(t, h, w, 1, two)
		collect(t, h, w)
		if !slices.Equal(room, []int{2, one, 8, 77, 77, 77}) {
			t.Fatalf("Make has changed its fields to %v", room)
		}
		mine := slices.Clone(fields)
		h = withTwoBlocks(t)
		w = put(t, h, tag, mine...)
		clear(mine)
		if !slices.Equal(h.Fields(w), fields) {
			t.Errorf("Make has kept its fields: %v", h.Fields(w))
		}
	}
	h := withTwoBlocks(t)
	put(t, h, 3, 2)
	roots := []int{10, 8, one, 77, 77}
	h.Reach(roots[:3])
	l := collect(t, h, roots[:3]...)
	if !slices.Equal(roots, []int{10, 8, one, 77, 77}) {
		t.Errorf("Collect has changed its roots to %v", roots)
	}
	was := tell(t, h)
	clear(roots)
	if !slices.Equal(l, []int{2, 6, one}) || !sameBlocks(tell(t, h), was) {
		t.Errorf("Collect has kept its roots: %v, %v", l, tell(t, h))
	}
}

// R4: what is answered is new memory, with its spare room.
func TestWhatIsAnsweredIsNewMemory(t *testing.T) {
	h := withTwoBlocks(t)
	put(t, h, api.Text, 5, 6)
	was := tell(t, h)
	for _, w := range []int{2, 8, 10} {
		l := h.Fields(w)
		l = l[:cap(l)]
		for i := range l {
			l[i] = -99
		}
		if is := tell(t, h); !sameBlocks(is, was) {
			t.Fatalf("what Fields(%d) told reaches the heap: %v", w, is)
		}
	}
	l := collect(t, h, 2, 8, 10)
	other := collect(t, h, l...)
	was = tell(t, h)
	kept := slices.Clone(other)
	for i := range l {
		l[i] = -99
	}
	if !slices.Equal(other, kept) || !sameBlocks(tell(t, h), was) {
		t.Errorf("what Collect told is kept: %v, %v", other, tell(t, h))
	}
	fields := h.Fields(2)
	set(t, h, 2, 0, 8)
	collect(t, h)
	if !slices.Equal(fields, []int{one, two}) {
		t.Errorf("what Fields told has changed: %v", fields)
	}
}

// R4: nil and empty lists are one.
func TestNilAndEmptyListsAreOne(t *testing.T) {
	x, y := withTwoBlocks(t), withTwoBlocks(t)
	for _, tag := range []int{0, api.Closure, api.Text} {
		v, e := x.Make(tag, nil)
		if w, f := y.Make(tag, []int{}); v != w || e != f {
			t.Errorf("Make(%d, none) is %d, %v, and %d, %v", tag, v, e, w, f)
		}
	}
	if !sameBlocks(tell(t, x), tell(t, y)) {
		t.Errorf("%v and %v", tell(t, x), tell(t, y))
	}
	for _, h := range []*heap.Heap{x, y} {
		for _, roots := range [][]int{nil, {}} {
			if n, e := h.Reach(roots); n != 0 || e != api.OK {
				t.Errorf("Reach(none) is %d, %v", n, e)
			}
		}
	}
	x.Collect(nil)
	y.Collect([]int{})
	if x.Used() != 0 || y.Used() != 0 {
		t.Errorf("Used is %d, and %d", x.Used(), y.Used())
	}
}

// R5: what heaps answer hangs on what each one was told, not on others, nor on the room that lists have.
func TestHeapsDoNotTouchOneAnother(t *testing.T) {
	x, roots := tangled(3)
	y, same := tangled(3)
	other, _ := tangled(4)
	if !slices.Equal(roots, same) || !sameBlocks(tell(t, x), tell(t, y)) {
		t.Fatal("the same calls make unlike heaps")
	}
	roomy := append(make([]int, 0, 100), roots...)
	l := collect(t, x, roots...)
	other.Collect(nil)
	put(t, other, 1, slices.Repeat([]int{two}, 60)...)
	if m := collect(t, y, roomy...); !slices.Equal(l, m) || !sameBlocks(tell(t, x), tell(t, y)) {
		t.Errorf("the same Collect is %v and %v", l, m)
	}
}

// R5: what was refused, and what was only asked, shows in no later answer.
func TestRefusedCallsLeaveNoTrace(t *testing.T) {
	x, roots := tangled(5)
	y, _ := tangled(5)
	for _, w := range []int{0, -2, math.MinInt, math.MaxInt - 1} {
		y.Make(0, []int{w})
		y.Make(-1, nil)
		y.Make(api.Text, make([]int, 61))
		y.Get(w, 0)
		y.Set(w, 0, one)
		y.Set(2, 99, one)
		y.Collect([]int{2, w})
		y.Reach([]int{2, w})
		y.Reach(roots)
	}
	if !sameBlocks(tell(t, x), tell(t, y)) {
		t.Fatal("a call that was refused has changed something")
	}
	l, m := collect(t, x, roots...), collect(t, y, roots...)
	if !slices.Equal(l, m) || !sameBlocks(tell(t, x), tell(t, y)) {
		t.Error("a call that was refused shows behind Collect")
	}
	if v, w := put(t, x, 7, two), put(t, y, 7, two); v != w {
		t.Errorf("the next block is %d and %d", v, w)
	}
}

// Ways: which blocks there are stands in a map; there is a closure, and a copy.
func TestWays(t *testing.T) {
	names, err := filepath.Glob("*.go")
	if err != nil {
		t.Fatal(err)
	}
	kept, closure, copied := false, false, false
	for _, name := range names {
		if strings.HasSuffix(name, "_test.go") {
			continue
		}
		file, err := parser.ParseFile(token.NewFileSet(), name, nil, 0)
		if err != nil {
			t.Fatal(err)
		}
		ast.Inspect(file, func(n ast.Node) bool {
			switch x := n.(type) {
			case *ast.Field: // of a struct: it is kept from call to call
				_, is := x.Type.(*ast.MapType)
				kept = kept || is
			case *ast.FuncLit:
				closure = true
			case *ast.CallExpr:
				f, is := x.Fun.(*ast.Ident)
				copied = copied || is && f.Name == "copy"
			}
			return true
		})
	}
	if !kept || !closure || !copied {
		t.Errorf("a map: %v, a closure: %v, a copy: %v", kept, closure, copied)
	}
}
