package heap_test

import (
	"math"
	"slices"
	"testing"

	"selvage/api"
	"selvage/heap"
	"selvage/ints"
)

var (
	one, two = ints.Tag(1), ints.Tag(2)
	far      = []int{math.MinInt, math.MinInt + 1, math.MinInt + 2, math.MaxInt - 1, math.MaxInt, api.MinInt, api.MaxInt, 1 << 61, 1 << 62}
)

// put makes a block that must have room.
func put(t *testing.T, h *heap.Heap, tag int, fields ...int) int {
	t.Helper()
	w, e := h.Make(tag, fields)
	if e != api.OK {
		t.Fatalf("Make(%d, %v): %v", tag, fields, e)
	}
	return w
}

// set sets a field that there must be.
func set(t *testing.T, h *heap.Heap, w, i, v int) {
	t.Helper()
	if e := h.Set(w, i, v); e != api.OK {
		t.Fatalf("Set(%d, %d, %d): %v", w, i, v, e)
	}
}

// collect collects from roots that must be good.
func collect(t *testing.T, h *heap.Heap, roots ...int) []int {
	t.Helper()
	l, e := h.Collect(roots)
	if e != api.OK || len(l) != len(roots) {
		t.Fatalf("Collect(%v) is %v, %v", roots, l, e)
	}
	return l
}

// told is one block, as a heap tells it.
type told struct {
	w, tag int
	fields []int
}

// tell is all that a heap has, in its order, held against Used.
func tell(t *testing.T, h *heap.Heap) []told {
	t.Helper()
	var l []told
	used := 0
	for w := -4; w <= 2*h.Half()+4; w++ {
		if h.Is(w) {
			l = append(l, told{w, h.Tag(w), h.Fields(w)})
			if w != 2*used+2 {
				t.Errorf("the block behind %d words is %d", used, w)
			}
			used += 1 + len(h.Fields(w))
		}
	}
	if used != h.Used() {
		t.Errorf("Used is %d, and the blocks take %d", h.Used(), used)
	}
	return l
}

func sameBlocks(a, b []told) bool {
	return slices.EqualFunc(a, b, func(x, y told) bool {
		return x.w == y.w && x.tag == y.tag && slices.Equal(x.fields, y.fields)
	})
}

// unchanged does what must be refused, and holds the heap against what it was.
func unchanged(t *testing.T, h *heap.Heap, refused func()) {
	t.Helper()
	was, used := tell(t, h), h.Used()
	refused()
	if is := tell(t, h); !sameBlocks(is, was) || h.Used() != used {
		t.Errorf("what was refused made %v of %v", is, was)
	}
}

// P2.1

func TestNew(t *testing.T) {
	for _, n := range append([]int{0, 1, -1, -64, 63, 1<<16 + 1, 1 << 17}, far...) {
		if h := heap.New(n); h != nil {
			t.Errorf("New(%d) is a heap", n)
		}
	}
	for _, n := range []int{64, 65, 1000, 1<<16 - 1, 1 << 16} {
		h := heap.New(n)
		if h == nil {
			t.Errorf("New(%d) is nil", n)
		} else if h.Half() != n || h.Used() != 0 || h.Is(2) {
			t.Errorf("New(%d): Half %d, Used %d", n, h.Half(), h.Used())
		}
	}
}

func TestHalfAndUsed(t *testing.T) {
	h := heap.New(100)
	for i, want := range []int{1, 3, 6, 10, 15} {
		put(t, h, i, slices.Repeat([]int{one}, i)...)
		if h.Used() != want || h.Half() != 100 {
			t.Errorf("Used is %d, not %d; Half is %d", h.Used(), want, h.Half())
		}
	}
	collect(t, h, 2, 14) // those of 1 and of 4 words
	if h.Used() != 5 || h.Half() != 100 {
		t.Errorf("Used is %d, not 5; Half is %d", h.Used(), h.Half())
	}
	collect(t, h)
	if h.Used() != 0 || h.Half() != 100 {
		t.Errorf("Used is %d, not 0; Half is %d", h.Used(), h.Half())
	}
}

// P2.2

func TestExamples(t *testing.T) {
	h := heap.New(64)
	if w := put(t, h, 0); w != 2 {
		t.Errorf("the first block is %d", w)
	}
	if w := put(t, h, 1, 2, 3); w != 4 || h.Used() != 4 {
		t.Errorf("the second block is %d, Used %d", w, h.Used())
	}
	if w, e := h.Make(0, []int{6}); w != 0 || e != api.ErrArg {
		t.Errorf("Make(0, 6) is %d, %v", w, e)
	}
	if l := collect(t, h, 4); !slices.Equal(l, []int{2}) || h.Used() != 4 {
		t.Errorf("Collect(4) is %v, Used %d", l, h.Used())
	}
}

func TestMakeTags(t *testing.T) {
	for _, fields := range [][]int{nil, {}, {one}, {1, -1, 3}} {
		h := heap.New(64)
		for _, tag := range []int{0, 1, 7, api.MaxTag - 1, api.MaxTag, api.Closure, api.Text} {
			w := put(t, h, tag, fields...)
			if !h.Is(w) || h.Tag(w) != tag || !slices.Equal(h.Fields(w), fields) {
				t.Errorf("Make(%d, %v) has tag %d, fields %v", tag, fields, h.Tag(w), h.Fields(w))
			}
		}
		for _, tag := range append([]int{-1, -200, api.Text + 1, api.Text + 2, 255, 256, 1000}, far...) {
			unchanged(t, h, func() {
				if w, e := h.Make(tag, fields); w != 0 || e != api.ErrArg {
					t.Errorf("Make(%d, %v) is %d, %v", tag, fields, w, e)
				}
			})
		}
	}
}

// Each tag with each number of fields is told as it was made.
func TestTagsAndNumbersOfFields(t *testing.T) {
	h := heap.New(api.MaxHeap)
	for tag := range api.Text + 1 {
		for many := range api.MaxFields + 1 {
			if h.Used()+1+many > h.Half() {
				collect(t, h)
			}
			fields := make([]int, many)
			for i := range fields {
				fields[i] = ints.Tag(tag*1000 - i)
			}
			w := put(t, h, tag, fields...)
			if h.Tag(w) != tag || !slices.Equal(h.Fields(w), fields) {
				t.Fatalf("Make(%d, %v) has tag %d, fields %v", tag, fields, h.Tag(w), h.Fields(w))
			}
		}
	}
}

func TestMakeNumbersOfFields(t *testing.T) {
	for _, tag := range []int{0, api.MaxTag, api.Closure, api.Text} {
		for _, many := range []int{0, 1, 59, 60} {
			h := heap.New(64)
			fields := slices.Repeat([]int{two}, many)
			w := put(t, h, tag, fields...)
			if w != 2 || h.Used() != 1+many || !slices.Equal(h.Fields(w), fields) {
				t.Errorf("Make(%d, %d fields) is %d, Used %d, fields %v", tag, many, w, h.Used(), h.Fields(w))
			}
		}
		for _, many := range []int{61, 62, 64, 128, 1 << 20} { // ErrArg, not ErrRoom, though most would have no room
			h := heap.New(64)
			put(t, h, 0)
			unchanged(t, h, func() {
				if w, e := h.Make(tag, slices.Repeat([]int{one}, many)); w != 0 || e != api.ErrArg {
					t.Errorf("Make(%d, %d fields) is %d, %v", tag, many, w, e)
				}
			})
		}
	}
}

// strangers are words that may not stand in a heap with the blocks 2 (3 words) and 8 (1 word) alone.
var strangers = append([]int{0, -2, -4, -8, 4, 6, 10, 12, 16, 20, 128, 130, 256, 1 << 20, 1 << 40}, math.MinInt, math.MinInt+2, math.MaxInt-1, 1<<61, 1<<62)

func withTwoBlocks(t *testing.T) *heap.Heap {
	h := heap.New(64)
	put(t, h, 5, one, two)
	put(t, h, api.Closure)
	return h
}

func TestMakeOfWhatMayStand(t *testing.T) {
	for _, tag := range []int{0, api.MaxTag, api.Closure} {
		h := withTwoBlocks(t)
		fields := []int{1, -1, math.MaxInt, math.MinInt + 1, 2, 8, 2}
		if w := put(t, h, tag, fields...); w != 10 || !slices.Equal(h.Fields(w), fields) {
			t.Errorf("Make(%d, %v) is %d with fields %v", tag, fields, w, h.Fields(w))
		}
		for _, v := range strangers {
			h := withTwoBlocks(t)
			for _, fields := range [][]int{{v}, {one, v}, {2, v, 8}, append(slices.Repeat([]int{8}, 50), v)} {
				unchanged(t, h, func() {
					if w, e := h.Make(tag, fields); w != 0 || e != api.ErrArg {
						t.Errorf("Make(%d, %v) is %d, %v", tag, fields, w, e)
					}
				})
			}
		}
	}
}

func TestMakeOfTextTakesAnyNumber(t *testing.T) {
	h := withTwoBlocks(t)
	w := put(t, h, api.Text, strangers...)
	if w != 10 || h.Tag(w) != api.Text || !slices.Equal(h.Fields(w), strangers) {
		t.Errorf("%d: %v", w, h.Fields(w))
	}
	h.Collect(nil)
	if w := put(t, h, api.Text, append([]int{2, 1}, far...)...); w != 2 || !slices.Equal(h.Fields(w)[2:], far) {
		t.Errorf("%d: %v", w, h.Fields(w))
	}
}

func TestMakeOfABlockThatIsNotThereYet(t *testing.T) {
	h := heap.New(64)
	for _, w := range []int{2, 4, 6} {
		if h.Is(w) || h.May(w) {
			t.Errorf("%d is a block of none", w)
		}
		if got, e := h.Make(0, []int{w}); got != 0 || e != api.ErrArg || h.Used() != 0 {
			t.Errorf("Make(0, %d) is %d, %v", w, got, e)
		}
	}
}

func TestHeapThatIsJustFull(t *testing.T) {
	for _, n := range []int{64, 65, 1000, 1 << 16} {
		for _, last := range []int{0, 1, 5, 60} { // fields of the last block
			h := heap.New(n)
			for h.Used()+1+last < n {
				put(t, h, 1, slices.Repeat([]int{one}, min(60, n-h.Used()-last-2))...)
			}
			for _, tag := range []int{0, api.Closure, api.Text} {
				if w, e := h.Make(tag, slices.Repeat([]int{one}, last+1)); e == api.OK || w != 0 || last < 60 && e != api.ErrRoom || last == 60 && e != api.ErrArg {
					t.Errorf("one word too many of %d: %d, %v", n, w, e)
				}
			}
			if h.Used() != n-1-last {
				t.Fatalf("what was refused took words: %d of %d", h.Used(), n)
			}
			w := put(t, h, 3, slices.Repeat([]int{two}, last)...)
			if h.Used() != n || w != 2*(n-last) || h.Tag(w) != 3 || len(h.Fields(w)) != last {
				t.Errorf("the last block of %d is %d, Used %d", n, w, h.Used())
			}
			for _, tag := range []int{0, api.Closure, api.Text} {
				if w, e := h.Make(tag, nil); w != 0 || e != api.ErrRoom || h.Used() != n {
					t.Errorf("a block in a full heap of %d is %d, %v", n, w, e)
				}
			}
			if l := collect(t, h, w); l[0] != 2 || h.Used() != 1+last || put(t, h, 0) != 2*(2+last) {
				t.Errorf("behind Collect the last block of %d is %d, Used %d", n, l[0], h.Used())
			}
		}
	}
}

func TestErrArgIsNamedAheadOfErrRoom(t *testing.T) {
	h := heap.New(64)
	for h.Used() < 64 {
		put(t, h, 0)
	}
	for i, l := range []struct {
		tag    int
		fields []int
		want   api.Errno
	}{
		{0, nil, api.ErrRoom}, {api.Text, []int{0, -2}, api.ErrRoom}, {api.Closure, []int{2, 128, one}, api.ErrRoom},
		{-1, nil, api.ErrArg}, {api.Text + 1, []int{one}, api.ErrArg}, {0, []int{0}, api.ErrArg}, {0, []int{130}, api.ErrArg},
		{0, slices.Repeat([]int{one}, 61), api.ErrArg}, {api.Text, slices.Repeat([]int{one}, 61), api.ErrArg}, {0, slices.Repeat([]int{one}, 60), api.ErrRoom},
	} {
		unchanged(t, h, func() {
			if w, e := h.Make(l.tag, l.fields); w != 0 || e != l.want {
				t.Errorf("%d: %d, %v, not %v", i, w, e, l.want)
			}
		})
	}
}

func TestIsAndMay(t *testing.T) {
	h := withTwoBlocks(t)
	for w := -20; w <= 200; w++ {
		is := w == 2 || w == 8
		if h.Is(w) != is || h.May(w) != (is || w%2 != 0) {
			t.Errorf("%d: Is %v, May %v", w, h.Is(w), h.May(w))
		}
	}
	for _, w := range append(strangers, far...) {
		if h.Is(w) || h.May(w) != (w%2 != 0) {
			t.Errorf("%d: Is %v, May %v", w, h.Is(w), h.May(w))
		}
	}
}

func TestOfWordsThatAreNoBlocks(t *testing.T) {
	h := withTwoBlocks(t)
	for _, w := range append(append([]int{1, 3, -1, 5, 7, 9, 11}, strangers...), far...) {
		unchanged(t, h, func() {
			if h.Tag(w) != -1 || len(h.Fields(w)) != 0 {
				t.Errorf("%d: tag %d, fields %v", w, h.Tag(w), h.Fields(w))
			}
			for _, i := range []int{0, 1, -1, 60, math.MaxInt, math.MinInt} { // ErrWord is named ahead of ErrArg
				if v, e := h.Get(w, i); v != 0 || e != api.ErrWord {
					t.Errorf("Get(%d, %d) is %d, %v", w, i, v, e)
				}
				for _, v := range []int{one, 2, 0, 4} {
					if e := h.Set(w, i, v); e != api.ErrWord {
						t.Errorf("Set(%d, %d, %d) is %v", w, i, v, e)
					}
				}
			}
		})
	}
}

func TestGetAndSet(t *testing.T) {
	for _, tag := range []int{0, api.MaxTag, api.Closure, api.Text} {
		h := heap.New(64)
		a := put(t, h, 1)
		w := put(t, h, tag, one, a, two)
		b := put(t, h, 2, one)
		for i, want := range []int{one, a, two} {
			if v, e := h.Get(w, i); v != want || e != api.OK {
				t.Errorf("field %d is %d, %v, not %d", i, v, e, want)
			}
		}
		set(t, h, w, 0, b)
		set(t, h, w, 2, w)
		set(t, h, w, 1, math.MinInt+1)
		if !slices.Equal(h.Fields(w), []int{b, math.MinInt + 1, w}) || h.Tag(w) != tag || h.Used() != 7 {
			t.Errorf("the fields are %v, the tag is %d, Used %d", h.Fields(w), h.Tag(w), h.Used())
		}
		if h.Tag(a) != 1 || len(h.Fields(a)) != 0 || h.Tag(b) != 2 || !slices.Equal(h.Fields(b), []int{one}) {
			t.Errorf("Set has changed another block: %v", tell(t, h))
		}
	}
}

func TestFieldsThatThereAreNot(t *testing.T) {
	for _, tag := range []int{0, api.MaxTag, api.Closure, api.Text} {
		for _, many := range []int{0, 1, 3, 60} {
			h := heap.New(64)
			w := put(t, h, tag, slices.Repeat([]int{two}, many)...)
			put(t, h, 7, one)
			for _, i := range []int{-1, -2, -61, many, many + 1, 61, 64, 1 << 32, math.MaxInt, math.MinInt} {
				unchanged(t, h, func() {
					if v, e := h.Get(w, i); v != 0 || e != api.ErrArg {
						t.Errorf("Get(%d, %d) of %d fields is %d, %v", w, i, many, v, e)
					}
					for _, v := range []int{one, w, 0, 4, math.MinInt} { // ErrArg, also of what may not stand: it is named ahead
						if e := h.Set(w, i, v); e != api.ErrArg {
							t.Errorf("Set(%d, %d, %d) of %d fields is %v", w, i, v, many, e)
						}
					}
				})
			}
		}
	}
}

func TestSetOfWhatMayNotStand(t *testing.T) {
	h := withTwoBlocks(t)
	set(t, h, 2, 1, 8)
	for _, v := range strangers {
		unchanged(t, h, func() {
			for i := range 2 {
				if e := h.Set(2, i, v); e != api.ErrWord {
					t.Errorf("Set(2, %d, %d) is %v", i, v, e)
				}
			}
		})
	}
	for _, tag := range []int{0, api.MaxTag, api.Closure} {
		w := put(t, h, tag, one)
		if e := h.Set(w, 0, 0); e != api.ErrWord {
			t.Errorf("Set of nobody's word in tag %d is %v", tag, e)
		}
	}
	w := put(t, h, api.Text, 1)
	for _, v := range append(strangers, far...) {
		set(t, h, w, 0, v)
		if got, e := h.Get(w, 0); got != v || e != api.OK {
			t.Errorf("the Text's field is %d, %v, not %d", got, e, v)
		}
	}
}

// P2.3

func TestOrderBehindCollect(t *testing.T) {
	h := heap.New(64)
	a := put(t, h, 10)          // 2
	b := put(t, h, 11, a)       // 4
	lost := put(t, h, 12, b)    // 8
	c := put(t, h, 13, b, a, b) // 12
	d := put(t, h, 14)          // 20
	e := put(t, h, 15, d, c, a) // 22
	f := put(t, h, api.Text, a, lost, e)
	g := put(t, h, api.Closure, one, d)
	set(t, h, b, 0, c)
	// From the roots f, e, f, an integer, g; then from e: d, c, a; then from c: b.
	l := collect(t, h, f, e, f, two, g, two)
	if !slices.Equal(l, []int{2, 10, 2, two, 18, two}) {
		t.Errorf("the roots are %v", l)
	}
	want := []told{
		{2, api.Text, []int{a, lost, e}},
		{10, 15, []int{24, 26, 34}},
		{18, api.Closure, []int{one, 24}},
		{24, 14, nil},
		{26, 13, []int{36, 34, 36}},
		{34, 10, nil},
		{36, 11, []int{26}},
	}
	if is := tell(t, h); !sameBlocks(is, want) {
		t.Errorf("the blocks are %v, not %v", is, want)
	}
}

// A block's own fields come behind all roots, and those of a block ahead of those of the next one.
func TestOrderGoesByBlocksNotDeep(t *testing.T) {
	h := heap.New(64)
	leaf := func(tag int) int { return put(t, h, tag) }
	left := put(t, h, 1, leaf(11), leaf(12))
	right := put(t, h, 2, leaf(21), leaf(22))
	top := put(t, h, 3, left, right)
	other := put(t, h, 4, leaf(31))
	collect(t, h, top, other)
	var tags []int
	for _, b := range tell(t, h) {
		tags = append(tags, b.tag)
	}
	if !slices.Equal(tags, []int{3, 4, 1, 2, 31, 11, 12, 21, 22}) {
		t.Errorf("the tags are %v", tags)
	}
}

func TestCollectOfNoRoots(t *testing.T) {
	for _, roots := range [][]int{nil, {}, {one}, {one, two, -1, math.MaxInt, math.MinInt + 1}} {
		h := withTwoBlocks(t)
		put(t, h, api.Text, 2, 8)
		if n, e := h.Reach(roots); n != 0 || e != api.OK {
			t.Errorf("Reach(%v) is %d, %v", roots, n, e)
		}
		if l := collect(t, h, roots...); !slices.Equal(l, roots) || h.Used() != 0 || len(tell(t, h)) != 0 {
			t.Errorf("Collect(%v) is %v, Used %d", roots, l, h.Used())
		}
		if w := put(t, h, 9, one); w != 2 || !slices.Equal(h.Fields(w), []int{one}) {
			t.Errorf("the first block behind Collect(%v) is %d", roots, w)
		}
	}
}

func TestTextsAreNotGoneThrough(t *testing.T) {
	h := heap.New(64)
	lost := put(t, h, 1)
	kept := put(t, h, 2)
	raw := []int{lost, kept, 2, 4, 6, 8, 0, -2, 1, math.MaxInt - 1}
	s := put(t, h, api.Text, raw...)
	set(t, h, s, 2, s)
	raw[2] = s
	box := put(t, h, 3, s)
	if n, e := h.Reach([]int{box}); n != 13 || e != api.OK {
		t.Errorf("Reach of a Text is %d, %v", n, e)
	}
	l := collect(t, h, box, kept)
	if !slices.Equal(l, []int{2, 6}) || h.Used() != 14 {
		t.Errorf("Collect is %v, Used %d", l, h.Used())
	}
	if !slices.Equal(h.Fields(2), []int{8}) || h.Tag(8) != api.Text || !slices.Equal(h.Fields(8), raw) {
		t.Errorf("the Text is %v", h.Fields(8))
	}
}

func TestClosuresAreGoneThrough(t *testing.T) {
	h := heap.New(64)
	put(t, h, 1)
	kept := put(t, h, 2, one)
	f := put(t, h, api.Closure, two, kept)
	if l := collect(t, h, f); !slices.Equal(l, []int{2}) || h.Used() != 5 || h.Tag(8) != 2 || !slices.Equal(h.Fields(2), []int{two, 8}) {
		t.Errorf("%v: %v", l, tell(t, h))
	}
}

func TestBlocksThatPointToThemselves(t *testing.T) {
	for _, tag := range []int{0, api.MaxTag, api.Closure} {
		h := heap.New(64)
		put(t, h, 1, one)
		w := put(t, h, tag, one, one, two)
		set(t, h, w, 0, w)
		set(t, h, w, 1, w)
		if n, e := h.Reach([]int{w, w}); n != 4 || e != api.OK {
			t.Errorf("Reach is %d, %v", n, e)
		}
		if l := collect(t, h, w, w); !slices.Equal(l, []int{2, 2}) || h.Used() != 4 || !slices.Equal(h.Fields(2), []int{2, 2, two}) || h.Tag(2) != tag {
			t.Errorf("%v: %v", l, tell(t, h))
		}
	}
}

func TestBlocksThatPointToOneAnother(t *testing.T) {
	h := heap.New(64)
	a := put(t, h, 1, one)
	put(t, h, 9)
	b := put(t, h, 2, a, two)
	c := put(t, h, 3, b)
	set(t, h, a, 0, c)
	for _, roots := range [][]int{{a}, {b}, {c}, {a, b, c}, {c, a}} {
		if n, e := h.Reach(roots); n != 7 || e != api.OK {
			t.Errorf("Reach(%v) is %d, %v", roots, n, e)
		}
	}
	if l := collect(t, h, b); !slices.Equal(l, []int{2}) {
		t.Errorf("Collect is %v", l)
	}
	if want := []told{{2, 2, []int{8, two}}, {8, 1, []int{12}}, {12, 3, []int{2}}}; !sameBlocks(tell(t, h), want) {
		t.Errorf("the blocks are %v", tell(t, h))
	}
	if collect(t, h); h.Used() != 0 { // a ring that nothing else points to is no more
		t.Errorf("Used is %d", h.Used())
	}
}

func TestOneBlockThatManyName(t *testing.T) {
	h := heap.New(64)
	put(t, h, 8)
	s := put(t, h, 1, two)
	a := put(t, h, 2, s, s, s)
	b := put(t, h, 3, s, a)
	if n, e := h.Reach([]int{b, s, b, a, s}); n != 9 || e != api.OK {
		t.Errorf("Reach is %d, %v", n, e)
	}
	l := collect(t, h, b, s, b, s)
	if !slices.Equal(l, []int{2, 8, 2, 8}) || h.Used() != 9 {
		t.Errorf("%v: %v", l, tell(t, h))
	}
	if !slices.Equal(h.Fields(2), []int{8, 12}) || !slices.Equal(h.Fields(12), []int{8, 8, 8}) {
		t.Errorf("the blocks are %v", tell(t, h))
	}
	set(t, h, 8, 0, one) // it is one still
	if v, e := h.Get(h.Fields(12)[2], 0); v != one || e != api.OK {
		t.Errorf("through another field it is %d, %v", v, e)
	}
}

func TestRootsThatMayNotStand(t *testing.T) {
	for _, v := range strangers {
		h := withTwoBlocks(t)
		set(t, h, 2, 0, 8)
		for _, roots := range [][]int{{v}, {one, v}, {v, 2}, {8, 2, v}, append(slices.Repeat([]int{8}, 1000), v)} {
			unchanged(t, h, func() {
				if l, e := h.Collect(roots); len(l) != 0 || e != api.ErrWord {
					t.Errorf("Collect(..%d) is %v, %v", v, l, e)
				}
				if n, e := h.Reach(roots); n != 0 || e != api.ErrWord {
					t.Errorf("Reach(..%d) is %d, %v", v, n, e)
				}
			})
		}
	}
}

func TestReachChangesNothing(t *testing.T) {
	h := withTwoBlocks(t)
	set(t, h, 2, 1, 8)
	s := put(t, h, api.Text, 2, 8, 3)
	for _, l := range []struct {
		roots []int
		want  int
	}{
		{nil, 0}, {[]int{one}, 0}, {[]int{8}, 1}, {[]int{2}, 4}, {[]int{2, 8}, 4}, {[]int{8, 2, 8, one, 2}, 4}, {[]int{s}, 4}, {[]int{s, 8}, 5}, {[]int{s, 2}, 8},
	} {
		unchanged(t, h, func() {
			for range 2 {
				if n, e := h.Reach(l.roots); n != l.want || e != api.OK {
					t.Errorf("Reach(%v) is %d, %v, not %d", l.roots, n, e, l.want)
				}
			}
		})
	}
	if w := put(t, h, 6, 2); w != 18 { // and the next block lies where it would have
		t.Errorf("the next block is %d", w)
	}
}

func TestBlocksAreInTheOtherHalfBehindEachCollect(t *testing.T) {
	h := heap.New(64)
	w := put(t, h, 1, one)
	for i := range 10 { // there and back again, with what lay there under it
		put(t, h, 2, slices.Repeat([]int{two}, 20+i)...)
		next := put(t, h, 3, w, ints.Tag(i))
		w = collect(t, h, next)[0]
		if w != 2 || h.Tag(2) != 3 || h.Used() != 3*(i+1)+2 {
			t.Fatalf("%d: %v", i, tell(t, h))
		}
	}
	for i := 9; i >= 0; i-- {
		if v, e := h.Get(w, 1); v != ints.Tag(i) || e != api.OK {
			t.Errorf("%d: %d, %v", i, v, e)
		}
		w, _ = h.Get(w, 0)
	}
	if h.Tag(w) != 1 || !slices.Equal(h.Fields(w), []int{one}) {
		t.Errorf("the first block is %d, %v", h.Tag(w), h.Fields(w))
	}
}

// A list as long as the greatest heap has words for: nothing is too deep.
func TestLongList(t *testing.T) {
	h := heap.New(api.MaxHeap)
	w := one
	for h.Used()+2 <= h.Half() {
		w = put(t, h, 1, w)
	}
	if n, e := h.Reach([]int{w}); n != api.MaxHeap || e != api.OK {
		t.Errorf("Reach is %d, %v", n, e)
	}
	if l := collect(t, h, w); l[0] != 2 || h.Used() != api.MaxHeap {
		t.Errorf("Collect is %v, Used %d", l, h.Used())
	}
	many := 0
	for w := 2; w != one; many++ {
		v, e := h.Get(w, 0)
		if e != api.OK || v != one && v != w+4 {
			t.Fatalf("%d: %d, %v", w, v, e)
		}
		w = v
	}
	if many != api.MaxHeap/2 {
		t.Errorf("the list has %d blocks", many)
	}
}

// P2.4

// twins tells whether what is reached from a in one heap is as what is reached from b in the other, by tags, fields, and what is the same.
func twins(x *heap.Heap, a []int, y *heap.Heap, b []int) bool {
	there, here := map[int]int{}, map[int]int{}
	var same func(v, w int) bool
	same = func(v, w int) bool {
		if !x.Is(v) || !y.Is(w) {
			return v == w && !x.Is(v) && !y.Is(w)
		}
		_, seen := there[v]
		_, taken := here[w]
		if seen || taken {
			return there[v] == w && here[w] == v
		}
		there[v], here[w] = w, v
		if x.Tag(v) == api.Text {
			return y.Tag(w) == api.Text && slices.Equal(x.Fields(v), y.Fields(w))
		}
		return x.Tag(v) == y.Tag(w) && slices.EqualFunc(x.Fields(v), y.Fields(w), same)
	}
	return slices.EqualFunc(a, b, same)
}

// tangled is a heap of many blocks that point anywhere, the same one for the same seed.
func tangled(seed int) (*heap.Heap, []int) {
	d := dice(seed)
	h := heap.New(600)
	var all []int
	word := func() int {
		if len(all) > 0 && d.below(3) > 0 {
			return all[d.below(len(all))]
		}
		return ints.Tag(d.below(9) - 4)
	}
	for h.Used() < 500 {
		fields := make([]int, d.below(5))
		for i := range fields {
			fields[i] = word()
		}
		w, _ := h.Make([]int{0, 1, api.MaxTag, api.Closure, api.Text}[d.below(5)], fields)
		all = append(all, w)
	}
	for range 200 {
		if w := all[d.below(len(all))]; len(h.Fields(w)) > 0 {
			h.Set(w, d.below(len(h.Fields(w))), word())
		}
	}
	roots := make([]int, d.below(8))
	for i := range roots {
		roots[i] = word()
	}
	return h, roots
}

func TestWhatIsReachedIsAsItWas(t *testing.T) {
	for seed := range 200 {
		was, roots := tangled(seed)
		h, _ := tangled(seed)
		want, e := was.Reach(roots)
		if e != api.OK {
			t.Fatal(seed, e)
		}
		l := collect(t, h, roots...)
		if !twins(was, roots, h, l) {
			t.Errorf("%d: what is reached has changed", seed)
		}
		if n, e := h.Reach(l); n != want || e != api.OK || h.Used() != want {
			t.Errorf("%d: Used %d, Reach %d, %v, not %d", seed, h.Used(), n, e, want)
		}
		if again := collect(t, h, l...); !slices.Equal(again, l) || h.Used() != want || !twins(was, roots, h, again) {
			t.Errorf("%d: a second Collect moves what lies already in order", seed)
		}
	}
}

// What twins tells must not be true of everything.
func TestTwinsTellsUnlikeHeapsApart(t *testing.T) {
	x, y := heap.New(64), heap.New(64)
	a := put(t, x, 1, put(t, x, 0), put(t, x, 0))
	s := put(t, y, 0)
	b := put(t, y, 1, s, s)
	c := put(t, y, 1, s, put(t, y, 0))
	if twins(x, []int{a}, y, []int{b}) || twins(y, []int{b}, x, []int{a}) || !twins(x, []int{a}, y, []int{c}) {
		t.Error("what is the same is not told")
	}
}
