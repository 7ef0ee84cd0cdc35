package prims_test

import (
	"math"
	"slices"
	"strings"
	"testing"

	"selvage/api"
	"selvage/heap"
	"selvage/ints"
	"selvage/prims"
)

var (
	one, two = ints.Tag(1), ints.Tag(2)
	far      = []int{math.MinInt, math.MinInt + 1, math.MinInt + 2, math.MaxInt - 1, math.MaxInt, api.MinInt, api.MaxInt, 1 << 31, 1 << 32, 1 << 61, 1 << 62}
	// greatest is the last number that a function may have.
	greatest = 2147483647
)

// put makes a block, for which there must be room.
func put(t *testing.T, h *heap.Heap, tag int, fields ...int) int {
	t.Helper()
	w, e := h.Make(tag, fields)
	if e != api.OK {
		t.Fatalf("Make(%d, %v): %v", tag, fields, e)
	}
	return w
}

// text makes a string's block, for which there must be room.
func text(t *testing.T, h *heap.Heap, s string) int {
	t.Helper()
	w, e := prims.Text(h, s)
	if e != api.OK {
		t.Fatalf("Text(%q): %v", s, e)
	}
	return w
}

// closure makes a closure's block, for which there must be room.
func closure(t *testing.T, h *heap.Heap, fun int, kept ...int) int {
	t.Helper()
	w, e := prims.Close(h, fun, kept)
	if e != api.OK {
		t.Fatalf("Close(%d, %v): %v", fun, kept, e)
	}
	return w
}

// collect collects from roots that must be good.
func collect(t *testing.T, h *heap.Heap, roots ...int) []int {
	t.Helper()
	l, e := h.Collect(roots)
	if e != api.OK {
		t.Fatalf("Collect(%v): %v", roots, e)
	}
	return l
}

// told is one block, as a heap tells it.
type told struct {
	w, tag int
	fields []int
}

// tell is all that a heap has, in its order.
func tell(h *heap.Heap) []told {
	var l []told
	for w := -4; w <= 2*h.Half()+4; w++ {
		if h.Is(w) {
			l = append(l, told{w, h.Tag(w), h.Fields(w)})
		}
	}
	return l
}

func sameBlocks(a, b []told) bool {
	return slices.EqualFunc(a, b, func(x, y told) bool {
		return x.w == y.w && x.tag == y.tag && slices.Equal(x.fields, y.fields)
	})
}

// adds does what must put one block behind the others, and nothing else, and holds that block against what it is to be.
func adds(t *testing.T, h *heap.Heap, tag int, fields []int, do func() (int, api.Errno)) int {
	t.Helper()
	was := tell(h)
	next := 2*h.Used() + 2
	w, e := do()
	if e != api.OK || w != next {
		t.Fatalf("it is %d, %v, not %d", w, e, next)
	}
	if is := tell(h); !sameBlocks(is, append(was, told{next, tag, fields})) {
		t.Fatalf("the heap is %v, behind %v and %d %v", is, was, tag, fields)
	}
	return w
}

// refused does what must be refused with 0, and holds the heap against what it was.
func refused(t *testing.T, h *heap.Heap, want api.Errno, do func() (int, api.Errno)) {
	t.Helper()
	was := tell(h)
	if w, e := do(); w != 0 || e != want {
		t.Errorf("it is %d, %v, not 0, %v", w, e, want)
	}
	if is := tell(h); !sameBlocks(is, was) {
		t.Errorf("what was refused has made %v of %v", is, was)
	}
}

// packed is a string's numbers, told by the chapter's words: its length, and of each seven bytes what they count together.
func packed(s string) []int {
	l := []int{len(s)}
	for len(s) > 0 {
		n, counts := 0, 1
		for i := 0; i < 7 && i < len(s); i++ {
			n += int(s[i]) * counts
			counts *= 256
		}
		l = append(l, n)
		s = s[min(7, len(s)):]
	}
	return l
}

// some is a text of n unlike bytes.
func some(n int) string {
	l := make([]byte, n)
	for i := range l {
		l[i] = byte(200 + 37*i)
	}
	return string(l)
}

// texts are strings, short and long, of all kinds of bytes.
func texts() []string {
	l := []string{"", "a", "ab", "hello world", "\x00", "\x00\x00\x00\x00\x00\x00\x00", "\xff\xff\xff\xff\xff\xff\xff", "\n\"\\", "é€", "a\x00", strings.Repeat("\xff", 60), strings.Repeat("\x00", 60)}
	for _, n := range []int{6, 7, 8, 13, 14, 15, 30, 56, 57, 59, 60} {
		l = append(l, some(n))
	}
	return l
}

// noPointers are words that are no pointer of a block, whatever the heap: nobody's, and those of integers.
var noPointers = []int{0, -1, -2, -4, 1, 3, one, two, 401, 403, math.MinInt, math.MinInt + 1, math.MaxInt, math.MaxInt - 1, 1 << 62, 1 << 40}

// tells holds what Str tells.
func tells(t *testing.T, h *heap.Heap, w int, want string) {
	t.Helper()
	if s, e := prims.Str(h, w); s != want || e != api.OK {
		t.Errorf("Str(%d) is %q, %v, not %q", w, s, e, want)
	}
}

// noText holds that a word is no pointer of a string's block.
func noText(t *testing.T, h *heap.Heap, w int) {
	t.Helper()
	if s, e := prims.Str(h, w); s != "" || e != api.ErrWord {
		t.Errorf("Str(%d), of tag %d and %v, is %q, %v, not ErrWord", w, h.Tag(w), h.Fields(w), s, e)
	}
}

// P16.1

func TestExampleOfText(t *testing.T) {
	h := heap.New(64)
	w, e := prims.Text(h, "ab")
	if w != 2 || e != api.OK || h.Tag(w) != api.Text || !slices.Equal(h.Fields(w), []int{2, 25185}) || h.Used() != 3 {
		t.Errorf("Text(ab) is %d, %v: %d %v", w, e, h.Tag(w), h.Fields(w))
	}
}

func TestTextMakesABlockOfItsNumbers(t *testing.T) {
	h := heap.New(1000)
	for range 2 { // of what there is already a new one is made likewise
		for _, s := range texts() {
			w := adds(t, h, 201, packed(s), func() (int, api.Errno) { return prims.Text(h, s) })
			tells(t, h, w, s)
		}
	}
	for n := range 61 {
		h := heap.New(64)
		adds(t, h, 201, packed(some(n)), func() (int, api.Errno) { return prims.Text(h, some(n)) })
	}
}

func TestTextRefusesWhatIsNoString(t *testing.T) {
	for _, s := range []string{some(61), some(62), some(63), some(64), some(256), some(257), some(1000), strings.Repeat("\x00", 61), strings.Repeat("a", 1<<20)} {
		h := heap.New(64)
		text(t, h, "a")
		refused(t, h, api.ErrLong, func() (int, api.Errno) { return prims.Text(h, s) })
		full(t, h)
		refused(t, h, api.ErrLong, func() (int, api.Errno) { return prims.Text(h, s) }) // ahead of ErrRoom
	}
}

// leave fills a heap up to n words.
func leave(t *testing.T, h *heap.Heap, n int) {
	t.Helper()
	for h.Half()-h.Used() > n {
		put(t, h, 3, slices.Repeat([]int{one}, min(60, h.Half()-h.Used()-n-1))...)
	}
	if h.Half()-h.Used() != n {
		t.Fatalf("%d words are left, not %d", h.Half()-h.Used(), n)
	}
}

func full(t *testing.T, h *heap.Heap) {
	t.Helper()
	leave(t, h, 0)
}

func TestTextTakesNoMoreRoomThanThereIs(t *testing.T) {
	for _, s := range texts() {
		for _, more := range []int{0, 1, 5} {
			h := heap.New(100)
			leave(t, h, len(packed(s))+1+more)
			adds(t, h, 201, packed(s), func() (int, api.Errno) { return prims.Text(h, s) })
			if h.Half()-h.Used() != more {
				t.Errorf("behind %q %d words are left, not %d", s, h.Half()-h.Used(), more)
			}
		}
		for n := range len(packed(s)) + 1 {
			h := heap.New(100)
			leave(t, h, n)
			refused(t, h, api.ErrRoom, func() (int, api.Errno) { return prims.Text(h, s) })
		}
	}
}

func TestStrTellsWhateverMadeTheBlock(t *testing.T) {
	h := heap.New(1000)
	var words []int
	for _, s := range texts() {
		words = append(words, put(t, h, api.Text, packed(s)...))
	}
	for i, s := range texts() {
		tells(t, h, words[i], s)
		tells(t, h, words[i], s)
	}
	w := text(t, h, "ab")
	h.Set(w, 1, 'c'+256*'d')
	tells(t, h, w, "cd")
	h.Set(w, 0, 1)
	noText(t, h, w)
	h.Set(w, 1, 'e')
	tells(t, h, w, "e")
}

func TestStrOfTextsThatAreNoStrings(t *testing.T) {
	h := heap.New(4000)
	for _, fields := range [][]int{
		nil, {-1}, {1}, {61}, {256}, {math.MinInt}, {math.MaxInt}, // too few numbers, or no length
		{0, 0}, {0, 1}, {1, 97, 0}, {7, 97, 0}, {60, 0}, // too many, too few
		{1, 256}, {1, 97 + 256}, {1, -1}, {1, -97}, {2, 1 << 16}, {6, 1 << 48}, {7, 1 << 56}, {7, -1}, {7, math.MinInt}, {8, 1 << 56, 1}, {8, 97, 256}, {8, 97, -1}, // too great, or below 0
		append([]int{61}, slices.Repeat([]int{97}, 9)...), append([]int{63}, slices.Repeat([]int{97}, 9)...), append([]int{-60}, slices.Repeat([]int{97}, 9)...),
		append([]int{60}, slices.Repeat([]int{97}, 8)...), append([]int{60}, slices.Repeat([]int{97}, 10)...), slices.Repeat([]int{59}, 60), slices.Repeat([]int{0}, 60),
	} {
		noText(t, h, put(t, h, api.Text, fields...))
	}
}

func TestStrOfOtherBlocks(t *testing.T) {
	h := heap.New(1000)
	a := text(t, h, "a")
	for _, tag := range []int{0, 1, 7, 199, api.Closure} {
		noText(t, h, put(t, h, tag, 1, 97)) // as a Text that would be the string a
		noText(t, h, put(t, h, tag, a))
		noText(t, h, put(t, h, tag))
	}
	noText(t, h, closure(t, h, 0, 97))
	tells(t, h, a, "a")
	tells(t, h, put(t, h, api.Text, 1, 97), "a")
}

func TestStrOfNoBlock(t *testing.T) {
	h := heap.New(64)
	a := text(t, h, "abcdefgh")
	for _, w := range append(noPointers, far...) {
		noText(t, h, w)
	}
	for w := -10; w <= 2*h.Half()+10; w++ {
		if w != a {
			noText(t, h, w) // also of places within the block, and behind it
		}
	}
	noText(t, heap.New(64), a)
}

func TestJoin(t *testing.T) {
	for _, x := range texts() {
		for _, y := range texts() {
			h := heap.New(200)
			a, b := text(t, h, x), text(t, h, y)
			if len(x)+len(y) > 60 {
				refused(t, h, api.ErrLong, func() (int, api.Errno) { return prims.Join(h, a, b) })
				continue
			}
			w := adds(t, h, 201, packed(x+y), func() (int, api.Errno) { return prims.Join(h, a, b) })
			tells(t, h, w, x+y)
			tells(t, h, a, x)
			tells(t, h, b, y)
		}
	}
}

func TestJoinOfLengths(t *testing.T) {
	for n := range 61 {
		for _, sum := range []int{60, 61} {
			if sum-n > 60 {
				continue
			}
			h := heap.New(100)
			x, y := some(n), strings.Repeat("z", sum-n)
			a, b := text(t, h, x), text(t, h, y)
			if sum == 61 {
				refused(t, h, api.ErrLong, func() (int, api.Errno) { return prims.Join(h, a, b) })
				full(t, h)
				refused(t, h, api.ErrLong, func() (int, api.Errno) { return prims.Join(h, a, b) }) // ahead of ErrRoom
				continue
			}
			adds(t, h, 201, packed(x+y), func() (int, api.Errno) { return prims.Join(h, a, b) })
		}
	}
}

func TestJoinOfOneWithItself(t *testing.T) {
	h := heap.New(200)
	w := text(t, h, "ab")
	for _, want := range []string{"abab", "abababab", strings.Repeat("ab", 8), strings.Repeat("ab", 16)} {
		w = adds(t, h, 201, packed(want), func() (int, api.Errno) { return prims.Join(h, w, w) })
	}
	refused(t, h, api.ErrLong, func() (int, api.Errno) { return prims.Join(h, w, w) })
	none := text(t, h, "")
	adds(t, h, 201, []int{0}, func() (int, api.Errno) { return prims.Join(h, none, none) })
}

func TestJoinRefusesWhatIsNoText(t *testing.T) {
	h := heap.New(200)
	a := text(t, h, some(60))
	b := text(t, h, "b")
	wrong := append([]int{put(t, h, 0, 1, 97), put(t, h, api.Closure, 1, 97), closure(t, h, 1, a), put(t, h, api.Text), put(t, h, api.Text, 1, 256), put(t, h, api.Text, 61), a + 2, b + 2}, noPointers...)
	hold := func() {
		t.Helper()
		for _, w := range wrong {
			for _, l := range [][2]int{{w, b}, {b, w}, {w, a}, {a, w}, {w, w}} {
				refused(t, h, api.ErrWord, func() (int, api.Errno) { return prims.Join(h, l[0], l[1]) })
			}
		}
	}
	hold()
	full(t, h)
	hold() // ahead of ErrRoom
}

func TestJoinTakesNoMoreRoomThanThereIs(t *testing.T) {
	for _, l := range [][2]string{{"", ""}, {"a", ""}, {"", "b"}, {"abcd", "efg"}, {"abcd", "efgh"}, {some(30), some(30)}} {
		takes := 1 + len(packed(l[0]+l[1]))
		for n := range takes + 3 {
			h := heap.New(100)
			a, b := text(t, h, l[0]), text(t, h, l[1])
			leave(t, h, n)
			if n < takes {
				refused(t, h, api.ErrRoom, func() (int, api.Errno) { return prims.Join(h, a, b) })
			} else {
				adds(t, h, 201, packed(l[0]+l[1]), func() (int, api.Errno) { return prims.Join(h, a, b) })
			}
		}
	}
}

// P16.3: closures

// opens holds what Open tells.
func opens(t *testing.T, h *heap.Heap, w, fun int, kept ...int) {
	t.Helper()
	if n, l, e := prims.Open(h, w); n != fun || !slices.Equal(l, kept) || e != api.OK {
		t.Errorf("Open(%d) is %d, %v, %v, not %d, %v", w, n, l, e, fun, kept)
	}
}

// noClosure holds that a word is no pointer of a closure's block.
func noClosure(t *testing.T, h *heap.Heap, w int) {
	t.Helper()
	if n, l, e := prims.Open(h, w); n != 0 || len(l) != 0 || e != api.ErrWord {
		t.Errorf("Open(%d), of tag %d and %v, is %d, %v, %v, not ErrWord", w, h.Tag(w), h.Fields(w), n, l, e)
	}
}

func TestExampleOfClose(t *testing.T) {
	h := heap.New(64)
	w, e := prims.Close(h, 2, []int{7})
	if w != 2 || e != api.OK || h.Tag(w) != api.Closure || !slices.Equal(h.Fields(w), []int{5, 7}) {
		t.Errorf("Close(2, 7) is %d, %v: %d %v", w, e, h.Tag(w), h.Fields(w))
	}
	opens(t, h, w, 2, 7)
}

func TestCloseMakesABlock(t *testing.T) {
	h := heap.New(4000)
	a := text(t, h, "a")
	b := put(t, h, 7, a)
	c := closure(t, h, 9)
	for _, fun := range []int{0, 1, 2, 119, 120, 65535, 65536, greatest - 1, greatest} {
		for _, kept := range [][]int{nil, {}, {one}, {a}, {b}, {c}, {-1, two, a, b, c, a}, {math.MaxInt, math.MinInt + 1}, slices.Repeat([]int{a}, 58), slices.Repeat([]int{one, b}, 30)[:59]} {
			w := adds(t, h, 200, append([]int{2*fun + 1}, kept...), func() (int, api.Errno) { return prims.Close(h, fun, kept) })
			opens(t, h, w, fun, kept...)
			opens(t, h, w, fun, kept...)
		}
	}
	for n := range 60 { // all that may be kept, each at its place
		h := heap.New(64)
		var kept []int
		for i := range n {
			kept = append(kept, ints.Tag(i-20))
		}
		w := adds(t, h, 200, append([]int{7}, kept...), func() (int, api.Errno) { return prims.Close(h, 3, kept) })
		opens(t, h, w, 3, kept...)
	}
}

func TestCloseRefusesWhatMayNotBe(t *testing.T) {
	h := heap.New(200)
	a := text(t, h, "abc")
	hold := func() {
		t.Helper()
		for _, fun := range append([]int{-1, -2, -greatest, greatest + 1, greatest + 2, 1<<32 - 1, 1<<32 + 1, 1<<63 - 2}, far...) {
			for _, kept := range [][]int{nil, {one}, {a, one}, {0}, slices.Repeat([]int{one}, 60)} {
				refused(t, h, api.ErrArg, func() (int, api.Errno) { return prims.Close(h, fun, kept) })
			}
		}
		next := 2*h.Used() + 2 // what is made is not there yet
		for _, w := range []int{0, -2, -4, a + 2, a + 4, next, next + 2, math.MinInt, math.MaxInt - 1, 1 << 62} {
			for _, kept := range [][]int{{w}, {one, w}, {w, one}, {a, a, w}, append(slices.Repeat([]int{one}, 58), w)} {
				refused(t, h, api.ErrArg, func() (int, api.Errno) { return prims.Close(h, 1, kept) })
			}
		}
		for _, n := range []int{60, 61, 62, 63, 100, 1 << 20} {
			refused(t, h, api.ErrArg, func() (int, api.Errno) { return prims.Close(h, 1, slices.Repeat([]int{one}, n)) })
		}
	}
	hold()
	full(t, h)
	hold() // ahead of ErrRoom
}

func TestCloseTakesNoMoreRoomThanThereIs(t *testing.T) {
	for _, n := range []int{0, 1, 2, 58, 59} {
		kept := slices.Repeat([]int{two}, n)
		for left := range n + 4 {
			h := heap.New(64)
			leave(t, h, left)
			if left < n+2 {
				refused(t, h, api.ErrRoom, func() (int, api.Errno) { return prims.Close(h, 4, kept) })
			} else {
				adds(t, h, 200, append([]int{9}, kept...), func() (int, api.Errno) { return prims.Close(h, 4, kept) })
			}
		}
	}
}

func TestOpenTellsWhateverMadeTheBlock(t *testing.T) {
	h := heap.New(400)
	a := text(t, h, "a")
	w := put(t, h, api.Closure, 2*greatest+1)
	opens(t, h, w, greatest)
	h.Set(w, 0, 1)
	opens(t, h, w, 0)
	opens(t, h, put(t, h, api.Closure, slices.Repeat([]int{one}, 60)...), 1, slices.Repeat([]int{one}, 59)...)
	w = closure(t, h, 5, one, a)
	h.Set(w, 1, w) // it keeps itself
	opens(t, h, w, 5, w, a)
	h.Set(w, 0, 13)
	opens(t, h, w, 6, w, a)
	h.Set(w, 0, a)
	noClosure(t, h, w)
}

func TestOpenOfClosuresWithoutAFunction(t *testing.T) {
	h := heap.New(400)
	a := text(t, h, "a")
	c := closure(t, h, 1)
	for _, fields := range [][]int{nil, {a}, {c}, {c, 3}, {-1}, {-3, 3}, {ints.Tag(-greatest)}, {ints.Tag(greatest + 1)}, {ints.Tag(1 << 32), one}, {math.MaxInt}, {math.MinInt + 1, one}} {
		noClosure(t, h, put(t, h, api.Closure, fields...))
	}
}

func TestOpenOfOtherBlocks(t *testing.T) {
	h := heap.New(400)
	c := closure(t, h, 2, 7)
	for _, tag := range []int{0, 1, 7, 198, 199, api.Text} {
		noClosure(t, h, put(t, h, tag, 5, 7)) // as a Closure that would be function 2's
		noClosure(t, h, put(t, h, tag))
		noClosure(t, h, put(t, h, tag, c))
	}
	noClosure(t, h, text(t, h, "\x01"))
	opens(t, h, c, 2, 7)
}

func TestOpenOfNoBlock(t *testing.T) {
	h := heap.New(64)
	c := closure(t, h, 2, 5, 7, 5)
	for _, w := range append(noPointers, far...) {
		noClosure(t, h, w)
	}
	for w := -10; w <= 2*h.Half()+10; w++ {
		if w != c {
			noClosure(t, h, w)
		}
	}
	noClosure(t, heap.New(64), c)
}

// P16.3: cases

// cases holds what Case tells.
func cases(t *testing.T, h *heap.Heap, w, want int) {
	t.Helper()
	if n, e := prims.Case(h, w); n != want || e != api.OK {
		t.Errorf("Case(%d) is %d, %v, not %d", w, n, e, want)
	}
}

// noCase holds that there is no case of a word.
func noCase(t *testing.T, h *heap.Heap, w int) {
	t.Helper()
	if n, e := prims.Case(h, w); n != 0 || e != api.ErrWord {
		t.Errorf("Case(%d), of tag %d, is %d, %v, not 0, ErrWord", w, h.Tag(w), n, e)
	}
}

func TestCaseOfIntegers(t *testing.T) {
	h := heap.New(64)
	put(t, h, 5)
	for _, n := range []int{0, 1, -1, 2, -2, 3, 199, 200, 201, 202, 65535, 1 << 31, 1 << 61, -1 << 61, api.MaxInt - 1, api.MaxInt, api.MinInt + 1, api.MinInt} {
		cases(t, h, 2*n+1, n)
	}
	for n := -300; n < 300; n++ {
		cases(t, h, 2*n+1, n)
	}
}

func TestCaseOfBlocks(t *testing.T) {
	h := heap.New(2000)
	a := text(t, h, "a")
	for tag := range 200 {
		cases(t, h, put(t, h, tag), tag)
		cases(t, h, put(t, h, tag, ints.Tag(77), a, a), tag)
	}
	cases(t, h, put(t, h, 3, slices.Repeat([]int{one}, 60)...), 3)
	for _, w := range []int{a, text(t, h, ""), put(t, h, api.Text), put(t, h, api.Text, 5), closure(t, h, 2), closure(t, h, 0, one), put(t, h, api.Closure), put(t, h, api.Closure, one)} {
		noCase(t, h, w)
	}
}

func TestCaseOfNobodysWords(t *testing.T) {
	h := heap.New(64)
	b := put(t, h, 9, one, two)
	for w := -200; w <= 2*h.Half()+200; w += 2 {
		if w != b {
			noCase(t, h, w)
		}
	}
	for _, w := range []int{math.MinInt, math.MinInt + 2, math.MaxInt - 1, 1 << 62, -1 << 62, 1 << 32, 1<<32 + b, 1<<62 + b, -1<<63 + b} {
		noCase(t, h, w)
	}
	noCase(t, heap.New(64), b)
}
