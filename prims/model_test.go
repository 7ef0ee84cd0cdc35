package prims_test

import (
	"slices"
	"testing"

	"selvage/api"
	"selvage/heap"
	"selvage/ints"
	"selvage/prims"
)

// dice tells numbers, the same ones in each run.
type dice uint64

// number is any one.
func (d *dice) number() int {
	*d = *d*6364136223846793005 + 1442695040888963407
	n := uint64(*d)
	n = (n ^ n>>30) * 0xbf58476d1ce4e5b9
	return int(n ^ n>>27)
}

// below is a number from 0 to n - 1.
func (d *dice) below(n int) int { return int(uint64(d.number()) >> 1 % uint64(n)) }

// The kinds of things.
const (
	isText    = iota // a string's block
	isClosure        // a closure's
	isCon            // a constructor's
	isOther          // a Text of no string, a Closure without a function
)

// thing is what a block is, without a memory.
type thing struct {
	kind, tag int
	text      string
	fun       int
	raw       []int // fields of no meaning
	parts     []part
}

// part is a word, or the thing that is pointed to.
type part struct {
	word int
	to   *thing
}

// model is a heap of things, and where each one is.
type model struct {
	half int
	at   map[*thing]int
}

func (x *thing) size() int {
	switch x.kind {
	case isText:
		return 1 + len(packed(x.text))
	case isClosure:
		return 2 + len(x.parts)
	}
	return 1 + len(x.raw) + len(x.parts)
}

func (m *model) used() int {
	n := 0
	for x := range m.at {
		n += x.size()
	}
	return n
}

func (m *model) find(w int) *thing {
	for x, at := range m.at {
		if at == w {
			return x
		}
	}
	return nil
}

func (m *model) words(parts []part) []int {
	var l []int
	for _, p := range parts {
		if p.to != nil {
			l = append(l, m.at[p.to])
		} else {
			l = append(l, p.word)
		}
	}
	return l
}

// parts is what words are; false, if one may not stand.
func (m *model) parts(words []int) ([]part, bool) {
	var l []part
	for _, w := range words {
		p := part{word: w, to: m.find(w)}
		if p.to == nil && w%2 == 0 {
			return nil, false
		}
		l = append(l, p)
	}
	return l, true
}

// add is a thing more, if there is room.
func (m *model) add(x *thing) (int, api.Errno) {
	used := m.used()
	if used+x.size() > m.half {
		return 0, api.ErrRoom
	}
	m.at[x] = 2*used + 2
	return m.at[x], api.OK
}

func (m *model) makeText(s string) (int, api.Errno) {
	if len(s) > 60 {
		return 0, api.ErrLong
	}
	return m.add(&thing{kind: isText, tag: 201, text: s})
}

func (m *model) str(w int) (string, api.Errno) {
	if x := m.find(w); x != nil && x.kind == isText {
		return x.text, api.OK
	}
	return "", api.ErrWord
}

func (m *model) join(a, b int) (int, api.Errno) {
	s, e := m.str(a)
	r, f := m.str(b)
	if e != api.OK || f != api.OK {
		return 0, api.ErrWord
	}
	return m.makeText(s + r)
}

func (m *model) close(fun int, kept []int) (int, api.Errno) {
	parts, may := m.parts(kept)
	if fun < 0 || fun > greatest || len(kept) > 59 || !may {
		return 0, api.ErrArg
	}
	return m.add(&thing{kind: isClosure, tag: 200, fun: fun, parts: parts})
}

func (m *model) open(w int) (int, []int, api.Errno) {
	if x := m.find(w); x != nil && x.kind == isClosure {
		return x.fun, m.words(x.parts), api.OK
	}
	return 0, nil, api.ErrWord
}

func (m *model) cases(w int) (int, api.Errno) {
	if w%2 != 0 {
		return (w - 1) / 2, api.OK
	}
	if x := m.find(w); x != nil && x.kind == isCon {
		return x.tag, api.OK
	}
	return 0, api.ErrWord
}

// hold holds all that is told of a heap's words against the model.
func (m *model) hold(t *testing.T, h *heap.Heap) {
	t.Helper()
	if h.Used() != m.used() {
		t.Fatalf("Used is %d, not %d", h.Used(), m.used())
	}
	for w := -5; w <= 2*m.half+8; w++ {
		s, e := prims.Str(h, w)
		if want, f := m.str(w); s != want || e != f {
			t.Fatalf("Str(%d) is %q, %v, not %q, %v", w, s, e, want, f)
		}
		n, l, e := prims.Open(h, w)
		if want, kept, f := m.open(w); n != want || !slices.Equal(l, kept) || e != f {
			t.Fatalf("Open(%d) is %d, %v, %v, not %d, %v, %v", w, n, l, e, want, kept, f)
		}
		n, e = prims.Case(h, w)
		if want, f := m.cases(w); n != want || e != f {
			t.Fatalf("Case(%d) is %d, %v, not %d, %v", w, n, e, want, f)
		}
	}
}

// follow says where things are behind a collection that told these roots: each thing at one place, no two at the same.
func (m *model) follow(t *testing.T, h *heap.Heap, roots []part, told []int) {
	t.Helper()
	at := map[*thing]int{}
	var lies func(p part, w int)
	lies = func(p part, w int) {
		if p.to == nil {
			if w != p.word {
				t.Fatalf("behind Collect the word %d is %d", p.word, w)
			}
			return
		}
		if was, met := at[p.to]; met {
			if was != w {
				t.Fatalf("behind Collect one thing is at %d and at %d", was, w)
			}
			return
		}
		at[p.to] = w
		l := h.Fields(w)
		if p.to.kind == isClosure {
			_, l, _ = prims.Open(h, w)
		}
		if p.to.kind == isText || len(l) < len(p.to.parts) {
			l = nil // hold tells what is wrong with it
		}
		for i, k := range p.to.parts[:min(len(l), len(p.to.parts))] {
			lies(k, l[i])
		}
	}
	for i, p := range roots {
		lies(p, told[i])
	}
	taken := map[int]*thing{}
	for x, w := range at {
		if y := taken[w]; y != nil {
			t.Fatalf("behind Collect two things are at %d", w)
		}
		taken[w] = x
	}
	m.at = at
}

// word is an integer's, one of a thing, or, one time of many, one of anything near a pointer.
func (d *dice) word(m *model, many int) int {
	if d.below(many) == 0 {
		return d.below(2*m.half+8) - 4
	}
	var l []int
	for _, at := range m.at {
		l = append(l, at)
	}
	slices.Sort(l)
	if len(l) > 0 && d.below(4) > 0 {
		return l[d.below(len(l))]
	}
	return ints.Tag(d.number() >> d.below(64))
}

func (d *dice) words(m *model, most, many int) []int {
	var l []int
	for range d.below(most + 1) {
		l = append(l, d.word(m, many))
	}
	return l
}

func (d *dice) text() string {
	l := make([]byte, d.below(d.below(64)+1))
	for i := range l {
		l[i] = byte(d.number())
	}
	return string(l)
}

func (d *dice) function() int {
	return []int{0, d.below(9), d.below(greatest), greatest, greatest + 1, -1 - d.below(9)}[min(d.below(8), 5)]
}

// P16.1, P16.3, P16.4: whatever is made, one behind the other, with collections between, is told as the model tells it.
func TestPrimsAreAsTheModel(t *testing.T) {
	for seed := range 60 {
		d := dice(seed)
		half := 64 + d.below(90)
		h, m := heap.New(half), &model{half, map[*thing]int{}}
		for range 200 {
			step(t, &d, h, m)
			m.hold(t, h)
		}
	}
}

// step asks both for one thing, and holds the answers against each other.
func step(t *testing.T, d *dice, h *heap.Heap, m *model) {
	t.Helper()
	var got, want int
	var e, f api.Errno
	what := d.below(9)
	switch what {
	case 0, 1:
		s := d.text()
		got, e = prims.Text(h, s)
		want, f = m.makeText(s)
	case 2, 3:
		a, b := d.word(m, 20), d.word(m, 20)
		got, e = prims.Join(h, a, b)
		want, f = m.join(a, b)
	case 4, 5:
		fun, kept := d.function(), d.words(m, 5, 30)
		got, e = prims.Close(h, fun, kept)
		want, f = m.close(fun, kept)
	case 6:
		fields, tag := d.words(m, 3, 1000000), d.below(200)
		parts, may := m.parts(fields)
		if !may {
			return
		}
		got, e = h.Make(tag, fields)
		want, f = m.add(&thing{kind: isCon, tag: tag, parts: parts})
	case 7:
		x := &thing{kind: isOther, tag: 200 + d.below(2)}
		if x.tag == 201 {
			x.raw = slices.Repeat([]int{61 + d.below(9)}, d.below(12))
		} else {
			x.raw = slices.Repeat([]int{-1 - 2*d.below(9)}, d.below(4))
		}
		got, e = h.Make(x.tag, x.raw)
		want, f = m.add(x)
	case 8:
		roots := d.words(m, 6, 1000000)
		parts, may := m.parts(roots)
		if !may {
			return
		}
		m.follow(t, h, parts, collect(t, h, roots...))
	}
	if got != want || e != f {
		t.Fatalf("%d is %d, %v, not %d, %v", what, got, e, want, f)
	}
}

// P16.4: each thing that is made is told again behind any number of collections, whatever lay ahead of it.
func TestWhatIsMadeIsToldBehindCollect(t *testing.T) {
	for _, s := range texts() {
		h := heap.New(200)
		text(t, h, "ahead")
		w := text(t, h, s)
		put(t, h, 4, one)
		c := closure(t, h, 7, w, one, w)
		closure(t, h, 8, c)
		c = closure(t, h, greatest, c, w, two)
		for range 3 {
			l := collect(t, h, c, w)
			c, w = l[0], l[1]
			tells(t, h, w, s)
			n, kept, e := prims.Open(h, c)
			if n != greatest || len(kept) != 3 || kept[1] != w || kept[2] != two || e != api.OK {
				t.Fatalf("Open(%d) is %d, %v, %v", c, n, kept, e)
			}
			opens(t, h, kept[0], 7, w, one, w)
			if h.Used() != 5+5+1+len(packed(s)) {
				t.Errorf("Used is %d", h.Used())
			}
		}
	}
}

// P16.4: what texts are joined to lives without them, and what Case tells stays.
func TestCollectBehindJoinAndCase(t *testing.T) {
	h := heap.New(64)
	a, b := text(t, h, "abc"), text(t, h, "defgh")
	w, e := prims.Join(h, a, b)
	if e != api.OK {
		t.Fatal(e)
	}
	k := put(t, h, 42, w, w)
	cases(t, h, k, 42)
	l := collect(t, h, k, w, one)
	tells(t, h, l[1], "abcdefgh")
	cases(t, h, l[0], 42)
	cases(t, h, l[2], 1)
	if h.Used() != 7 {
		t.Errorf("Used is %d", h.Used())
	}
	l = collect(t, h, l[1])
	tells(t, h, l[0], "abcdefgh")
	noCase(t, h, l[0])
	collect(t, h)
	noText(t, h, l[0])
}

// P16.4: a heap that is full of texts has room again where they are not reached, and only there.
func TestRoomBehindCollect(t *testing.T) {
	h := heap.New(64)
	var l []int
	for {
		w, e := prims.Text(h, "abc")
		if e == api.ErrRoom {
			break
		}
		l = append(l, w)
	}
	if len(l) != 21 || h.Used() != 63 {
		t.Fatalf("%d texts take %d words", len(l), h.Used())
	}
	l = collect(t, h, l...)
	refused(t, h, api.ErrRoom, func() (int, api.Errno) { return prims.Text(h, "abc") })
	refused(t, h, api.ErrRoom, func() (int, api.Errno) { return prims.Join(h, l[0], l[20]) })
	refused(t, h, api.ErrRoom, func() (int, api.Errno) { return prims.Close(h, 1, nil) })
	l = collect(t, h, l[:20]...)
	text(t, h, "abc")
	for _, w := range l {
		tells(t, h, w, "abc")
	}
	refused(t, h, api.ErrRoom, func() (int, api.Errno) { return prims.Text(h, "") })
}
