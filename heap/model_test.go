package heap_test

import (
	"slices"
	"testing"

	"selvage/api"
	"selvage/heap"
	"selvage/ints"
)

// block is a block as the chapter speaks of it, without a memory: of each field either a number, or the block it points to.
type block struct {
	tag    int
	fields []field
}

type field struct {
	number int
	to     *block
}

// model is a heap of such blocks, in their order.
type model struct {
	half   int
	blocks []*block
}

func (b *block) size() int {
	return 1 + len(b.fields)
}

func (m *model) used() int {
	n := 0
	for _, b := range m.blocks {
		n += b.size()
	}
	return n
}

// pointer is told by what lies ahead of a block.
func (m *model) pointer(of *block) int {
	at := 1
	for _, b := range m.blocks {
		if b == of {
			return 2 * at
		}
		at += b.size()
	}
	panic("a block that is no more is pointed to")
}

func (m *model) find(w int) *block {
	for _, b := range m.blocks {
		if m.pointer(b) == w {
			return b
		}
	}
	return nil
}

func (m *model) may(w int) bool {
	return w%2 != 0 || m.find(w) != nil
}

func (m *model) allMay(words []int) bool {
	return !slices.ContainsFunc(words, func(w int) bool { return !m.may(w) })
}

// field is what a word is in a block of that tag.
func (m *model) field(tag, w int) field {
	if to := m.find(w); tag != 201 && to != nil {
		return field{to: to}
	}
	return field{number: w}
}

func (m *model) word(f field) int {
	if f.to != nil {
		return m.pointer(f.to)
	}
	return f.number
}

func (m *model) words(fields []field) []int {
	var l []int
	for _, f := range fields {
		l = append(l, m.word(f))
	}
	return l
}

func (m *model) make(tag int, fields []int) (int, api.Errno) {
	if tag < 0 || tag > 201 || len(fields) > 60 || tag != 201 && !m.allMay(fields) {
		return 0, api.ErrArg
	}
	if m.used()+1+len(fields) > m.half {
		return 0, api.ErrRoom
	}
	b := &block{tag: tag}
	for _, w := range fields {
		b.fields = append(b.fields, m.field(tag, w))
	}
	m.blocks = append(m.blocks, b)
	return m.pointer(b), api.OK
}

func (m *model) get(w, i int) (int, api.Errno) {
	b := m.find(w)
	if b == nil {
		return 0, api.ErrWord
	}
	if i < 0 || i >= len(b.fields) {
		return 0, api.ErrArg
	}
	return m.word(b.fields[i]), api.OK
}

func (m *model) set(w, i, v int) api.Errno {
	if _, e := m.get(w, i); e != api.OK {
		return e
	}
	b := m.find(w)
	if b.tag != 201 && !m.may(v) {
		return api.ErrWord
	}
	b.fields[i] = m.field(b.tag, v)
	return api.OK
}

// reached are the blocks that are, in the order in which they lie behind a collection.
func (m *model) reached(roots []int) []*block {
	var l []*block
	for _, w := range roots {
		if b := m.find(w); b != nil && !slices.Contains(l, b) {
			l = append(l, b)
		}
	}
	for i := 0; i < len(l); i++ {
		for _, f := range l[i].fields {
			if f.to != nil && !slices.Contains(l, f.to) {
				l = append(l, f.to)
			}
		}
	}
	return l
}

func (m *model) reach(roots []int) (int, api.Errno) {
	if !m.allMay(roots) {
		return 0, api.ErrWord
	}
	all := model{blocks: m.reached(roots)}
	return all.used(), api.OK
}

func (m *model) collect(roots []int) ([]int, api.Errno) {
	if !m.allMay(roots) {
		return nil, api.ErrWord
	}
	var fields []field
	for _, w := range roots {
		fields = append(fields, m.field(0, w))
	}
	m.blocks = m.reached(roots)
	return m.words(fields), api.OK
}

// hold holds all that a heap tells against the model.
func (m *model) hold(t *testing.T, h *heap.Heap) {
	t.Helper()
	if h.Half() != m.half || h.Used() != m.used() {
		t.Fatalf("Half %d, Used %d, not %d, %d", h.Half(), h.Used(), m.half, m.used())
	}
	for w := -5; w <= 2*m.half+8; w++ {
		b := m.find(w)
		if h.Is(w) != (b != nil) || h.May(w) != m.may(w) {
			t.Fatalf("%d: Is %v, May %v", w, h.Is(w), h.May(w))
		}
		tag, many := -1, 0
		var fields []int
		if b != nil {
			tag, many, fields = b.tag, len(b.fields), m.words(b.fields)
		}
		if h.Tag(w) != tag || !slices.Equal(h.Fields(w), fields) {
			t.Fatalf("%d: tag %d, fields %v, not %d, %v", w, h.Tag(w), h.Fields(w), tag, fields)
		}
		for _, i := range []int{-1, 0, many / 2, many - 1, many, many + 1} {
			got, e := h.Get(w, i)
			if want, f := m.get(w, i); got != want || e != f {
				t.Fatalf("Get(%d, %d) is %d, %v, not %d, %v", w, i, got, e, want, f)
			}
		}
	}
}

// dice tells numbers, the same ones in each run.
type dice uint64

// below is a number from 0 to n - 1.
func (d *dice) below(n int) int {
	*d = *d*6364136223846793005 + 1442695040888963407
	return int(uint64(*d) >> 33 % uint64(n))
}

// word is an integer's, a block's, or, one time of many, one of anything near a pointer.
func (d *dice) word(m *model, many int) int {
	switch {
	case d.below(many) == 0:
		return d.below(2*m.half+8) - 4
	case len(m.blocks) > 0 && d.below(4) > 0:
		return m.pointer(m.blocks[d.below(len(m.blocks))])
	}
	return ints.Tag(d.below(1000) - 500)
}

func (d *dice) words(m *model, most, many int) []int {
	l := make([]int, d.below(most+1))
	for i := range l {
		l[i] = d.word(m, many)
	}
	return l
}

func (d *dice) tag() int {
	tags := []int{0, 1, 2, api.MaxTag, api.Closure, api.Text, api.Text, -1, api.Text + 1}
	if d.below(10) > 0 {
		tags = tags[:7]
	}
	return tags[d.below(len(tags))]
}

// P2.1 to P2.4: whatever is asked, one behind the other, a heap does what the model does.
func TestHeapIsAsTheModel(t *testing.T) {
	for seed := range 40 {
		d := dice(seed)
		half := 64 + d.below(40)
		h, m := heap.New(half), &model{half: half}
		for range 250 {
			step(t, &d, h, m)
			m.hold(t, h)
		}
	}
}

// step asks both for one thing, and holds the answers against each other.
func step(t *testing.T, d *dice, h *heap.Heap, m *model) {
	t.Helper()
	switch d.below(8) {
	case 0, 1, 2, 3:
		tag := d.tag()
		many := 60
		if tag == api.Text {
			many = 2
		}
		fields := d.words(m, 4+d.below(4), many)
		if d.below(30) == 0 {
			fields = slices.Repeat([]int{1}, 58+d.below(5))
		}
		got, e := h.Make(tag, fields)
		if want, f := m.make(tag, fields); got != want || e != f {
			t.Fatalf("Make(%d, %v) is %d, %v, not %d, %v", tag, fields, got, e, want, f)
		}
	case 4, 5:
		w, i, v := d.word(m, 10), d.below(6)-1, d.word(m, 5)
		e := h.Set(w, i, v)
		if f := m.set(w, i, v); e != f {
			t.Fatalf("Set(%d, %d, %d) is %v, not %v", w, i, v, e, f)
		}
	case 6:
		roots := d.words(m, 5, 20)
		got, e := h.Reach(roots)
		if want, f := m.reach(roots); got != want || e != f {
			t.Fatalf("Reach(%v) is %d, %v, not %d, %v", roots, got, e, want, f)
		}
	case 7:
		roots := d.words(m, 5, 20)
		got, e := h.Collect(roots)
		if want, f := m.collect(roots); !slices.Equal(got, want) || e != f {
			t.Fatalf("Collect(%v) is %v, %v, not %v, %v", roots, got, e, want, f)
		}
	}
}
