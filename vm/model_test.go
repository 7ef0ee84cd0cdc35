package vm_test

import (
	"slices"
	"testing"

	"selvage/api"
	"selvage/heap"
	"selvage/prims"
	"selvage/vm"
)

// The model is a thread without a memory: it is copied whole ahead of each step, so that what does nothing does so. What it does is told by the
// chapter's words.

// thing is what a block is.
type thing struct {
	tag   int
	text  string // of a Text
	fun   int    // of a Closure
	parts []word // of a Closure: what it keeps
}

// word is a number, or a thing that is pointed to.
type word struct {
	n  int
	to *thing
}

func number(n int) word { return word{n: 2*n + 1} }

func (x *thing) size() int {
	switch x.tag {
	case api.Text:
		return 2 + (len(x.text)+6)/7
	case api.Closure:
		return 2 + len(x.parts)
	}
	return 1 + len(x.parts)
}

// place is a mark.
type place struct{ op, depth, to int }

// level is a frame.
type level struct {
	fun, next     int
	own           word
	locals, stack []word
	marks         []place
}

// mind is a thread.
type mind struct {
	levels []level
	raises bool
	raised int
}

func (m mind) copied() mind {
	m.levels = slices.Clone(m.levels)
	for i := range m.levels {
		l := &m.levels[i]
		l.locals, l.stack, l.marks = slices.Clone(l.locals), slices.Clone(l.stack), slices.Clone(l.marks)
	}
	return m
}

func (m mind) words() []word {
	var all []word
	for _, l := range m.levels {
		all = append(all, l.own)
		all = append(all, l.locals...)
		all = append(all, l.stack...)
	}
	return all
}

func (m *mind) set(words []word) {
	for i := range m.levels {
		l := &m.levels[i]
		l.own, words = words[0], words[1:]
		words = words[copy(l.locals, words):]
		words = words[copy(l.stack, words):]
	}
}

// around is what minds live in.
type around struct {
	code api.Code
	half int
	lets []word
	at   map[*thing]int // the pointers of all things that take room
}

func (w *around) used() int {
	n := 0
	for x := range w.at {
		n += x.size()
	}
	return n
}

// asked is an act of the model.
type asked struct {
	kind, number int
	text         string
	word, other  word
}

func (m *mind) top() *level { return &m.levels[len(m.levels)-1] }

func (m *mind) puts(w word) asked {
	m.top().stack = append(m.top().stack, w)
	return asked{}
}

func (m *mind) enters(w *around, own, x word) level {
	l := level{fun: own.to.fun, own: own, locals: make([]word, w.code.Funs[own.to.fun].Locals)}
	for i := range l.locals {
		l.locals[i] = number(0)
		if i == 0 {
			l.locals[i] = x
		}
	}
	return l
}

// wrong is what a step comes to of which there is none of something.
type wrong struct{}

// must ends a step that is wrong.
func must(so bool) {
	if !so {
		panic(wrong{})
	}
}

// step is what becomes of a mind, and what it asks for.
func (m mind) step(w *around) (after mind, a asked) {
	was := m.copied()
	defer func() {
		if e := recover(); e != nil {
			if e != (wrong{}) {
				panic(e)
			}
			after, a = was, asked{kind: api.ActBad}
		}
		if a.kind == api.ActRoom || a.kind == api.ActDeep {
			after = was
		}
	}()
	m = m.copied()
	if len(m.levels) == 0 {
		return m, asked{kind: api.ActEnd}
	}
	if m.raises {
		a = m.leaves()
		return m, a
	}
	code := w.code.Funs[m.top().fun].Code
	must(m.top().next < len(code))
	i := code[m.top().next]
	m.top().next++
	a = m.does(w, i)
	return m, a
}

func (m *mind) leaves() asked {
	for len(m.levels) > 0 && len(m.top().marks) == 0 {
		m.levels = m.levels[:len(m.levels)-1]
	}
	if len(m.levels) == 0 {
		return asked{kind: api.ActFault, number: m.raised}
	}
	l := m.top()
	p := l.marks[len(l.marks)-1]
	l.marks = l.marks[:len(l.marks)-1]
	l.stack = l.stack[:p.depth]
	switch p.op {
	case api.OpElse:
		return asked{kind: api.ActJoined}
	case api.OpBegin:
		return asked{kind: api.ActLeave}
	}
	m.raises = false
	l.next = p.to
	return m.puts(number(m.raised))
}

func (m *mind) other() bool {
	for n := len(m.levels) - 1; n >= 0; n-- {
		l := &m.levels[n]
		for k := len(l.marks) - 1; k >= 0; k-- {
			if p := l.marks[k]; p.op == api.OpElse {
				l.marks, l.stack, l.next = l.marks[:k], l.stack[:p.depth], p.to
				m.levels = m.levels[:n+1]
				return true
			}
		}
	}
	return false
}

// takes is so many words of the stack, in the order in which they were put.
func (m *mind) takes(many int) []word {
	l := m.top()
	must(many <= len(l.stack))
	cut := len(l.stack) - many
	words := slices.Clone(l.stack[cut:])
	l.stack = l.stack[:cut]
	return words
}

func (m *mind) take() word { return m.takes(1)[0] }

// takesTwo is what is below the top, and what is on top.
func (m *mind) takesTwo() (word, word) {
	l := m.takes(2)
	return l[0], l[1]
}

func integer(w word) int {
	must(w.to == nil && w.n%2 != 0)
	return w.n >> 1
}

func stringOf(w word) string {
	must(w.to != nil && w.to.tag == api.Text)
	return w.to.text
}

func (m *mind) closureOf(w *around, own word) word {
	must(own.to != nil && own.to.tag == api.Closure && own.to.fun < len(w.code.Funs))
	return own
}

// makes is a new thing, if there is room.
func (m *mind) makes(w *around, x *thing) asked {
	for _, p := range x.parts {
		must(p.to != nil || p.n%2 != 0)
	}
	used := w.used()
	if used+x.size() > w.half {
		return asked{kind: api.ActRoom}
	}
	w.at[x] = 2 * (used + 1)
	return m.puts(word{to: x})
}

func (m *mind) raise(n int) asked {
	m.raises, m.raised = true, n
	return asked{}
}

func some[T any](l []T, i int) T {
	must(i < len(l))
	return l[i]
}

func (m *mind) does(w *around, i api.Instr) asked {
	switch i.Op {
	case api.OpInt:
		return m.puts(number(some(w.code.Ints, i.A)))
	case api.OpText:
		return m.makes(w, &thing{tag: api.Text, text: some(w.code.Texts, i.A)})
	case api.OpLocal:
		return m.puts(some(m.top().locals, i.A))
	case api.OpKept:
		must(m.top().own.to != nil && m.top().own.to.tag == api.Closure)
		return m.puts(some(m.top().own.to.parts, i.A))
	case api.OpSelf:
		return m.puts(m.top().own)
	case api.OpName:
		return m.puts(some(w.lets, i.A))
	case api.OpSet:
		x := m.take()
		some(m.top().locals, i.A)
		m.top().locals[i.A] = x
	case api.OpStore:
		x := m.take()
		some(w.lets, i.A)
		w.lets[i.A] = x
	case api.OpPop:
		m.take()
	case api.OpMake:
		return m.makes(w, &thing{tag: i.A, parts: m.takes(i.B)})
	case api.OpFun:
		return m.makes(w, &thing{tag: api.Closure, fun: i.A, parts: m.takes(i.B)})
	case api.OpField:
		x := m.take()
		must(x.to != nil && x.to.tag < 200)
		return m.puts(some(x.to.parts, i.A))
	case api.OpSum:
		return m.sums(i.A)
	case api.OpJoin:
		a, b := m.takesTwo()
		s := stringOf(a) + stringOf(b)
		if len(s) > 60 {
			return m.raise(-2)
		}
		return m.makes(w, &thing{tag: api.Text, text: s})
	default:
		return m.goes(w, i)
	}
	return asked{}
}

// sums is done by what numbers are, wrapped by halves.
func (m *mind) sums(k int) asked {
	a, b := m.takesTwo()
	x, y := integer(a), integer(b)
	truth := map[bool]int{true: 1}
	var n int
	switch "+-*/%=<"[k] {
	case '+':
		n = x + y
	case '-':
		n = x - y
	case '*':
		n = x * y
	case '/', '%':
		if y == 0 {
			return m.raise(-1)
		}
		n = x / y
		if k == 4 {
			n = x % y
		}
	case '=':
		n = truth[x == y]
	case '<':
		n = truth[x < y]
	}
	return m.puts(word{n: n<<1 | 1})
}

func (m *mind) goes(w *around, i api.Instr) asked {
	l := m.top()
	switch i.Op {
	case api.OpCall:
		own, x := m.takesTwo()
		m.closureOf(w, own)
		if len(m.levels) == 300 {
			return asked{kind: api.ActDeep}
		}
		m.levels = append(m.levels, m.enters(w, own, x))
	case api.OpTail:
		own, x := m.takesTwo()
		m.levels[len(m.levels)-1] = m.enters(w, m.closureOf(w, own), x)
	case api.OpReturn:
		x := m.take()
		m.levels = m.levels[:len(m.levels)-1]
		if len(m.levels) == 0 {
			return asked{kind: api.ActEnd, word: x}
		}
		return m.puts(x)
	case api.OpJump:
		l.next = i.A
	case api.OpFalse:
		if integer(m.take()) == 0 {
			l.next = i.A
		}
	case api.OpCase:
		x := m.take()
		if x.to == nil && integer(x) == i.A || x.to != nil && x.to.tag == i.A {
			l.next = i.B
		}
		must(x.to == nil || x.to.tag < 200)
	case api.OpTry, api.OpBegin, api.OpElse:
		l.marks = append(l.marks, place{i.Op, len(l.stack), i.A})
		return asked{kind: map[int]int{api.OpBegin: api.ActBegin, api.OpElse: api.ActElse}[i.Op]}
	case api.OpDone, api.OpCommit, api.OpJoined:
		l.marks = l.marks[:len(l.marks)-1]
		return asked{kind: map[int]int{api.OpCommit: api.ActCommit, api.OpJoined: api.ActJoined}[i.Op]}
	case api.OpRaise:
		return m.raise(integer(m.take()))
	default:
		return m.asks(w, i)
	}
	return asked{}
}

func (m *mind) asks(w *around, i api.Instr) asked {
	switch i.Op {
	case api.OpPrint:
		s := stringOf(m.take())
		m.puts(number(0))
		return asked{kind: api.ActPrint, text: s}
	case api.OpSpawn:
		own := m.closureOf(w, m.take())
		m.puts(number(0))
		return asked{kind: api.ActSpawn, word: own}
	case api.OpRetry:
		return asked{kind: api.ActRetry}
	case api.OpTvar:
		return asked{kind: api.ActTvar, word: m.take()}
	case api.OpRead:
		v := m.take()
		integer(v)
		return asked{kind: api.ActRead, word: v}
	}
	v, x := m.takesTwo()
	integer(v)
	return asked{kind: api.ActWrite, word: v, other: x}
}

// pair is a thread, and the mind that it should be.
type pair struct {
	*vm.Thread
	mind
}

// both is threads in a heap beside minds.
type both struct {
	*testing.T
	d     dice
	h     *heap.Heap
	lets  []int
	is    *around
	pairs []*pair
	met   map[int]int // acts
	ops   map[int]int // instructions that were next
}

// one is the number that a word is now.
func (b *both) one(w word) int {
	if w.to == nil {
		return w.n
	}
	at, there := b.is.at[w.to]
	if !there {
		b.Fatal("something is held that takes no room")
	}
	return at
}

func (b *both) all(words []word) []int {
	var l []int
	for _, w := range words {
		l = append(l, b.one(w))
	}
	return l
}

// adds makes the same thing twice, if there is room.
func (b *both) adds(x *thing) word {
	size := b.is.used() + x.size()
	if size > b.is.half {
		return number(1)
	}
	var w int
	var e api.Errno
	switch x.tag {
	case api.Text:
		w, e = prims.Text(b.h, x.text)
	case api.Closure:
		w, e = prims.Close(b.h, x.fun, b.all(x.parts))
	default:
		w, e = b.h.Make(x.tag, b.all(x.parts))
	}
	if e != api.OK {
		b.Fatal(e)
	}
	b.is.at[x] = w
	return word{to: x}
}

// any is some word that may stand.
func (b *both) any() word {
	var l []word
	for _, p := range b.pairs {
		l = append(l, p.words()...)
	}
	l = append(l, b.is.lets...)
	switch b.d.below(8) {
	case 0:
		return b.adds(&thing{tag: api.Text, text: long[:b.d.below(40)]})
	case 1:
		fun := b.d.below(len(b.is.code.Funs))
		x := &thing{tag: api.Closure, fun: fun}
		for range b.is.code.Funs[fun].Kept {
			x.parts = append(x.parts, l[b.d.below(len(l))])
		}
		return b.adds(x)
	case 2:
		return b.adds(&thing{tag: b.d.below(4), parts: []word{number(b.d.below(5)), l[b.d.below(len(l))]}})
	case 3:
		return number(b.d.below(5) - 1)
	}
	return l[b.d.below(len(l))]
}

// holds holds that a pair is one.
func (b *both) holds(p *pair) {
	if got, want := p.Roots(), b.all(p.words()); !slices.Equal(got, want) {
		b.Fatalf("the words are\n%s, not\n%s", text(got), text(want))
	}
	if p.Alive() != (len(p.levels) > 0) {
		b.Fatal("Alive", p.Alive())
	}
	if want := b.all(b.is.lets); !slices.Equal(b.lets, want) {
		b.Fatalf("the lets are %v, not %v", b.lets, want)
	}
	if b.h.Used() != b.is.used() {
		b.Fatalf("Used is %d, not %d", b.h.Used(), b.is.used())
	}
}

// steps does a step of a pair, and tells its act.
func (b *both) steps(p *pair) api.Act {
	if len(p.levels) > 0 && !p.raises {
		if l := b.is.code.Funs[p.top().fun].Code; p.top().next < len(l) {
			b.ops[l[p.top().next].Op]++
		}
	}
	after, want := p.mind.step(b.is)
	p.mind = after
	got := p.Step(b.is.code, b.h, b.lets)
	a := api.Act{Kind: want.kind, Number: want.number, Text: want.text}
	switch want.kind {
	case api.ActEnd, api.ActSpawn, api.ActTvar, api.ActRead, api.ActWrite:
		a.Word = b.one(want.word)
	}
	if want.kind == api.ActWrite {
		a.Other = b.one(want.other)
	}
	if want.kind == api.ActEnd && want.word == (word{}) {
		a.Word = 0
	}
	if got != a {
		b.Fatalf("the act is %+v, not %+v", got, a)
	}
	b.met[a.Kind]++
	if a.Kind != api.ActBad {
		b.holds(p)
	}
	if a.Kind == api.ActSpawn && len(b.pairs) < 8 {
		own := want.word
		x := &pair{vm.Spawn(b.is.code, b.h, a.Word), mind{levels: []level{p.enters(b.is, own, number(0))}}}
		b.holds(x)
		b.pairs = append(b.pairs, x)
	}
	return a
}

// collect copies what is reached from the pairs, and the lets.
func (b *both) collect() {
	var words []word
	var roots []int
	for _, p := range b.pairs {
		words = append(words, p.words()...)
		roots = append(roots, p.Roots()...)
	}
	words, roots = append(words, b.is.lets...), append(roots, b.lets...)
	told, e := b.h.Collect(roots)
	if e != api.OK {
		b.Fatal(e)
	}
	b.follow(words, told)
	copy(b.lets, told[len(told)-len(b.lets):])
	for _, p := range b.pairs {
		many := len(p.Roots())
		p.Set(told[:many])
		told = told[many:]
		b.holds(p)
	}
}

// follow says where things are behind a collection.
func (b *both) follow(words []word, told []int) {
	b.is.at = map[*thing]int{}
	var lies func(w word, now int)
	lies = func(w word, now int) {
		if w.to == nil || b.is.at[w.to] != 0 {
			return
		}
		b.is.at[w.to] = now
		l := b.h.Fields(now)
		if w.to.tag == api.Closure {
			l = l[1:]
		}
		for i, p := range w.to.parts {
			lies(p, l[i])
		}
	}
	for i, w := range words {
		lies(w, told[i])
	}
}
