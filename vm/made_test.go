package vm_test

import (
	"slices"
	"testing"

	"selvage/api"
	"selvage/heap"
	"selvage/verify"
	"selvage/vm"
)

// dice tells numbers, the same ones in each run.
type dice uint64

// number is any one.
func (d *dice) number() int {
	*d = *d*6364136223846793005 + 1442695040888963407
	n := uint64(*d)
	n = (n ^ n>>30) * 0xbf58476d1ce4e5b9
	return int(n ^ n>>27)
}

// below is a number from 0 to n - 1.
func (d *dice) below(n int) int { return int(uint64(d.number()) >> 1 % uint64(n)) }

// pick is one of some.
func (d *dice) pick(l ...string) string { return l[d.below(len(l))] }

// kinds are those of what an exp should come to; by their places they are told what stands in which local, let, field, or place that a closure keeps.
var kinds = []string{"int", "text", "block", "closure", "var"}

// maker makes a function's code, by exps in one another, most of which come to what is asked of them.
type maker struct {
	*dice
	c    *api.Code
	fun  int
	list []api.Instr
	atom bool
	left int
}

func (m *maker) puts(op int, of ...int) int {
	i := api.Instr{Op: op}
	for n, x := range of {
		*[]*int{&i.A, &i.B}[n] = x
	}
	m.list = append(m.list, i)
	return len(m.list) - 1
}

// here lets an instruction go to the next one.
func (m *maker) here(at int) {
	if m.list[at].Op == api.OpCase {
		m.list[at].B = len(m.list)
	} else {
		m.list[at].A = len(m.list)
	}
}

func (m *maker) body() *api.Body { return &m.c.Funs[m.fun] }

// leaf is something small.
func (m *maker) leaf(kind string) {
	at := slices.Index(kinds, kind)
	var l []func()
	l = append(l, func() { m.puts(api.OpLocal, at+1) }, func() { m.puts(api.OpName, at) })
	if at < m.body().Kept {
		l = append(l, func() { m.puts(api.OpKept, at) })
	}
	switch kind {
	case "int":
		l = append(l, func() { m.puts(api.OpInt, m.below(len(m.c.Ints))) }, func() { m.puts(api.OpLocal, 0) })
	case "text":
		l = append(l, func() { m.puts(api.OpText, m.below(len(m.c.Texts))) })
	case "closure":
		if m.fun > 0 && m.below(6) == 0 {
			l = append(l, func() { m.puts(api.OpSelf) })
		}
	case "var":
		l = append(l, func() { m.puts(api.OpInt, m.below(3)) })
	}
	l[m.below(len(l))]()
}

// exp puts something that should be of a kind.
func (m *maker) exp(kind string) {
	if m.below(300) == 0 {
		kind = m.pick(kinds...)
	}
	if m.left--; m.left < 0 || m.below(5) == 0 {
		m.leaf(kind)
		return
	}
	switch m.below(16) {
	case 0:
		m.exp(m.pick(kinds...))
		m.puts(api.OpPop)
		m.exp(kind)
	case 1, 2:
		at := m.below(len(kinds))
		m.exp(kinds[at])
		if m.below(3) > 0 {
			m.puts(api.OpSet, at+1)
		} else {
			m.puts(api.OpStore, at)
		}
		m.exp(kind)
	case 3, 4:
		m.exp("int")
		m.either(m.puts(api.OpFalse), kind)
	case 5:
		m.exp(m.pick("int", "block", "block", "var"))
		m.either(m.puts(api.OpCase, m.below(4)), kind)
	case 6, 7:
		m.marked(kind)
	case 8:
		switch {
		case m.below(2) == 0:
			m.leaf(kind)
			m.exp("int")
			m.puts(api.OpRaise) // what is below it is no more
		case m.below(3) == 0:
			m.puts(api.OpRetry)
			m.leaf(kind)
		default:
			m.exp("block")
			m.puts(api.OpField, slices.Index(kinds, kind)%api.MaxArity)
		}
	default:
		m.plainly(kind)
	}
}

// either is one exp or, where an instruction jumps, another one.
func (m *maker) either(jumps int, kind string) {
	m.exp(kind)
	end := m.puts(api.OpJump)
	m.here(jumps)
	m.exp(kind)
	m.here(end)
}

// marked is an exp within a mark.
func (m *maker) marked(kind string) {
	switch {
	case m.below(3) == 0 && !m.atom:
		m.atom = true
		m.puts(api.OpBegin)
		m.exp(kind)
		m.puts(api.OpCommit)
		m.atom = false
	case m.below(2) == 0:
		try := m.puts(api.OpTry)
		m.exp(kind)
		m.puts(api.OpDone)
		end := m.puts(api.OpJump)
		m.here(try)
		m.puts(api.OpSet, 1)
		m.exp(kind)
		m.here(end)
	default:
		other := m.puts(api.OpElse)
		m.exp(kind)
		m.puts(api.OpJoined)
		end := m.puts(api.OpJump)
		m.here(other)
		m.exp(kind)
		m.here(end)
	}
}

// plainly is an exp of forms that come to the kind.
func (m *maker) plainly(kind string) {
	switch kind {
	case "int":
		m.number()
	case "text":
		m.exp("text")
		m.exp("text")
		m.puts(api.OpJoin)
	case "block":
		many := 4
		if m.below(8) == 0 {
			many = 1 + m.below(4)
		}
		for n := range many {
			m.exp(kinds[n])
		}
		m.puts(api.OpMake, m.below(4), many)
	case "closure":
		// Most often one with a greater number, so that calls come to an end.
		fun := min(m.fun+1+m.below(len(m.c.Funs)), len(m.c.Funs)-1)
		if m.below(20) == 0 {
			fun = 1 + m.below(len(m.c.Funs)-1)
		}
		for n := range m.c.Funs[fun].Kept {
			m.exp(kinds[n])
		}
		m.puts(api.OpFun, fun, m.c.Funs[fun].Kept)
	case "var":
		m.exp(m.pick(kinds...))
		m.puts(api.OpTvar)
	}
}

// number is an exp that comes to an integer.
func (m *maker) number() {
	switch m.below(8) {
	case 0:
		m.exp("text")
		m.puts(api.OpPrint)
	case 1:
		m.exp("closure")
		m.puts(api.OpSpawn)
	case 2:
		m.exp("var")
		m.puts(api.OpRead)
	case 3:
		m.exp("var")
		m.exp(m.pick(kinds...))
		m.puts(api.OpWrite)
	case 4, 5:
		if m.fun < len(m.c.Funs)-1 || m.below(30) == 0 {
			m.exp("closure")
			m.exp("int")
			m.puts(api.OpCall)
			return
		}
		fallthrough
	default:
		m.exp("int")
		m.exp("int")
		m.puts(api.OpSum, m.below(7))
	}
}

// function makes a function's code: its locals are set, and then an exp is returned.
func (m *maker) function(many int) {
	m.list = append(m.list, read("Int 1, Set 1, Text 1, Set 2, Local 1, Local 2, Name 2, Name 3, Make 1 4, Set 3, Name 3, Set 4")...)
	m.left = many
	if m.fun < len(m.c.Funs)-1 && m.below(2) == 0 {
		m.exp("closure")
		m.exp("int")
		m.puts(api.OpTail)
	} else {
		m.exp("int")
		m.puts(api.OpReturn)
	}
	m.body().Code = m.list
}

// made is a code that holds together.
func (d *dice) made() api.Code {
	for {
		c := code("Return")
		c.Lets = len(kinds)
		c.Funs = make([]api.Body, 3+d.below(4))
		for n := range c.Funs {
			c.Funs[n] = api.Body{Locals: 6 + d.below(2), Stack: 60}
			if n > 0 {
				c.Funs[n].Kept = d.below(4)
			}
		}
		for n := range c.Funs {
			m := maker{dice: d, c: &c, fun: n}
			m.function(5 + d.below(40))
		}
		if verify.Code(c) == api.OK {
			return d.spoilt(c)
		}
	}
}

// spoilt is a code with some instructions changed, that holds together still.
func (d *dice) spoilt(c api.Code) api.Code {
	for range max(0, d.below(12)-8) * 6 {
		l := c.Funs[d.below(len(c.Funs))].Code
		at := d.below(len(l))
		was := l[at]
		switch d.below(3) {
		case 0:
			l[at] = l[d.below(len(l))]
		case 1:
			l[at].A += d.below(5) - 2
		default:
			l[at].B += d.below(3) - 1
		}
		if verify.Code(c) != api.OK {
			l[at] = was
		}
	}
	return c
}

// goesOn tells which codes have a function that goes on without an end.
const goesOn = 150

// begins is threads of a code made at random, in a heap that is small.
func begins(t *testing.T, seed int) *both {
	b := &both{T: t, d: dice(seed)}
	c := b.d.made()
	half := 64 + b.d.below(80)
	b.h, b.is = heap.New(half), &around{code: c, half: half, at: map[*thing]int{}}
	main := mind{levels: []level{{own: number(0), locals: slices.Repeat([]word{number(0)}, c.Funs[0].Locals)}}}
	b.pairs = []*pair{{vm.Main(c), main}}
	b.lets = slices.Repeat([]int{zero}, c.Lets)
	b.is.lets = slices.Repeat([]word{number(0)}, c.Lets)
	b.sets(0, number(2))
	b.sets(1, b.adds(&thing{tag: api.Text, text: "let"}))
	last := len(c.Funs) - 1
	if seed%goesOn == 0 {
		c.Funs[0].Code = read("Name 3, Int 0, Call, Return")
		c.Funs[last].Code = read("Self, Local 0, Call, Return")
	}
	x := &thing{tag: api.Closure, fun: last}
	for n := range c.Funs[last].Kept {
		x.parts = append(x.parts, b.is.lets[n])
	}
	b.sets(3, b.adds(x))
	b.sets(2, b.adds(&thing{tag: 1, parts: []word{number(3), b.is.lets[1], b.adds(&thing{tag: 2}), b.is.lets[3]}}))
	b.holds(b.pairs[0])
	return b
}

func (b *both) sets(let int, w word) {
	b.is.lets[let], b.lets[let] = w, b.one(w)
}

// comesOf is what is done for an act, to the thread and to the mind; false, if the thread goes no further.
func (b *both) comesOf(p *pair, a api.Act) bool {
	switch a.Kind {
	case api.ActBad, api.ActDeep:
		return false
	case api.ActRoom:
		b.collect()
		return b.steps(p).Kind == api.ActNone
	case api.ActTvar, api.ActRead, api.ActWrite:
		w := number(b.d.below(3))
		if a.Kind == api.ActRead && b.d.below(10) == 0 {
			w = b.any()
		}
		p.Put(b.one(w))
		p.puts(w)
	case api.ActRetry:
		got, want := p.Other(), p.mind.other()
		if got != want {
			b.Fatalf("Other is %v, not %v", got, want)
		}
		b.met[-1]++
		if !want {
			b.met[-2]++
			return false // nothing is behind a Retry
		}
	}
	b.holds(p)
	return true
}

// sometimes does what may be done between steps.
func (b *both) sometimes() {
	n := b.d.below(len(b.pairs))
	p := b.pairs[n]
	switch b.d.below(60) {
	case 0:
		b.collect()
	case 1:
		b.pairs[n] = &pair{p.Copy(), p.copied()}
		if b.d.below(2) == 0 && len(b.pairs) < 8 {
			b.pairs = append(b.pairs, p)
		}
	case 2:
		if b.d.below(10) == 0 {
			if p.Other() != p.mind.other() {
				b.Fatal("Other")
			}
		}
	case 3:
		if b.d.below(6) == 0 && p.Alive() {
			words := p.words()
			words[b.d.below(len(words))] = b.any()
			p.set(words)
			p.Set(b.all(words))
		}
	}
	for _, p := range b.pairs {
		b.holds(p)
	}
}

// P17.1 to P17.5: threads of codes made at random do, step by step, what the model does, with collections between.
func TestThreadsAreAsTheModel(t *testing.T) {
	met, ops, ended := map[int]int{}, map[int]int{}, 0
	for seed := range 1500 {
		b := begins(t, seed)
		b.met, b.ops = met, ops
		most := 400
		if seed%goesOn == 0 {
			most = 1800
		}
		for range most {
			n := b.d.below(len(b.pairs))
			p := b.pairs[n]
			if !b.comesOf(p, b.steps(p)) {
				b.pairs = slices.Delete(b.pairs, n, n+1)
			} else if !p.Alive() && b.d.below(2) == 0 {
				ended++
				b.pairs = slices.Delete(b.pairs, n, n+1)
			}
			if len(b.pairs) == 0 {
				break
			}
			if most == 400 || b.d.below(20) == 0 {
				b.sometimes()
			}
		}
	}
	for _, kind := range []int{-2, -1, api.ActNone, api.ActEnd, api.ActFault, api.ActRoom, api.ActDeep, api.ActBad, api.ActPrint, api.ActSpawn, api.ActBegin, api.ActCommit, api.ActElse, api.ActJoined, api.ActRetry, api.ActLeave, api.ActTvar, api.ActRead, api.ActWrite} {
		if met[kind] < 100 && kind != api.ActDeep || met[kind] < 5 {
			t.Errorf("act %d was met %d times", kind, met[kind])
		}
	}
	for op := api.OpInt; op <= api.OpWrite; op++ {
		if ops[op] < 300 {
			t.Errorf("%s was done %d times", opNames[op], ops[op])
		}
	}
	t.Log(met, ops, ended)
}
