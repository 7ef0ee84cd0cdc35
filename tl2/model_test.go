package tl2_test

import (
	"maps"
	"math"
	"slices"
	"testing"

	"selvage/api"
	"selvage/tl2"
)

// The model keeps what was done: of a transaction which calls, of a var which commits have written it. What there is of parts, writes, locks and versions is found in that each time anew.

// did is a call of a transaction: a read of a var, a write, or a part that begins, is joined or undone.
type did struct {
	what string
	n, v int
}

// deed is a transaction.
type deed struct {
	start   int
	calls   []did
	commits bool
	done    int // steps of the commit
	clock   int // that step 2 came to
}

// known is a var: its value, and the clocks of the commits that have written it.
type known struct {
	value  int
	clocks []int
}

type model struct {
	clock int
	vars  []known
	deeds map[int]*deed
}

// answer is what a call tells.
type answer struct {
	n    int
	e    api.Errno
	is   bool
	list []int
}

func (a answer) same(b answer) bool {
	return a.n == b.n && a.e == b.e && a.is == b.is && slices.Equal(a.list, b.list)
}

// parts is what each part writes, each write for itself, the last one of a var in force.
func (d *deed) parts() [][]*did {
	l := [][]*did{nil}
	for i := range d.calls {
		last := len(l) - 1
		switch d.calls[i].what {
		case "Write":
			l[last] = append(l[last], &d.calls[i])
		case "Part":
			l = append(l, nil)
		case "Join":
			l[last-1] = append(l[last-1], l[last]...)
			l = l[:last]
		case "Undo":
			l = l[:last]
		}
	}
	return l
}

// mostVars is how many vars a model has at most.
const mostVars = 10

// force is the writes of a part that are in force, by the vars.
func force(part []*did) []*did {
	var l []*did
	for n := range mostVars {
		for _, w := range slices.Backward(part) {
			if w.n == n {
				l = append(l, w)
				break
			}
		}
	}
	return l
}

// reads is the vars that were read, each where it was first.
func (d *deed) reads() []int {
	var l []int
	for _, c := range d.calls {
		if c.what == "Read" && !slices.Contains(l, c.n) {
			l = append(l, c.n)
		}
	}
	return l
}

// locker is the thread that has locked a var; -1, if none has.
func (m *model) locker(n int) int {
	for t, d := range m.deeds {
		l := force(d.parts()[0])
		for i, w := range l {
			if d.commits && w.n == n && d.done > i && d.done <= len(l)+1+i {
				return t
			}
		}
	}
	return -1
}

func (m *model) version(n int) int {
	return slices.Max(append([]int{0}, m.vars[n].clocks...))
}

// error is what Read, Valid and Step tell of a var.
func (m *model) error(t, n int) api.Errno {
	if by := m.locker(n); by >= 0 && by != t {
		return api.ErrLocked
	}
	if m.version(n) > m.deeds[t].start {
		return api.ErrStale
	}
	return api.OK
}

func (m *model) errorOfAll(t int) api.Errno {
	for _, n := range m.deeds[t].reads() {
		if e := m.error(t, n); e != api.OK {
			return e
		}
	}
	return api.OK
}

// refused is the answer to what may not be asked.
var refused = answer{e: api.ErrArg}

func (m *model) read(t, n int) answer {
	d := m.deeds[t]
	for _, part := range slices.Backward(d.parts()) {
		for _, w := range slices.Backward(part) {
			if w.n == n {
				return answer{n: w.v}
			}
		}
	}
	if e := m.error(t, n); e != api.OK {
		return answer{e: e}
	}
	d.calls = append(d.calls, did{"Read", n, 0})
	return answer{n: m.vars[n].value}
}

func (m *model) step(t int) answer {
	d := m.deeds[t]
	if len(d.parts()) > 1 {
		return refused
	}
	d.commits = true
	l := force(d.parts()[0])
	many := len(l)
	switch {
	case d.done < many:
		if m.locker(l[d.done].n) >= 0 {
			return answer{e: api.ErrLocked}
		}
		d.done++
		return answer{n: 1}
	case d.done == many:
		if e := m.errorOfAll(t); e != api.OK {
			return answer{e: e}
		}
		if many == 0 {
			delete(m.deeds, t)
			return answer{n: 4}
		}
		m.clock++
		d.clock = m.clock
		d.done++
		return answer{n: 2}
	}
	w := l[d.done-many-1]
	m.vars[w.n] = known{w.v, append(slices.Clone(m.vars[w.n].clocks), d.clock)}
	if d.done++; d.done <= 2*many {
		return answer{n: 3}
	}
	delete(m.deeds, t)
	return answer{n: 4}
}

func (m *model) abort(t int) answer {
	if d := m.deeds[t]; d.clock > 0 {
		return refused
	}
	delete(m.deeds, t)
	return answer{}
}

// values is where each value stands.
func (m *model) values() []*int {
	var l []*int
	for n := range m.vars {
		l = append(l, &m.vars[n].value)
	}
	for _, t := range slices.Sorted(maps.Keys(m.deeds)) {
		for _, part := range m.deeds[t].parts() {
			for _, w := range force(part) {
				l = append(l, &w.v)
			}
		}
	}
	return l
}

func (m *model) set(words []int) answer {
	if l := m.values(); len(l) == len(words) {
		for i, at := range l {
			*at = words[i]
		}
	}
	return answer{}
}

func (m *model) words() answer {
	var a answer
	for _, at := range m.values() {
		a.list = append(a.list, *at)
	}
	return a
}

// ask is a call with its arguments.
type ask struct {
	what    string
	t, n, v int
	words   []int
}

func (m *model) answers(q ask) answer {
	d, isVar := m.deeds[q.t], q.n >= 0 && q.n < len(m.vars)
	switch q.what {
	case "Make":
		m.vars = append(m.vars, known{value: q.v})
		return answer{n: len(m.vars) - 1}
	case "Begin":
		if d != nil || q.t < 0 || q.t > 7 {
			return refused
		}
		m.deeds[q.t] = &deed{start: m.clock}
		return answer{}
	case "Active":
		return answer{is: d != nil}
	case "Clock":
		return answer{n: m.clock}
	case "Newer":
		return answer{is: isVar && m.version(q.n) > q.v}
	case "Value":
		if !isVar {
			return refused
		}
		return answer{n: m.vars[q.n].value}
	case "Words":
		return m.words()
	case "Set":
		return m.set(q.words)
	}
	return m.answersOf(q, d, isVar)
}

// answersOf is what is told of a transaction.
func (m *model) answersOf(q ask, d *deed, isVar bool) answer {
	if d == nil {
		if q.what == "Start" || q.what == "Reads" {
			return answer{}
		}
		return refused
	}
	switch q.what {
	case "Step":
		return m.step(q.t)
	case "Abort":
		return m.abort(q.t)
	case "Start":
		return answer{n: d.start}
	case "Reads":
		return answer{list: d.reads()}
	}
	if d.commits {
		return refused
	}
	switch q.what {
	case "Valid":
		return answer{e: m.errorOfAll(q.t)}
	case "Read":
		if isVar {
			return m.read(q.t, q.n)
		}
	case "Write":
		if isVar {
			d.calls = append(d.calls, did{"Write", q.n, q.v})
			return answer{}
		}
	case "Part", "Join", "Undo":
		if q.what == "Part" || len(d.parts()) > 1 {
			d.calls = append(d.calls, did{what: q.what})
			return answer{}
		}
	}
	return refused
}

// asked is what an engine answers.
func asked(e *tl2.Engine, q ask) answer {
	var a answer
	switch q.what {
	case "Make":
		a.n, a.e = e.Make(q.v)
	case "Begin":
		a.e = e.Begin(q.t)
	case "Read":
		a.n, a.e = e.Read(q.t, q.n)
	case "Write":
		a.e = e.Write(q.t, q.n, q.v)
	case "Part":
		a.e = e.Part(q.t)
	case "Join":
		a.e = e.Join(q.t)
	case "Undo":
		a.e = e.Undo(q.t)
	case "Valid":
		a.e = e.Valid(q.t)
	case "Step":
		a.n, a.e = e.Step(q.t)
	case "Abort":
		a.e = e.Abort(q.t)
	case "Active":
		a.is = e.Active(q.t)
	case "Clock":
		a.n = e.Clock()
	case "Start":
		a.n = e.Start(q.t)
	case "Reads":
		a.list = e.Reads(q.t)
	case "Newer":
		a.is = e.Newer(q.n, q.v)
	case "Value":
		a.n, a.e = e.Value(q.n)
	case "Words":
		a.list = e.Words()
	case "Set":
		e.Set(q.words)
	}
	return a
}

// all is all that may be asked without changing anything, of some threads and vars, and of some that there are not.
func (m *model) all(threads int) []ask {
	l := []ask{{what: "Clock"}, {what: "Words"}}
	for t := -1; t <= threads; t++ {
		l = append(l, ask{what: "Active", t: t}, ask{what: "Start", t: t}, ask{what: "Reads", t: t}, ask{what: "Valid", t: t})
	}
	for n := -1; n <= len(m.vars); n++ {
		l = append(l, ask{what: "Value", n: n})
		for v := -1; v <= m.clock; v++ {
			l = append(l, ask{what: "Newer", n: n, v: v})
		}
	}
	return l
}

// agree asks both the same.
func agree(t *testing.T, e *tl2.Engine, m *model, q ask, ahead []ask) answer {
	t.Helper()
	want := m.answers(q)
	if got := asked(e, q); !got.same(want) {
		t.Fatalf("%+v is %+v, not %+v, behind %+v", q, got, want, ahead)
	}
	return want
}

// agreeOnAll asks both all that there is to be asked.
func agreeOnAll(t *testing.T, e *tl2.Engine, m *model, threads int, ahead []ask) {
	t.Helper()
	for _, q := range m.all(threads) {
		agree(t, e, m, q, ahead)
	}
}

// begun is an engine and a model of which the same was asked.
func begun(t *testing.T, l []ask) (*tl2.Engine, *model) {
	e, m := tl2.New(), &model{deeds: map[int]*deed{}}
	for i, q := range l {
		agree(t, e, m, q, l[:i])
	}
	return e, m
}

// small is the calls of two threads on two vars.
func small() []ask {
	var l []ask
	for t := range 2 {
		for _, what := range []string{"Begin", "Part", "Join", "Undo", "Valid", "Step", "Abort"} {
			l = append(l, ask{what: what, t: t})
		}
		for n := range 2 {
			l = append(l, ask{what: "Read", t: t, n: n}, ask{what: "Write", t: t, n: n, v: 10*t + n + 3})
		}
	}
	return append(l, ask{what: "Make", v: 9}, ask{what: "Set", words: []int{5, 6, 7}})
}

// P18.1 to P18.5: all short lists of calls, from some beginnings, are answered as by the model.
func TestShortListsOfCalls(t *testing.T) {
	two := []ask{{what: "Make", v: 1}, {what: "Make", v: 2}}
	on := func(l []ask, behind ...ask) []ask { return slices.Concat(l, behind) }
	both := on(two, ask{what: "Begin", t: 0}, ask{what: "Begin", t: 1})
	writes := on(both, ask{what: "Write", t: 0, n: 0, v: 5}, ask{what: "Write", t: 1, n: 1, v: 6}, ask{what: "Read", t: 0, n: 1}, ask{what: "Write", t: 1, n: 0, v: 7})
	locks := on(writes, ask{what: "Step", t: 0}, ask{what: "Step", t: 0})
	parts := on(both, ask{what: "Write", n: 0, v: 5}, ask{what: "Part"}, ask{what: "Write", n: 0, v: 6}, ask{what: "Part"}, ask{what: "Write", n: 1, v: 7})
	behind := on(both, ask{what: "Read", t: 1, n: 1}, ask{what: "Write", n: 0, v: 5}, ask{what: "Write", n: 1, v: 6}, ask{what: "Step"}, ask{what: "Step"}, ask{what: "Step"}, ask{what: "Step"})
	calls := small()
	var goOn func(l []ask, more int)
	goOn = func(l []ask, more int) {
		e, m := begun(t, l)
		agreeOnAll(t, e, m, 2, l)
		if more > 0 {
			for _, q := range calls {
				goOn(on(l, q), more-1)
			}
		}
	}
	for _, l := range [][]ask{nil, two, both, writes, locks, parts, behind} {
		goOn(l, 3)
	}
}

// dice tells numbers, the same ones in each run.
type dice uint64

func (d *dice) below(n int) int {
	*d = *d*6364136223846793005 + 1442695040888963407
	x := uint64(*d)
	x = (x ^ x>>30) * 0xbf58476d1ce4e5b9
	return int((x ^ x>>27) >> 1 % uint64(n))
}

// often is the calls, each as often as it is to be met.
var often = []string{
	"Begin", "Begin", "Begin", "Begin", "Begin", "Read", "Read", "Read", "Read", "Read", "Read", "Write", "Write", "Write", "Part", "Join", "Undo", "Valid", "Valid",
	"Step", "Step", "Step", "Step", "Step", "Step", "Step", "Step", "Step", "Step", "Step", "Step", "Abort",
}

// any is a call at random.
func (d *dice) any(m *model, threads int) ask {
	q := ask{what: often[d.below(len(often))], t: d.below(threads), n: d.below(max(1, len(m.vars))), v: d.below(1000)}
	switch d.below(60) {
	case 0:
		q.t = []int{-1, 8, 9, math.MinInt, math.MaxInt, 7}[d.below(6)]
	case 1:
		q.n = []int{-1, len(m.vars), len(m.vars) + 1, math.MinInt, math.MaxInt}[d.below(5)]
	case 2:
		q.what = "Set"
		many := len(m.values())
		if d.below(3) == 0 {
			many += d.below(5) - 2
		}
		for range many {
			q.words = append(q.words, d.below(1000))
		}
	case 3:
		if len(m.vars) < mostVars {
			q.what = "Make"
		}
	case 4:
		q.v = []int{math.MinInt, math.MaxInt, -1, 0}[d.below(4)]
	}
	return q
}

// P18.1 to P18.5: calls at random are answered as by the model.
func TestCallsAreAnsweredAsByTheModel(t *testing.T) {
	met := map[string]int{}
	for seed := range 3000 {
		d := dice(seed)
		threads := []int{1, 2, 2, 3, 4, 8}[d.below(6)]
		e, m := begun(t, nil)
		for range 1 + d.below(5) {
			agree(t, e, m, ask{what: "Make", v: d.below(1000)}, nil)
		}
		var ahead []ask
		for range 150 {
			q := d.any(m, threads)
			a := agree(t, e, m, q, ahead)
			met[q.what+" "+a.e.Error()]++
			if q.what == "Step" {
				met[string(rune('0'+a.n))]++
			}
			ahead = append(ahead, q)
			if d.below(6) == 0 {
				agreeOnAll(t, e, m, api.MaxThreads, ahead)
			}
		}
		agreeOnAll(t, e, m, api.MaxThreads, ahead)
	}
	for _, what := range []string{
		"Begin error 0", "Begin error 1", "Read error 0", "Read error 1", "Read error 32", "Read error 33", "Write error 0", "Write error 1",
		"Part error 0", "Part error 1", "Join error 0", "Join error 1", "Undo error 0", "Undo error 1", "Valid error 0", "Valid error 1",
		"Valid error 32", "Valid error 33", "Step error 0", "Step error 1", "Step error 32", "Step error 33", "Abort error 0", "Abort error 1",
		"1", "2", "3", "4",
	} {
		if met[what] < 50 {
			t.Errorf("%q was met %d times", what, met[what])
		}
	}
}
