package tl2_test

import (
	"slices"
	"testing"

	"selvage/api"
	"selvage/tl2"
)

// witness is an engine and the model, and what the vars are if of each commit all counts from its step 2 on.
type witness struct {
	*testing.T
	*tl2.Engine
	*model
	are    []int
	starts map[int][]int // what they were as each transaction began
	others map[int]bool  // whether a commit of another thread was under way then, or has done a step since
	ahead  []ask
}

func watch(t *testing.T, values ...int) *witness {
	e, m := begun(t, nil)
	for _, v := range values {
		agree(t, e, m, ask{what: "Make", v: v}, nil)
	}
	return &witness{t, e, m, slices.Clone(values), map[int][]int{}, map[int]bool{}, nil}
}

// writes is what a thread's only part writes.
func (w *witness) writes(t int) []*did {
	if d := w.deeds[t]; d != nil && len(d.parts()) == 1 {
		return force(d.parts()[0])
	}
	return nil
}

// begins keeps what there is as a transaction begins.
func (w *witness) begins(t int) {
	w.starts[t] = slices.Clone(w.are)
	w.others[t] = false
	for by, d := range w.deeds {
		w.others[t] = w.others[t] || by != t && d.commits
	}
}

// asStarted holds what a transaction has read against what the vars are now.
func (w *witness) asStarted(t int, reads []int) {
	w.Helper()
	for _, n := range reads {
		if w.starts[t][n] != w.are[n] {
			w.Fatalf("%d commits, and has read %d of var %d, which is %d, behind %+v", t, w.starts[t][n], n, w.are[n], w.ahead)
		}
	}
}

// steps is what a step of a commit means for all.
func (w *witness) steps(t int, a answer, reads []int, writes []*did) {
	w.Helper()
	for by := range w.others {
		w.others[by] = w.others[by] || by != t
	}
	if a.n == 2 || a.n == 4 && len(writes) == 0 {
		w.asStarted(t, reads)
		for _, x := range writes {
			w.are[x.n] = x.v
		}
	}
}

// asks asks both, and holds what is told against what the chapter says that follows.
func (w *witness) asks(q ask) answer {
	w.Helper()
	var reads []int
	own, was := false, w.deeds[q.t]
	if was != nil {
		reads = was.reads()
		for _, part := range was.parts() {
			own = own || slices.ContainsFunc(part, func(x *did) bool { return x.n == q.n })
		}
	}
	writes := w.writes(q.t)
	a := agree(w.T, w.Engine, w.model, q, w.ahead)
	w.ahead = append(w.ahead, q)
	switch {
	case q.what == "Begin" && a.e == api.OK:
		w.begins(q.t)
	case q.what == "Make":
		w.are = append(w.are, q.v)
		for t := range w.starts {
			w.starts[t] = append(w.starts[t], q.v)
		}
	case q.what == "Read" && a.e == api.OK && !own && a.n != w.starts[q.t][q.n]:
		w.Fatalf("%d reads %d of var %d, which was %d as it began, behind %+v", q.t, a.n, q.n, w.starts[q.t][q.n], w.ahead)
	case q.what == "Step" && a.e != api.ErrArg:
		w.steps(q.t, a, reads, writes)
	}
	if (a.e == api.ErrLocked || a.e == api.ErrStale) && !w.others[q.t] {
		w.Fatalf("%+v is %v, and no other commit has done a step, behind %+v", q, a.e, w.ahead)
	}
	for n, v := range w.are {
		if got, _ := w.Value(n); got != v && w.locker(n) < 0 {
			w.Fatalf("var %d is %d, not %d, behind %+v", n, got, v, w.ahead)
		}
	}
	return a
}

// anyButSet is a call at random, but no Set: what that changes, nobody has committed.
func (d *dice) anyButSet(m *model, threads int) ask {
	for {
		if q := d.any(m, threads); q.what != "Set" {
			return q
		}
	}
}

// P18.6 to P18.8: of calls at random.
func TestWhatFollows(t *testing.T) {
	met := map[string]int{}
	for seed := range 8000 {
		d := dice(seed)
		threads := 2 + d.below(4)
		w := watch(t, make([]int, 1+d.below(4))...)
		for range 150 {
			q := d.anyButSet(w.model, threads)
			a := w.asks(q)
			met[q.what+" "+a.e.Error()]++
			if a.e != api.OK && a.e != api.ErrArg && d.below(2) == 0 {
				w.asks(ask{what: "Abort", t: q.t})
				w.asks(ask{what: "Begin", t: q.t})
			}
		}
	}
	for _, what := range []string{"Read error 0", "Read error 32", "Read error 33", "Valid error 32", "Valid error 33", "Step error 0", "Step error 32", "Step error 33"} {
		if met[what] < 100 {
			t.Errorf("%q was met %d times", what, met[what])
		}
	}
}

// P18.8: one that is alone meets no error.
func TestAlone(t *testing.T) {
	for seed := range 300 {
		d := dice(seed)
		w := watch(t, 1, 2, 3)
		for range 150 {
			q := d.anyButSet(w.model, 1)
			if q.t == 7 {
				continue // it would not be alone
			}
			if a := w.asks(q); a.e != api.OK && a.e != api.ErrArg {
				t.Fatalf("one that is alone meets %v", a.e)
			}
		}
	}
}

// P18.8: as long as the others only begin, read, write, have parts and end, there is no error.
func TestOthersThatDoNotCommit(t *testing.T) {
	for seed := range 300 {
		d := dice(seed)
		w := watch(t, 1, 2, 3)
		for range 150 {
			q := d.anyButSet(w.model, 4)
			if q.what == "Step" && q.t != 0 {
				continue
			}
			if a := w.asks(q); q.t == 0 && a.e != api.OK && a.e != api.ErrArg {
				t.Fatalf("%+v is %v", q, a.e)
			}
		}
	}
}

// P18.2, P18.8: who begins while another one's commit is under way meets its locks, though nothing was done since.
func TestBeginWhileAnotherCommits(t *testing.T) {
	x := vars(t, 1)
	x.begin(0)
	x.ok(x.Write(0, 0, 2))
	x.steps(0, 1)
	x.begin(1)
	x.refusesRead(1, 0, api.ErrLocked)
	x.ok(x.Write(1, 0, 3))
	x.refusesStep(1, api.ErrLocked)
	x.steps(0, 2, 4)
	x.steps(1, 1, 2, 4)
	x.valueIs(0, 3)
}

// thread is one of which each transaction does the same; by an error it is over.
type thread struct {
	number int
	calls  []ask
	next   int
	failed bool
	read   []int
}

// does writes a transaction down: "r0" reads var 0, "w1" writes var 1 (with 10 times the thread, and 1 more), "s" is a step.
func does(number int, words ...string) *thread {
	x := &thread{number: number, calls: []ask{{what: "Begin", t: number}}}
	for _, s := range words {
		switch s[0] {
		case 'r':
			x.calls = append(x.calls, ask{what: "Read", t: number, n: int(s[1] - '0')})
		case 'w':
			n := int(s[1] - '0')
			x.calls = append(x.calls, ask{what: "Write", t: number, n: n, v: 10*number + 10 + n})
		case 's':
			x.calls = append(x.calls, ask{what: "Step", t: number})
		}
	}
	return x
}

func (x *thread) over() bool { return x.failed || x.next == len(x.calls) }

func (x *thread) goOn(e *tl2.Engine) {
	q := x.calls[x.next]
	x.next++
	a := asked(e, q)
	if q.what == "Read" && a.e == api.OK {
		x.read = append(x.read, a.n)
	}
	if a.e != api.OK {
		e.Abort(x.number)
		x.failed = true
	}
}

// orders does all that threads do, in all orders, and asks behind each one.
func orders(t *testing.T, values []int, make func() []*thread, ask func(e *tl2.Engine, l []*thread, order []int)) {
	var order []int
	many := 0
	var goOn func()
	goOn = func() {
		e, l := tl2.New(), make()
		for _, v := range values {
			e.Make(v)
		}
		for _, n := range order {
			l[n].goOn(e)
		}
		over := true
		for n, x := range l {
			if !x.over() {
				over = false
				order = append(order, n)
				goOn()
				order = order[:len(order)-1]
			}
		}
		if over {
			many++
			ask(e, l, order)
		}
	}
	goOn()
	if many < 1000 {
		t.Errorf("%d orders", many)
	}
}

// P18.6, P18.7: whatever the order, a reader sees two vars as they were together, also if it is not over.
func TestReaderOfTwoInAllOrders(t *testing.T) {
	seen := map[int]int{}
	orders(t, []int{10, 11}, func() []*thread {
		return []*thread{does(0, "r1", "r0"), does(1, "w0", "w1", "s", "s", "s", "s", "s"), does(2, "w1", "w0", "s", "s")}
	}, func(_ *tl2.Engine, l []*thread, order []int) {
		seen[len(l[0].read)]++
		if len(l[0].read) == 2 && l[0].read[0] != l[0].read[1]+1 {
			t.Fatalf("%v are seen, in the order %v", l[0].read, order)
		}
		if len(l[0].read) == 2 {
			seen[l[0].read[1]]++
		}
	})
	if seen[0] == 0 || seen[1] == 0 || seen[10] == 0 || seen[20] == 0 {
		t.Errorf("it is not each that is seen: %v", seen)
	}
}

// P18.7: whatever the order, two that commit have done it one behind the other; and one of two does.
func TestTwoThatCommitInAllOrders(t *testing.T) {
	met := map[[2]bool]int{}
	orders(t, []int{1, 2}, func() []*thread {
		return []*thread{does(0, "r0", "r1", "w0", "s", "s", "s"), does(1, "r1", "r0", "w0", "w1", "s", "s", "s", "s", "s")}
	}, func(e *tl2.Engine, l []*thread, order []int) {
		a, _ := e.Value(0)
		b, _ := e.Value(1)
		first, second := !l[0].failed, !l[1].failed
		met[[2]bool{first, second}]++
		got := [2]int{a, b}
		switch {
		case first && second:
			afterwards := slices.Equal(l[0].read, []int{20, 21}) && slices.Equal(l[1].read, []int{2, 1}) && got == [2]int{10, 21}
			ahead := slices.Equal(l[0].read, []int{1, 2}) && slices.Equal(l[1].read, []int{2, 10}) && got == [2]int{20, 21}
			if !afterwards && !ahead {
				t.Fatalf("both commit, have read %v and %v, and leave %v, in the order %v", l[0].read, l[1].read, got, order)
			}
		case first && got != [2]int{10, 2}, second && got != [2]int{20, 21}, !first && !second:
			t.Fatalf("%v and %v commit, and leave %v, in the order %v", first, second, got, order)
		}
	})
	if len(met) != 3 {
		t.Errorf("it is not each that is met: %v", met)
	}
}

// adder adds 1 to some vars, some times, by transactions; what is refused is done again.
type adder struct {
	number, left int
	vars         []int
	next         int // below 0: it is to begin
	commits      bool
}

func (x *adder) goOn(t *testing.T, e *tl2.Engine) {
	var f api.Errno
	switch {
	case x.next < 0:
		f = e.Begin(x.number)
		x.next = 0
	case x.next < len(x.vars):
		var v int
		if v, f = e.Read(x.number, x.vars[x.next]); f == api.OK {
			f = e.Write(x.number, x.vars[x.next], v+1)
		}
		x.next++
	default:
		var k int
		k, f = e.Step(x.number)
		x.commits = k > 1
		if k == 4 {
			x.next = -1
			x.left--
			x.commits = false
		}
	}
	if f == api.OK {
		return
	}
	if f != api.ErrLocked && f != api.ErrStale {
		t.Fatal(f)
	}
	if g := e.Abort(x.number); g != api.OK {
		t.Fatal(g)
	}
	x.next = -1
}

// P18.7: what some threads add is there in the end, whatever the order, and they come to an end (DOC's example 7).
func TestAdders(t *testing.T) {
	for seed := range 400 {
		d := dice(seed)
		e := tl2.New()
		want := make([]int, 1+d.below(4))
		for range want {
			e.Make(0)
		}
		var l []*adder
		for number := range 2 + d.below(7) {
			x := &adder{number: number, left: 1 + d.below(4), next: -1}
			for n := range want {
				if d.below(2) == 0 {
					x.vars = append(x.vars, n)
					want[n] += x.left
				}
			}
			l = append(l, x)
		}
		for many := 0; len(l) > 0; many++ {
			n := d.below(len(l))
			if l[n].goOn(t, e); l[n].left == 0 {
				l = slices.Delete(l, n, n+1)
			}
			if many > 100000 {
				t.Fatal("it does not end")
			}
		}
		if got := e.Words(); !slices.Equal(got, want) {
			t.Fatalf("%v is there, not %v", got, want)
		}
	}
}
