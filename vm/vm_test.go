package vm_test

import (
	"slices"
	"strings"
	"testing"

	"selvage/api"
	"selvage/heap"
	"selvage/ints"
	"selvage/prims"
	"selvage/vm"
)

// The chapter's example: the code of do print "a".
func TestExample(t *testing.T) {
	r := begin(t, "Text 1, Print, Return")
	r.steps(1)
	r.step(api.Act{Kind: api.ActPrint, Text: "a"})
	r.step(api.Act{Kind: api.ActEnd, Word: zero})
	r.kind(api.ActEnd)
}

// P17.1: Main is a thread in function 0, whose words are all those of 0.
func TestMain(t *testing.T) {
	for _, c := range []api.Code{{}, {Ints: []int{1}, Texts: []string{"a"}, Lets: 3}, {Funs: []api.Body{}}} {
		if vm.Main(c) != nil {
			t.Errorf("there is a thread in no function of %v", c)
		}
	}
	for _, locals := range []int{0, 1, 2, 59, 60} {
		c := api.Code{Funs: []api.Body{{Locals: locals, Stack: 1, Code: read("Self, Return")}, {Locals: 5}}}
		x := vm.Main(c)
		if x == nil || !x.Alive() || !slices.Equal(x.Roots(), slices.Repeat([]int{zero}, 1+locals)) {
			t.Fatalf("a thread of %d locals: %v", locals, x)
		}
		h := heap.New(64)
		if a := x.Step(c, h, nil); a != (api.Act{}) || len(x.Roots()) != 2+locals {
			t.Errorf("of %d locals: %v, %v", locals, a, x.Roots())
		}
		if a := x.Step(c, h, nil); a != (api.Act{Kind: api.ActEnd, Word: zero}) || x.Alive() || len(x.Roots()) != 0 {
			t.Errorf("of %d locals: %v, %v", locals, a, x.Roots())
		}
	}
}

// P17.1: Spawn is a thread in the function of a closure, whose parameter is the word of 0.
func TestSpawn(t *testing.T) {
	r := begin(t, "Return", "Kept 0, Return", "Kept 1, Self, Local 0, Pop, Pop, Return")
	a := r.text("a")
	for _, w := range append([]int{zero, one, minus, a, r.block(0, zero), r.block(199), r.closure(3), r.closure(1<<31 - 1), r.block(api.Closure), r.block(api.Closure, minus), r.block(api.Closure, a)}, nobodys...) {
		if vm.Spawn(r.c, r.h, w) != nil {
			t.Errorf("there is a thread of %d, a block of %d %v", w, r.h.Tag(w), r.h.Fields(w))
		}
	}
	w := r.closure(2, one, a)
	if vm.Spawn(api.Code{}, r.h, w) != nil || vm.Spawn(api.Code{Funs: r.c.Funs[:2]}, r.h, w) != nil || vm.Spawn(r.c, heap.New(64), w) != nil {
		t.Error("there is a thread of a function that there is not")
	}
	r.c.Funs[2].Locals = 2
	r.Thread = vm.Spawn(r.c, r.h, w)
	r.has(w, zero, zero)
	r.steps(3)
	r.has(w, zero, zero, a, w, zero)
	r.steps(2)
	r.step(api.Act{Kind: api.ActEnd, Word: a})
	r.Thread = vm.Spawn(r.c, r.h, r.closure(0))
	if r.Thread == nil || !r.Alive() {
		t.Error("there is no thread in function 0")
	}
	r.Thread = vm.Spawn(r.c, r.h, r.closure(1, two))
	r.steps(1)
	r.step(api.Act{Kind: api.ActEnd, Word: two})
}

// P17.2: what puts a word, and what takes one into a place.
func TestWordsAreMoved(t *testing.T) {
	r := begin(t, "Int 0, Int 1, Int 3, Int 4, Int 5, Pop, Set 0, Set 5, Local 5, Local 0, Local 1, Store 3, Store 0, Name 3, Name 0, Name 1, Self, Return")
	r.steps(5)
	r.has(frame(zero, one, minus, tag(api.MaxInt), tag(api.MinInt))...)
	r.steps(1)
	r.has(frame(zero, one, minus, tag(api.MaxInt))...)
	r.steps(1)
	r.has(zero, tag(api.MaxInt), zero, zero, zero, zero, zero, zero, one, minus)
	r.steps(1)
	r.has(zero, tag(api.MaxInt), zero, zero, zero, zero, minus, zero, one)
	r.steps(3)
	r.has(zero, tag(api.MaxInt), zero, zero, zero, zero, minus, zero, one, minus, tag(api.MaxInt), zero)
	r.steps(2)
	if !slices.Equal(r.lets, []int{tag(api.MaxInt), 13, 15, zero}) {
		t.Errorf("the lets are %v", r.lets)
	}
	r.steps(4)
	r.has(zero, tag(api.MaxInt), zero, zero, zero, zero, minus, zero, one, minus, zero, tag(api.MaxInt), 13, zero)
	r.step(api.Act{Kind: api.ActEnd, Word: zero})
}

// P17.2: what a closure keeps, and the closure itself.
func TestKeptAndSelf(t *testing.T) {
	r := begin(t, "Return", "Return", "Return", "Kept 0, Kept 2, Kept 1, Self, Return")
	a := r.text("a")
	w := r.closure(3, one, a, two)
	r.Thread = vm.Spawn(r.c, r.h, w)
	r.steps(4)
	r.has(w, zero, zero, zero, zero, zero, zero, one, two, a, w)
	r.step(api.Act{Kind: api.ActEnd, Word: w})
}

// P17.2: texts, blocks and closures are new ones, of what was taken in the order in which it was put.
func TestBlocksAreMade(t *testing.T) {
	for n, s := range code().Texts {
		r := begin(t, "Return")
		r.c.Funs[0].Code = []api.Instr{{Op: api.OpText, A: n}, {Op: api.OpText, A: n}}
		r.steps(1)
		first := r.top()
		r.holds(s)
		r.steps(1)
		r.holds(s)
		if r.top() == first || len(r.Roots()) != 9 {
			t.Errorf("a text twice is the block %d twice, of %v", first, r.Roots())
		}
	}
	r := begin(t, "Make 0 1, Make 199 2, Make 7 4, Return", "Return", "Return").puts(one, two, minus, zero, 9, 11)
	r.steps(1)
	r.holdsBlock(0, 11)
	last := r.top()
	r.has(frame(one, two, minus, zero, 9, last)...)
	r.steps(1)
	r.holdsBlock(199, 9, last)
	last = r.top()
	r.has(frame(one, two, minus, zero, last)...)
	r.steps(1)
	r.holdsBlock(7, two, minus, zero, last)
	r.has(frame(one, r.top())...)
	r = begin(t, "Fun 1 1, Fun 2 2, Return", "Return", "Return").puts(one, two, minus)
	r.steps(1)
	r.holdsBlock(api.Closure, one, minus)
	last = r.top()
	r.has(frame(one, two, last)...)
	r.steps(1)
	r.holdsBlock(api.Closure, two, two, last)
	r.has(frame(one, r.top())...)
	r = begin(t, "Make 3 60, Return").puts(slices.Repeat([]int{two}, 61)...)
	r.steps(1)
	r.holdsBlock(3, slices.Repeat([]int{two}, 60)...)
	r.has(frame(two, r.top())...)
	r = begin(t, "Make 3 0, Return").puts(two)
	r.steps(1)
	r.holdsBlock(3)
	r.has(frame(two, r.top())...)
}

// P17.2: a field of a block.
func TestField(t *testing.T) {
	for i, want := range []int{one, two, minus, 9} {
		r := begin(t, "Return")
		r.c.Funs[0].Code = []api.Instr{{Op: api.OpField, A: i}}
		for _, tag := range []int{0, 199} {
			r.Thread = vm.Main(r.c)
			r.puts(zero, r.block(tag, one, two, minus, 9))
			r.steps(1)
			r.has(frame(zero, want)...)
		}
		r.Thread = vm.Main(r.c)
		r.puts(r.block(5, slices.Repeat([]int{zero}, i)...)).bad()
		r.Thread = vm.Main(r.c)
		r.puts(r.text(long)).bad()
		r.Thread = vm.Main(r.c)
		r.puts(r.closure(0, zero, zero, zero, zero)).bad()
		for _, w := range append([]int{zero, minus}, nobodys...) {
			r.Thread = vm.Main(r.c)
			r.puts(w).bad()
		}
	}
	r := begin(t, "Field 60").puts(0)
	r.Set(frame(r.block(0, slices.Repeat([]int{zero}, 60)...)))
	r.bad()
}

// P17.2: a call goes into a frame that is new, and comes back behind it with a word.
func TestCall(t *testing.T) {
	r := begin(t, "Call, Pop, Int 6, Return", "Local 0, Return", "Int 1, Int 2, Self, Kept 1, Set 5, Local 0, Return")
	w := r.closure(2, two, minus)
	r.puts(9, w, 11)
	r.steps(1)
	r.has(append(frame(9), w, 11, zero, zero, zero, zero, zero)...)
	r.steps(5)
	r.has(append(frame(9), w, 11, zero, zero, zero, zero, minus, one, two, w)...)
	r.steps(2)
	r.has(frame(9, 11)...)
	r.steps(1)
	r.has(frame(9)...)
	r.steps(1)
	r.step(api.Act{Kind: api.ActEnd, Word: 15})
	r.c.Funs[2].Locals = 0
	r.Thread = vm.Main(r.c)
	r.puts(9, w, 11)
	r.steps(1)
	r.has(append(frame(9), w)...)
	r.steps(4)
	r.bad()
}

// P17.2: a tail call goes into a frame in the place of the one it was in, with its marks.
func TestTail(t *testing.T) {
	r := begin(t, "Call, Return", "Int 1, Local 0, Int 2, Tail", "Local 0, Return")
	w, v := r.closure(1, one), r.closure(2, two, two)
	r.puts(9, w, v)
	r.steps(4)
	r.has(append(frame(9), w, v, zero, zero, zero, zero, zero, one, v, two)...)
	r.steps(1)
	r.has(append(frame(9), v, two, zero, zero, zero, zero, zero)...)
	r.steps(2)
	r.has(frame(9, two)...)
	r.step(api.Act{Kind: api.ActEnd, Word: two})
	r = begin(t, "Tail", "Local 0, Return")
	r.puts(9, r.closure(1, one), 11)
	r.steps(2)
	r.step(api.Act{Kind: api.ActEnd, Word: 11})
	r = begin(t, "Try 0, Tail", "Local 0, Raise")
	r.puts(9, r.closure(1, one), 11)
	r.steps(4)
	r.step(api.Act{Kind: api.ActFault, Number: 5})
}

// P17.2: where a jump goes.
func TestJumps(t *testing.T) {
	r := begin(t, "Jump 2, Pop, Int 1, Jump 6, Pop, Pop, Int 2, Jump 2")
	r.steps(4)
	r.has(frame(one, two)...)
	r.steps(3)
	r.has(frame(one, two, one)...)
	goes := func(s string, word int, jumps bool) {
		t.Helper()
		r := begin(t, s+", Int 1, Jump 4, Int 2, Return")
		r.puts(9, word)
		r.steps(1)
		r.has(frame(9)...)
		r.steps(1)
		if jumps {
			r.has(frame(9, two)...)
		} else {
			r.has(frame(9, one)...)
		}
	}
	for _, n := range []int{1, -1, 2, api.MaxInt, api.MinInt} {
		goes("False 3", tag(n), false)
		goes("Case 5 3", tag(n), false)
		goes("Case 1 3", tag(n), n == 1)
		goes("Case 0 3", tag(n), false)
	}
	goes("False 3", zero, true)
	goes("Case 0 3", zero, true)
	goes("Case 65535 3", tag(65535), true)
	goes("Case 65535 3", tag(-1), false)
}

// P17.2: a case of a block asks for its tag.
func TestCaseOfBlocks(t *testing.T) {
	for _, n := range []int{0, 1, 7, 198, 199} {
		for _, fields := range [][]int{nil, {tag(n + 1)}, {two, two, two, two}} {
			for _, a := range []int{n - 1, n, n + 1} {
				r := begin(t, "Return")
				r.c.Funs[0].Code = []api.Instr{{Op: api.OpCase, A: a, B: 2}, {Op: api.OpPop}, {Op: api.OpReturn}}
				r.puts(9, r.block(n, fields...))
				r.steps(1)
				r.has(frame(9)...)
				if a == n {
					r.step(api.Act{Kind: api.ActEnd, Word: 9})
				} else {
					r.steps(1)
					r.has(frame()...)
				}
			}
		}
	}
	for _, a := range []string{"Case 200 1, Return", "Case 201 1, Return", "Case 0 1, Return"} {
		r := begin(t, a)
		r.puts(r.text("")).bad()
		r = begin(t, a)
		r.puts(r.closure(0)).bad()
	}
}

// P17.2: sums, and what is raised where nothing may be divided by.
func TestSum(t *testing.T) {
	for k, sign := range []string{"+", "-", "*", "/", "%", "=", "<"} {
		for _, a := range []int{0, 1, -7, 12, api.MaxInt, api.MinInt} {
			for _, b := range []int{0, 2, -1, 12, api.MaxInt, api.MinInt} {
				r := begin(t, "Return")
				r.c.Funs[0].Code = []api.Instr{{Op: api.OpSum, A: k}, {Op: api.OpReturn}}
				r.puts(9, tag(a), tag(b))
				r.steps(1)
				n, e := ints.Do(sign, a, b)
				if e == api.OK {
					r.has(frame(9, tag(n))...)
					continue
				}
				r.has(frame(9)...)
				r.step(api.Act{Kind: api.ActFault, Number: -1})
				r.has()
			}
		}
	}
}

// P17.2: two texts are one, or -2 is raised.
func TestJoin(t *testing.T) {
	for _, of := range [][2]int{{0, 0}, {0, 60}, {60, 0}, {1, 1}, {30, 30}, {59, 1}} {
		r := begin(t, "Join, Return")
		a, b := strings.Repeat("a", of[0]), strings.Repeat("b", of[1])
		r.puts(9, r.text(a), r.text(b))
		r.steps(1)
		r.holds(a + b)
		r.has(frame(9, r.top())...)
	}
	for _, of := range [][2]int{{1, 60}, {60, 1}, {31, 30}, {60, 60}} {
		r := begin(t, "Join, Return")
		r.puts(9, r.text(strings.Repeat("a", of[0])), r.text(strings.Repeat("b", of[1])))
		r.fill(0) // what is too long needs no room
		r.steps(1)
		r.has(frame(9)...)
		r.step(api.Act{Kind: api.ActFault, Number: -2})
	}
}

// P17.2: what is raised, and caught in the frame where that happens.
func TestRaiseAndTry(t *testing.T) {
	for _, n := range []int{0, 1, -1, -2, api.MaxInt, api.MinInt} {
		r := begin(t, "Raise, Return").puts(9, 11, tag(n))
		r.steps(1)
		r.has(frame(9, 11)...)
		if !r.Alive() {
			t.Error("the thread has ended ahead of its error's step")
		}
		r.step(api.Act{Kind: api.ActFault, Number: n})
		r.has()
		r.kind(api.ActEnd)
		r.kind(api.ActEnd)
		r = begin(t, "Try 6, Local 0, Int 2, Local 1, Raise, Pop, Self, Return").puts(9, 11)
		r.Set([]int{zero, zero, tag(n), zero, zero, zero, zero, 9, 11})
		r.steps(5)
		r.has(zero, zero, tag(n), zero, zero, zero, zero, 9, 11, zero, two)
		r.steps(1)
		r.has(zero, zero, tag(n), zero, zero, zero, zero, 9, 11, tag(n))
		r.steps(1)
		r.has(zero, zero, tag(n), zero, zero, zero, zero, 9, 11, tag(n), zero)
		r.step(api.Act{Kind: api.ActEnd, Word: zero})
	}
}

// P17.2: the youngest mark of all frames is where an error goes; those above it are no more, and it neither.
func TestRaiseGoesOut(t *testing.T) {
	r := begin(t, "Try 3, Call, Return, Int 1, Return", "Try 4, Int 2, Local 0, Raise, Int 3, Sum 0, Raise")
	w := r.closure(1, one)
	r.puts(9)
	r.steps(1)
	r.puts(w, 11)
	r.steps(5)
	r.has(append(frame(9), w, 11, zero, zero, zero, zero, zero, two)...)
	r.steps(1)
	r.has(append(frame(9), w, 11, zero, zero, zero, zero, zero, 11)...)
	r.steps(3) // the mark is no more: the next error goes out of the frame
	r.has(append(frame(9), w, 11, zero, zero, zero, zero, zero)...)
	r.steps(1)
	r.has(frame(9, 9)...)
	r.steps(1)
	r.has(frame(9, 9, one)...)
	r.step(api.Act{Kind: api.ActEnd, Word: one})
}

// P17.2: a mark that is over catches nothing.
func TestDone(t *testing.T) {
	r := begin(t, "Try 5, Try 6, Done, Local 0, Raise, Int 1, Int 2, Return")
	r.steps(6)
	r.has(frame(zero)...)
	r.steps(1)
	r.has(frame(zero, one)...)
	r = begin(t, "Try 4, Done, Local 0, Raise, Return")
	r.steps(4)
	r.step(api.Act{Kind: api.ActFault})
	r = begin(t, "Try 0, Int 1, Int 2, Done, Return")
	r.steps(4)
	r.has(frame(one, two)...)
}

// P17.2: errors go out of parts and transactions, each by a step of its own, and are caught behind them.
func TestRaiseLeavesParts(t *testing.T) {
	r := begin(t, "Try 9, Int 1, Begin, Int 2, Else 9, Int 6, Else 9, Local 0, Raise, Return").puts(9, 11)
	r.steps(2)
	r.kind(api.ActBegin)
	r.steps(1)
	r.kind(api.ActElse)
	r.steps(1)
	r.kind(api.ActElse)
	r.steps(2)
	r.has(frame(9, 11, one, two, 15)...)
	r.kind(api.ActJoined)
	r.has(frame(9, 11, one, two, 15)...)
	r.kind(api.ActJoined)
	r.has(frame(9, 11, one, two)...)
	r.kind(api.ActLeave)
	r.has(frame(9, 11, one)...)
	r.steps(1)
	r.has(frame(9, 11, zero)...)
	r.step(api.Act{Kind: api.ActEnd, Word: zero})
	r = begin(t, "Begin, Int 2, Int 1, Raise, Return").puts(9)
	r.kind(api.ActBegin)
	r.steps(3)
	r.kind(api.ActLeave)
	r.has(frame(9)...)
	r.step(api.Act{Kind: api.ActFault, Number: 1})
	r = begin(t, "Else 0, Int 2, Int 1, Raise, Return").puts(9)
	r.kind(api.ActElse)
	r.steps(3)
	r.kind(api.ActJoined)
	r.has(frame(9)...)
	r.step(api.Act{Kind: api.ActFault, Number: 1})
}

// P17.2: an error within a part, and within a transaction, may be caught there.
func TestRaiseIsCaughtWithin(t *testing.T) {
	r := begin(t, "Begin, Else 7, Try 5, Int 3, Raise, Joined, Commit, Return")
	r.kind(api.ActBegin)
	r.kind(api.ActElse)
	r.steps(4)
	r.has(frame(minus)...)
	r.kind(api.ActJoined)
	r.kind(api.ActCommit)
	r.step(api.Act{Kind: api.ActEnd, Word: minus})
}

// P17.2: an error goes out of calls to a mark of who called, in one step, whatever its kind is.
func TestRaiseLeavesFrames(t *testing.T) {
	for s, kind := range map[string]int{"Try": api.ActNone, "Begin": api.ActLeave, "Else": api.ActJoined} {
		r := begin(t, s+" 2, Call, Return", "Self, Local 0, Call, Return", "Int 1, Local 0, Raise")
		v := r.closure(2, two, two)
		w := r.closure(1, one)
		r.puts(9)
		r.Step(r.c, r.h, r.lets)
		r.puts(w, v)
		r.steps(1)
		for range 9 {
			r.steps(3)
		}
		r.c.Funs[1].Code = read("Local 0, Int 6, Tail")
		r.steps(2)
		if len(r.Roots()) != 8+9*7+7+2 {
			t.Fatalf("%d words", len(r.Roots()))
		}
		r.c.Funs[1].Code = read("Local 0, Int 6, Call")
		r.steps(3)
		r.has(append(r.Roots()[:8+9*7+7], v, 15, zero, zero, zero, zero, zero, one, 15)...)
		r.steps(1)
		r.kind(kind)
		if s == "Try" {
			r.has(frame(9, 15)...)
			r.step(api.Act{Kind: api.ActEnd, Word: 15})
			continue
		}
		r.has(frame(9)...)
		r.step(api.Act{Kind: api.ActFault, Number: 7})
		r.has()
	}
}

// P17.2: what is asked of others, with what words; what comes of it they put.
func TestActs(t *testing.T) {
	r := begin(t, "Print, Pop, Spawn, Pop, Tvar, Read, Write, Return", "Return")
	a, w := r.text("abc"), r.closure(1, one)
	r.puts(9, one, a)
	r.step(api.Act{Kind: api.ActPrint, Text: "abc"})
	r.has(frame(9, one, zero)...)
	r.steps(1)
	r.puts(w)
	r.step(api.Act{Kind: api.ActSpawn, Word: w})
	r.has(frame(9, one, zero)...)
	r.steps(1)
	r.puts(a)
	r.step(api.Act{Kind: api.ActTvar, Word: a})
	r.has(frame(9, one)...)
	r.puts(two)
	r.step(api.Act{Kind: api.ActRead, Word: two})
	r.has(frame(9, one)...)
	r.puts(a)
	r.step(api.Act{Kind: api.ActWrite, Word: one, Other: a})
	r.has(frame(9)...)
	r.puts(zero)
	r.step(api.Act{Kind: api.ActEnd, Word: zero})
}

// P17.2: marks of transactions and parts, and that it waits.
func TestMarks(t *testing.T) {
	r := begin(t, "Begin, Else 5, Int 1, Joined, Jump 6, Int 2, Else 9, Retry, Joined, Int 3, Commit, Return")
	r.kind(api.ActBegin)
	r.kind(api.ActElse)
	r.steps(1)
	r.kind(api.ActJoined)
	r.steps(1)
	r.kind(api.ActElse)
	r.kind(api.ActRetry)
	r.has(frame(one)...)
	if !r.Other() {
		t.Fatal("there is nothing else")
	}
	r.steps(1)
	r.has(frame(one, minus)...)
	r.kind(api.ActCommit)
	r.has(frame(one, minus)...)
	r.step(api.Act{Kind: api.ActEnd, Word: minus})
}

// P17.2: who has ended goes no further, and has nothing to be put on.
func TestThreadsThatHaveEnded(t *testing.T) {
	r := begin(t, "Return")
	r.puts(9)
	r.step(api.Act{Kind: api.ActEnd, Word: 9})
	for range 3 {
		if r.Alive() || r.Other() {
			t.Error("it goes on")
		}
		r.has()
		r.puts(one, two)
		r.has()
		r.Set([]int{one})
		r.Set(nil)
		r.kind(api.ActEnd)
		r.Thread = r.Copy()
	}
}

// P17.2: Put is on the youngest frame's stack.
func TestPut(t *testing.T) {
	r := begin(t, "Call, Return", "Return")
	w := r.closure(1, one)
	r.puts(w, 11)
	r.steps(1)
	r.puts(one, two)
	r.has(append(frame(), w, 11, zero, zero, zero, zero, zero, one, two)...)
	r.steps(1)
	r.puts(9)
	r.has(frame(two, 9)...)
	for _, n := range nobodys {
		r.puts(n)
	}
	r.has(frame(append([]int{two, 9}, nobodys...)...)...)
}

// P17.2: where there is no room nothing is done; as soon as there is some it is.
func TestRoom(t *testing.T) {
	for _, of := range []struct {
		instr string
		needs int
		holds func(r *run)
	}{
		{"Text 0", 2, func(r *run) { r.holds("") }},
		{"Text 1", 3, func(r *run) { r.holds("a") }},
		{"Text 3", 11, func(r *run) { r.holds(long) }},
		{"Make 5 1", 2, func(r *run) { r.holdsBlock(5, 11) }},
		{"Make 0 2", 3, func(r *run) { r.holdsBlock(0, 9, 11) }},
		{"Fun 0 0", 2, func(r *run) { r.holdsBlock(api.Closure, zero) }},
		{"Fun 1 1", 3, func(r *run) { r.holdsBlock(api.Closure, one, 11) }},
	} {
		for room := range of.needs + 3 {
			r := begin(t, of.instr+", Return", "Return")
			r.puts(9, 11)
			r.fill(room)
			r.tryRoom(room >= of.needs)
			if room >= of.needs {
				of.holds(r)
				continue
			}
			r.h = heap.New(64)
			r.fill(of.needs)
			r.steps(1)
			of.holds(r)
			r.step(api.Act{Kind: api.ActEnd, Word: r.top()})
		}
	}
	for room := range 6 {
		r := begin(t, "Join, Return")
		r.puts(9, r.text("a"), r.text("b"))
		r.fill(room)
		r.tryRoom(room >= 3)
		if room < 3 {
			l, e := r.h.Collect(r.Roots())
			if e != api.OK {
				t.Fatal(e)
			}
			r.Set(l)
			r.steps(1)
		}
		r.holds("ab")
		r.has(frame(9, r.top())...)
		r.step(api.Act{Kind: api.ActEnd, Word: r.top()})
	}
}

// tryRoom does a step for which there is room, or three without.
func (r *run) tryRoom(room bool) {
	r.Helper()
	was, used := r.Roots(), r.h.Used()
	if room {
		r.steps(1)
		return
	}
	for range 3 {
		r.kind(api.ActRoom)
		r.has(was...)
		if r.h.Used() != used {
			r.Errorf("Used is %d, not %d", r.h.Used(), used)
		}
	}
}

// P17.2: at most 300 frames; a call more does nothing.
func TestDeep(t *testing.T) {
	r := begin(t, "Call, Return", "Self, Local 0, Int 1, Sum 0, Call, Return")
	w := r.closure(1, one)
	r.puts(w, zero)
	r.steps(1)
	for n := 2; n < 300; n++ {
		if len(r.Roots()) != 7*n {
			t.Fatalf("of frame %d: %d words", n, len(r.Roots()))
		}
		r.steps(5)
	}
	if len(r.Roots()) != 7*300 {
		t.Fatalf("%d words", len(r.Roots()))
	}
	r.steps(4)
	was := r.Roots()
	for range 3 {
		r.kind(api.ActDeep)
		r.has(was...)
	}
	// What was in its way is gone where the thread that was like it is gone back.
	x := r.Copy()
	r.c.Funs[1].Code[4] = api.Instr{Op: api.OpTail}
	r.steps(1)
	r.has(append(slices.Clone(was[:299*7]), w, tag(299), zero, zero, zero, zero, zero)...)
	r.c.Funs[1].Code = read("Local 0, Return")
	r.steps(2)
	if len(r.Roots()) != 299*7+1 || r.top() != tag(299) {
		t.Errorf("%v", r.Roots())
	}
	r.Thread = x
	r.c.Funs[1].Code = read("Return, Return, Return, Return, Call")
	r.kind(api.ActDeep)
	r.has(was...)
}

// P17.2: what is raised by the 300th frame is caught by the first one.
func TestRaiseOutOfAllFrames(t *testing.T) {
	r := begin(t, "Try 2, Call, Return", "Local 0, Int 6, Sum 5, False 6, Int 3, Raise, Self, Local 0, Int 1, Sum 0, Call, Return")
	r.puts(9)
	was := r.Roots()
	r.steps(1)
	r.puts(r.closure(1, one), tag(-200))
	for range 2000 {
		a := r.Step(r.c, r.h, r.lets)
		if a.Kind == api.ActEnd {
			if a != (api.Act{Kind: api.ActEnd, Word: minus}) {
				t.Error(a)
			}
			return
		}
		if l := r.Roots(); a != (api.Act{}) || len(l) == 9 && !slices.Equal(l, append(was, minus)) {
			t.Fatal(a, l)
		}
	}
	t.Error("it does not end")
}

// P17.2: what there is none of.
func TestBad(t *testing.T) {
	bad := func(s string, words ...int) {
		t.Helper()
		for _, more := range [][]int{nil, {9, 11}} {
			r := begin(t, s, "Return")
			r.puts(append(more, words...)...)
			r.bad()
		}
	}
	r := begin(t, "Return", "Return")
	a, b, k, far := r.text("a"), r.block(3, one), r.closure(1, one), r.closure(2)
	in := func(s string, words ...int) {
		t.Helper()
		was := r.h.Used()
		r.c.Funs[0].Code = read(s)
		r.Thread = vm.Main(r.c)
		r.puts(9).puts(words...).bad()
		if r.h.Used() != was {
			t.Errorf("%s has made a block", s)
		}
	}
	for _, s := range []string{"Int 7", "Int 65535", "Text 5", "Local 6", "Kept 0", "Name 4", "Done", "Commit", "Joined"} {
		bad(s)
	}
	for _, s := range []string{"Set 6", "Store 4"} {
		bad(s, one)
	}
	for _, w := range append([]int{a, b, k}, nobodys...) {
		in("False 0", w)
		in("Raise", w)
		in("Read", w)
		in("Write", w, one)
		for n := range 7 {
			r.c.Funs[0].Code = []api.Instr{{Op: api.OpSum, A: n}}
			for _, of := range [][]int{{w, one}, {one, w}, {w, w}} {
				r.Thread = vm.Main(r.c)
				r.puts(of...).bad()
			}
		}
	}
	for _, w := range append([]int{one, a, b, far}, nobodys...) {
		in("Call", w, one)
		in("Tail", w, one)
		in("Spawn", w)
	}
	for _, w := range append([]int{one, b, k}, nobodys...) {
		in("Print", w)
		in("Join", w, a)
		in("Join", a, w)
	}
	for _, w := range append([]int{a, k}, nobodys...) {
		in("Case 0 0", w)
	}
	for _, w := range nobodys {
		in("Make 0 1", w)
		in("Make 0 3", one, w, one)
		in("Fun 1 1", w)
	}
	in("Sum 7", one, one)
	in("Fun 2 0")
	in("Fun 65535 0")
	in("Make 200 1", one)
	in("Make 201 1", one)
	in("Make 65535 1", one)
}

// P17.2: a stack that is too short.
func TestShortStacks(t *testing.T) {
	for s, needs := range map[string]int{
		"Set 0": 1, "Store 0": 1, "Pop": 1, "Make 0 1": 1, "Make 0 4": 4, "Fun 1 1": 1, "Fun 1 9": 9, "Field 0": 1, "Call": 2, "Tail": 2, "Return": 1, "False 0": 1, "Case 0 0": 1,
		"Sum 0": 2, "Join": 2, "Raise": 1, "Print": 1, "Spawn": 1, "Tvar": 1, "Read": 1, "Write": 2,
	} {
		for n := range needs {
			r := begin(t, s+", Return", "Return")
			r.puts(slices.Repeat([]int{one}, n)...).bad()
		}
	}
	r := begin(t, "Call, Pop", "Pop, Return")
	r.puts(9, 9, r.closure(1, one), one)
	r.steps(1)
	r.bad() // what the frame below has is not its own
}

// P17.2: a code without the function, or the instruction, that is next.
func TestNoInstruction(t *testing.T) {
	for s, steps := range map[string]int{"Int 1": 1, "Jump 2, Pop": 1, "Jump 65535, Pop": 1, "Try 0": 1, "Local 0, False 3, Pop": 2, "Local 0, Case 0 9, Pop": 2} {
		r := begin(t, s)
		r.steps(steps)
		r.bad()
	}
	r := begin(t, "Return", "Int 1, Return")
	r.Thread = vm.Spawn(r.c, r.h, r.closure(1, one))
	r.c.Funs = r.c.Funs[:1]
	r.bad()
	r.c.Funs = nil
	r.bad()
	for _, op := range []int{0, -1, 34, 35, 1 << 40} {
		r = begin(t, "Return")
		r.c.Funs[0].Code = []api.Instr{{Op: op}}
		r.puts(one, one, one).bad()
	}
}

// P17.3: what is like a thread goes its own way.
func TestCopy(t *testing.T) {
	r := begin(t, "Try 7, Call, Return", "Int 1, Int 2, Set 3, Int 6, Raise")
	w := r.closure(1, one)
	r.puts(9, w, 11)
	for n := range 9 {
		x, l := r.Copy(), r.Roots()
		y := x.Copy()
		if x == r.Thread || !slices.Equal(x.Roots(), l) || x.Alive() != r.Alive() {
			t.Fatalf("behind %d steps: %v, not %v", n, x.Roots(), l)
		}
		for range 9 {
			x.Step(r.c, r.h, r.lets)
			x.Put(77)
		}
		x.Set(slices.Repeat([]int{99}, len(x.Roots())))
		r.has(l...)
		if !slices.Equal(y.Roots(), l) {
			t.Fatalf("behind %d steps: %v, not %v", n, y.Roots(), l)
		}
		a := r.Step(r.c, r.h, r.lets)
		if b := y.Step(r.c, r.h, r.lets); a != b || !slices.Equal(y.Roots(), r.Roots()) {
			t.Fatalf("step %d is %v, and %v", n, a, b)
		}
		if n == 3 || n == 5 {
			r.Thread = y
		}
	}
}

// P17.3: marks, stacks and locals of what is like a thread are its own, also where one of them has other ones in the same places.
func TestCopyHasListsOfItsOwn(t *testing.T) {
	r := begin(t, "Try 6, Done, Else 7, Int 1, Set 0, Raise, Return, Return").puts(9, 11)
	r.steps(1)
	x := r.Copy()
	r.steps(1)
	r.kind(api.ActElse)
	r.steps(2)
	r.Thread, x = x, r.Thread
	r.has(frame(9, 11)...)
	r.c.Funs[0].Code[1] = api.Instr{Op: api.OpJump, A: 8}
	r.c.Funs[0].Code = append(r.c.Funs[0].Code, read("Int 2, Raise")...)
	r.steps(4)
	r.has(frame(9, 11, two)...)
	r.step(api.Act{Kind: api.ActEnd, Word: two})
	r.Thread = x
	r.has(zero, one, zero, zero, zero, zero, zero, 9, 11)
	if !r.Other() {
		t.Error("there is nothing else")
	}
	r.step(api.Act{Kind: api.ActEnd, Word: 11})
}

// P17.3: the youngest mark of Else is gone to, from whatever frame, and is no more.
func TestOther(t *testing.T) {
	r := begin(t, "Else 6, Int 1, Else 7, Try 8, Begin, Call, Pop, Pop, Return", "Try 3, Begin, Int 2, Call, Pop", "Int 1, Retry")
	v, w := r.closure(2, one, one), r.closure(1, one)
	r.puts(9, 11)
	for n, kind := range []int{api.ActElse, api.ActNone, api.ActElse, api.ActNone, api.ActBegin} {
		if n == 0 && r.Other() {
			t.Fatal("there is something else ahead of all marks")
		}
		r.kind(kind)
	}
	r.puts(w, v)
	r.steps(1)
	r.steps(1)
	r.kind(api.ActBegin)
	r.puts(v)
	r.steps(2)
	r.steps(1)
	r.kind(api.ActRetry)
	if len(r.Roots()) != 7+3+7+7+1 {
		t.Fatal(r.Roots())
	}
	x := r.Copy()
	if !r.Other() {
		t.Fatal("there is nothing else")
	}
	r.has(frame(9, 11, one)...)
	if len(x.Roots()) != 25 {
		t.Error("the thread that is like it has changed")
	}
	y := r.Copy()
	r.steps(1) // instruction 7
	r.has(frame(9, 11)...)
	r.step(api.Act{Kind: api.ActEnd, Word: 11})
	r.Thread = y
	if !r.Other() {
		t.Fatal("there is nothing else")
	}
	r.has(frame(9, 11)...)
	if r.Other() {
		t.Fatal("there is something else")
	}
	r.has(frame(9, 11)...)
	r.steps(2) // instruction 6
	r.has(frame()...)
}

// P17.3: marks below that of Else stay, and where there is none nothing is changed.
func TestOtherLeavesMarks(t *testing.T) {
	r := begin(t, "Try 6, Begin, Int 1, Else 5, Try 0, Raise, Int 2, Return")
	r.puts(9)
	r.steps(1)
	r.kind(api.ActBegin)
	r.steps(1)
	x := r.Copy()
	if r.Other() {
		t.Fatal("there is something else")
	}
	r.has(frame(9, one)...)
	r.kind(api.ActElse)
	r.steps(1)
	if !r.Other() {
		t.Fatal("there is nothing else")
	}
	r.has(frame(9, one)...)
	r.steps(1)
	r.kind(api.ActLeave)
	r.has(frame(9)...)
	r.steps(1)
	r.has(frame(9, one)...)
	r.steps(1)
	r.step(api.Act{Kind: api.ActEnd, Word: two})
	r.Thread = x
	r.kind(api.ActElse)
	r.steps(1)
	r.has(frame(9, one)...)
}

// P17.4: all words, from the oldest frame on; others in their places.
func TestRootsAndSet(t *testing.T) {
	r := begin(t, "Call, Return", "Int 1, Call, Return", "Int 6, Local 0, Kept 1, Return")
	v, w := r.closure(2, one, two), r.closure(1, one)
	r.puts(9, w, v)
	r.steps(1)
	r.puts(v)
	r.steps(2)
	r.steps(1)
	want := append(frame(9), w, v, zero, zero, zero, zero, zero, v, one, zero, zero, zero, zero, zero, 15)
	r.has(want...)
	for _, n := range []int{0, 1, len(want) - 1, len(want) + 1, 100} {
		r.Set(slices.Repeat([]int{99}, n))
		r.has(want...)
	}
	r.Set(nil)
	r.has(want...)
	u := r.closure(2, one, 77)
	for i := range want {
		want[i] = 1001 + 2*i
	}
	want[15] = u // the youngest frame's closure
	r.Set(want)
	r.has(want...)
	r.steps(2)
	r.has(append(want, want[16], 77)...)
	r.steps(1)
	r.has(append(slices.Clone(want[:15]), 77)...)
	r.steps(1)
	r.has(append(slices.Clone(want[:8]), 77)...)
}

// R4: what is set is copied, and what is told is new memory.
func TestRootsAreNewMemory(t *testing.T) {
	r := begin(t, "Local 0, Return")
	r.puts(9, 11)
	l := r.Roots()
	l = l[:cap(l)]
	for i := range l {
		l[i] = -99
	}
	r.has(frame(9, 11)...)
	set := make([]int, 9, 20)
	for i := range set {
		set[i] = 2*i + 1
	}
	r.Set(set)
	was := slices.Clone(set)
	r.puts(one, two)
	r.steps(1)
	if !slices.Equal(set[:9], was) || slices.Max(set[9:20]) != 0 {
		t.Errorf("what is set is changed to %v", set[:20])
	}
	for i := range set {
		set[i] = -99
	}
	r.has(append(was, one, two, 3)...)
}

// P17.1: a thread in a closure's function leaves the closure as it is.
func TestSpawnLeavesTheHeap(t *testing.T) {
	r := begin(t, "Return", "Set 0, Return")
	w := r.closure(1, one)
	used := r.h.Used()
	r.Thread = vm.Spawn(r.c, r.h, w)
	r.puts(9, 11)
	r.steps(1)
	fun, kept, e := prims.Open(r.h, w)
	if fun != 1 || !slices.Equal(kept, []int{one}) || e != api.OK || r.h.Used() != used {
		t.Errorf("the closure is %d %v, %v", fun, kept, e)
	}
}
