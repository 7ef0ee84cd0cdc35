package tl2_test

import (
	"math"
	"slices"
	"testing"

	"selvage/api"
	"selvage/tl2"
)

// told is an engine of which each answer is held against what it should be.
type told struct {
	*testing.T
	*tl2.Engine
}

// vars is an engine with some vars.
func vars(t *testing.T, values ...int) told {
	t.Helper()
	x := told{t, tl2.New()}
	for n, v := range values {
		if got, e := x.Make(v); got != n || e != api.OK {
			t.Fatalf("Make(%d) is %d, %v, not %d", v, got, e, n)
		}
	}
	return x
}

func (x told) is(got, want api.Errno) {
	x.Helper()
	if got != want {
		x.Errorf("it is %v, not %v", got, want)
	}
}

// ok asks for some things that must be possible.
func (x told) ok(l ...api.Errno) {
	x.Helper()
	for i, e := range l {
		if e != api.OK {
			x.Errorf("number %d is %v", i, e)
		}
	}
}

func (x told) begin(threads ...int) {
	x.Helper()
	for _, t := range threads {
		x.ok(x.Begin(t))
	}
}

func (x told) reads(t, n, want int) {
	x.Helper()
	if v, e := x.Read(t, n); v != want || e != api.OK {
		x.Errorf("Read(%d, %d) is %d, %v, not %d", t, n, v, e, want)
	}
}

func (x told) refusesRead(t, n int, want api.Errno) {
	x.Helper()
	if v, e := x.Read(t, n); v != 0 || e != want {
		x.Errorf("Read(%d, %d) is %d, %v, not %v", t, n, v, e, want)
	}
}

// steps does steps of a commit, which must tell these numbers.
func (x told) steps(t int, want ...int) {
	x.Helper()
	for i, k := range want {
		if got, e := x.Step(t); got != k || e != api.OK {
			x.Errorf("step %d of %d is %d, %v, not %d", i, t, got, e, k)
		}
	}
}

func (x told) refusesStep(t int, want api.Errno) {
	x.Helper()
	if k, e := x.Step(t); k != 0 || e != want {
		x.Errorf("Step(%d) is %d, %v, not %v", t, k, e, want)
	}
}

func (x told) has(want ...int) {
	x.Helper()
	if got := x.Words(); !slices.Equal(got, want) {
		x.Errorf("the words are %v, not %v", got, want)
	}
}

func (x told) hasRead(t int, want ...int) {
	x.Helper()
	if got := x.Reads(t); !slices.Equal(got, want) {
		x.Errorf("%d has read %v, not %v", t, got, want)
	}
}

func (x told) valueIs(n, want int) {
	x.Helper()
	if v, e := x.Value(n); v != want || e != api.OK {
		x.Errorf("var %d is %d, %v, not %d", n, v, e, want)
	}
}

func (x told) versionIs(n, want int) {
	x.Helper()
	if x.Newer(n, want) || !x.Newer(n, want-1) {
		x.Errorf("the version of var %d is not %d", n, want)
	}
}

func (x told) clockIs(want int) {
	x.Helper()
	if got := x.Clock(); got != want {
		x.Errorf("the clock is %d, not %d", got, want)
	}
}

// starts tells at which clock a thread's transaction began; -1: there is none.
func (x told) starts(t, want int) {
	x.Helper()
	if x.Active(t) != (want >= 0) || x.Start(t) != max(want, 0) {
		x.Errorf("Active(%d) is %v, Start %d, not %d", t, x.Active(t), x.Start(t), want)
	}
}

// changes lets a thread without a transaction change a var.
func (x told) changes(t, n, v int) {
	x.Helper()
	x.ok(x.Begin(t), x.Write(t, n, v))
	x.steps(t, 1, 2, 4)
}

// The chapter's examples.
func TestExamples(t *testing.T) {
	x := vars(t, 5)
	x.begin(0, 1)
	x.reads(0, 0, 5)
	x.ok(x.Write(0, 0, 6))
	x.steps(0, 1, 2, 4)
	x.valueIs(0, 6)
	x.refusesRead(1, 0, api.ErrStale)
}

// P18.1: a new engine has no vars, no transactions, and its clock is 0.
func TestNew(t *testing.T) {
	x := vars(t)
	x.has()
	x.clockIs(0)
	for n := -1; n <= api.MaxThreads; n++ {
		x.starts(n, -1)
		x.hasRead(n)
	}
	if v, e := x.Value(0); v != 0 || e != api.ErrArg {
		t.Error(v, e)
	}
	if x.Newer(0, -1) {
		t.Error("there is a version of no var")
	}
	x.begin(0)
	x.refusesRead(0, 0, api.ErrArg)
	x.is(x.Write(0, 0, 1), api.ErrArg)
	x.steps(0, 4)
}

// P18.1: a new var has its value, the version 0, and nobody's lock.
func TestMake(t *testing.T) {
	all := []int{5, 0, -5, 5, math.MaxInt, math.MinInt, 2, 3}
	x := vars(t, all...)
	x.has(all...)
	x.begin(0, 7)
	for n, v := range all {
		x.valueIs(n, v)
		x.versionIs(n, 0)
		x.reads(0, n, v)
		x.reads(7, n, v)
	}
	x.ok(x.Valid(0), x.Valid(7))
	x.clockIs(0)
}

// P18.1: a var may be made while others are read, written and locked; it has version 0 then, too.
func TestMakeBetween(t *testing.T) {
	x := vars(t, 1)
	x.begin(0)
	x.changes(1, 0, 2)
	x.begin(2)
	x.ok(x.Write(2, 0, 3))
	x.steps(2, 1, 2)
	if n, e := x.Make(9); n != 1 || e != api.OK {
		t.Error(n, e)
	}
	x.versionIs(1, 0)
	x.reads(0, 1, 9)
	x.hasRead(0, 1)
	x.has(2, 9, 3)
	x.steps(2, 4)
	x.has(3, 9)
	x.ok(x.Valid(0), x.Write(0, 1, 8))
	x.steps(0, 1, 2, 4)
	x.has(3, 8)
	x.versionIs(1, 3)
}

// P18.1: there are at most MaxTvars vars.
func TestMostVars(t *testing.T) {
	x := vars(t, make([]int, api.MaxTvars-1)...)
	if n, e := x.Make(7); n != api.MaxTvars-1 || e != api.OK {
		t.Error(n, e)
	}
	for range 3 {
		if n, e := x.Make(8); n != 0 || e != api.ErrMany {
			t.Error(n, e)
		}
	}
	if l := x.Words(); len(l) != api.MaxTvars || l[api.MaxTvars-1] != 7 || l[0] != 0 {
		t.Error(len(l))
	}
	x.begin(0)
	x.reads(0, api.MaxTvars-1, 7)
	x.refusesRead(0, api.MaxTvars, api.ErrArg)
	x.is(x.Write(0, api.MaxTvars, 0), api.ErrArg)
}

// P18.1: a thread has one transaction at a time; it starts at the clock.
func TestBegin(t *testing.T) {
	x := vars(t, 0)
	for n := range api.MaxThreads {
		x.starts(n, -1)
		x.begin(n)
		x.starts(n, 0)
		x.is(x.Begin(n), api.ErrArg)
	}
	for _, n := range []int{-1, api.MaxThreads, math.MinInt, math.MaxInt} {
		x.is(x.Begin(n), api.ErrArg)
		x.starts(n, -1)
	}
	x.ok(x.Write(0, 0, 4))
	x.steps(0, 1)
	x.is(x.Begin(0), api.ErrArg)
	x.steps(0, 2)
	x.is(x.Begin(0), api.ErrArg)
	x.steps(0, 4)
	x.ok(x.Abort(1))
	x.begin(0, 1)
	x.starts(0, 1)
	x.starts(1, 1)
	x.starts(2, 0)
}

// P18.1: who begins between a step 2 and a step 4 starts at the clock that step 2 came to.
func TestBeginBetween(t *testing.T) {
	x := vars(t, 1, 2)
	x.begin(0)
	x.ok(x.Write(0, 0, 3))
	x.steps(0, 1)
	x.begin(1)
	x.starts(1, 0)
	x.steps(0, 2)
	x.begin(2)
	x.starts(2, 1)
	x.refusesRead(2, 0, api.ErrLocked)
	x.steps(0, 4)
	x.refusesRead(1, 0, api.ErrStale)
	x.reads(2, 0, 3)
	x.reads(1, 1, 2)
}

// P18.2: a Read tells what the youngest part that writes the var has for it, and has not read it then.
func TestReadOfWhatIsWritten(t *testing.T) {
	x := vars(t, 10, 20)
	x.begin(3)
	x.ok(x.Write(3, 0, 1))
	x.reads(3, 0, 1)
	x.reads(3, 1, 20)
	x.ok(x.Part(3))
	x.reads(3, 0, 1)
	x.ok(x.Part(3), x.Write(3, 0, 2), x.Write(3, 0, 3), x.Part(3), x.Part(3))
	x.reads(3, 0, 3)
	x.ok(x.Write(3, 1, 21))
	x.reads(3, 1, 21)
	x.hasRead(3, 1)
	x.valueIs(0, 10)
	x.ok(x.Undo(3))
	x.reads(3, 1, 20)
	x.ok(x.Undo(3), x.Undo(3))
	x.reads(3, 0, 1)
	x.hasRead(3, 1)
}

// P18.2: also where the var is locked, or stale.
func TestReadOfWhatIsWrittenAndLocked(t *testing.T) {
	x := vars(t, 10)
	x.begin(0, 1)
	x.ok(x.Write(0, 0, 5), x.Write(1, 0, 6))
	x.steps(1, 1)
	x.reads(0, 0, 5)
	x.steps(1, 2)
	x.reads(0, 0, 5)
	x.steps(1, 4)
	x.reads(0, 0, 5)
	x.hasRead(0)
	x.ok(x.Valid(0))
	x.steps(0, 1, 2, 4)
	x.valueIs(0, 5)
}

// P18.2: a Read of what is locked is ErrLocked, also if it is stale; of what is stale ErrStale. It is not read then.
func TestReadOfWhatIsLockedOrStale(t *testing.T) {
	x := vars(t, 1, 2)
	x.begin(0)
	x.changes(1, 0, 3)
	x.refusesRead(0, 0, api.ErrStale)
	x.begin(1)
	x.ok(x.Write(1, 0, 4), x.Write(1, 1, 5))
	x.refusesRead(0, 0, api.ErrStale)
	x.steps(1, 1)
	x.refusesRead(0, 0, api.ErrLocked)
	x.reads(0, 1, 2)
	x.hasRead(0, 1)
	x.steps(1, 1)
	x.refusesRead(0, 1, api.ErrLocked)
	x.ok(x.Abort(1))
	x.reads(0, 1, 2)
	x.refusesRead(0, 0, api.ErrStale)
	x.hasRead(0, 1)
	x.steps(0, 4)
}

// P18.2: what was read is told in the order of its first read.
func TestReads(t *testing.T) {
	x := vars(t, 0, 10, 20, 30)
	x.begin(0, 1)
	for _, n := range []int{2, 0, 2, 3, 0, 0, 1, 2} {
		x.reads(0, n, 10*n)
	}
	x.hasRead(0, 2, 0, 3, 1)
	x.hasRead(1)
	x.ok(x.Part(1))
	x.reads(1, 3, 30)
	x.ok(x.Undo(1), x.Part(1))
	x.reads(1, 1, 10)
	x.ok(x.Join(1))
	x.hasRead(1, 3, 1)
	x.ok(x.Write(1, 0, 1), x.Write(1, 3, 1))
	x.reads(1, 0, 1)
	x.reads(1, 3, 1)
	x.hasRead(1, 3, 1)
	x.steps(1, 1)
	x.hasRead(1, 3, 1)
	x.steps(1, 1, 2, 3, 4)
	x.hasRead(1)
	x.begin(1)
	x.hasRead(1)
	x.hasRead(0, 2, 0, 3, 1)
	x.ok(x.Abort(0))
	x.hasRead(0)
}

// P18.2: a Write goes to the youngest part, which has one value for a var; no var is another one by it.
func TestWrite(t *testing.T) {
	x := vars(t, 10, 20, 30)
	x.begin(0, 1)
	x.ok(x.Write(0, 2, 1), x.Write(0, 0, 2), x.Write(0, 2, 3))
	x.has(10, 20, 30, 2, 3)
	x.ok(x.Part(0), x.Write(0, 2, 4), x.Write(0, 1, 5), x.Write(0, 2, 6), x.Write(1, 0, math.MinInt))
	x.has(10, 20, 30, 2, 3, 5, 6, math.MinInt)
	x.hasRead(0)
	x.reads(1, 2, 30)
	x.versionIs(2, 0)
	x.ok(x.Undo(0))
	x.has(10, 20, 30, 2, 3, math.MinInt)
}

// P18.2: by Join the youngest part's writes are in the one below it, in the place of its own.
func TestJoin(t *testing.T) {
	x := vars(t, 10, 20, 30)
	x.begin(0)
	x.is(x.Join(0), api.ErrArg)
	x.ok(x.Write(0, 0, 1), x.Write(0, 1, 2), x.Part(0), x.Write(0, 1, 3), x.Write(0, 2, 4), x.Part(0), x.Write(0, 2, 5))
	x.has(10, 20, 30, 1, 2, 3, 4, 5)
	x.ok(x.Join(0))
	x.has(10, 20, 30, 1, 2, 3, 5)
	x.ok(x.Part(0), x.Join(0))
	x.has(10, 20, 30, 1, 2, 3, 5)
	x.ok(x.Join(0))
	x.has(10, 20, 30, 1, 3, 5)
	x.is(x.Join(0), api.ErrArg)
	x.ok(x.Write(0, 2, 6))
	x.has(10, 20, 30, 1, 3, 6)
	x.steps(0, 1, 1, 1, 2, 3, 3, 4)
	x.has(1, 3, 6)
}

// P18.2: by Undo they are gone.
func TestUndo(t *testing.T) {
	x := vars(t, 10, 20)
	x.begin(0)
	x.is(x.Undo(0), api.ErrArg)
	x.ok(x.Write(0, 0, 1), x.Part(0), x.Write(0, 0, 2), x.Part(0), x.Write(0, 1, 3), x.Undo(0))
	x.has(10, 20, 1, 2)
	x.ok(x.Part(0), x.Write(0, 0, 4), x.Join(0))
	x.has(10, 20, 1, 4)
	x.ok(x.Undo(0))
	x.has(10, 20, 1)
	x.is(x.Undo(0), api.ErrArg)
	x.ok(x.Part(0))
	x.has(10, 20, 1)
	x.ok(x.Undo(0))
	x.steps(0, 1, 2, 4)
	x.has(1, 20)
	x.versionIs(1, 0)
}

// P18.2: Valid tells the error of the first var, as they were read, that is locked or stale; of one var locked first.
func TestValid(t *testing.T) {
	x := vars(t, 0, 10, 20, 30)
	x.begin(0, 1)
	x.ok(x.Valid(0))
	for _, n := range []int{2, 0} {
		x.reads(0, n, 10*n)
		x.reads(1, 2-n, 20-10*n)
	}
	x.ok(x.Valid(0), x.Valid(1))
	x.changes(2, 3, 1)
	x.changes(2, 1, 1)
	x.ok(x.Valid(0), x.Valid(1))
	x.changes(2, 0, 1)
	x.is(x.Valid(0), api.ErrStale)
	x.begin(2)
	x.ok(x.Write(2, 2, 1))
	x.steps(2, 1)
	x.is(x.Valid(0), api.ErrLocked) // of 2, then of 0
	x.is(x.Valid(1), api.ErrStale)
	x.begin(3)
	x.ok(x.Write(3, 0, 1))
	x.steps(3, 1)
	x.is(x.Valid(1), api.ErrLocked) // 0 is stale, too
	x.ok(x.Abort(2))
	x.is(x.Valid(0), api.ErrLocked)
	x.is(x.Valid(1), api.ErrLocked)
	x.ok(x.Abort(3))
	x.is(x.Valid(0), api.ErrStale)
	x.is(x.Valid(1), api.ErrStale)
	x.begin(2)
	x.reads(2, 0, 1)
	x.ok(x.Valid(2))
}

// P18.2: what was read and written counts as read, and what was written alone does not.
func TestValidOfWhatIsWritten(t *testing.T) {
	x := vars(t, 1, 2)
	x.begin(0)
	x.reads(0, 0, 1)
	x.ok(x.Write(0, 0, 3), x.Write(0, 1, 3))
	x.changes(1, 1, 4)
	x.ok(x.Valid(0))
	x.changes(1, 0, 4)
	x.is(x.Valid(0), api.ErrStale)
	x.steps(0, 1, 1)
	x.refusesStep(0, api.ErrStale)
}

// P18.3: a commit locks what is written, from the least var on, takes the clock, and writes, from the least one on.
func TestStep(t *testing.T) {
	x := vars(t, 0, 10, 20, 30)
	x.begin(5, 1)
	x.ok(x.Write(5, 3, 31), x.Write(5, 0, 1), x.Write(5, 2, 21))
	locks := func(want ...api.Errno) {
		t.Helper()
		for n, e := range want {
			if e == api.OK {
				x.reads(1, n, 10*n)
			} else {
				x.refusesRead(1, n, e)
			}
		}
	}
	const ok, locked, stale = api.OK, api.ErrLocked, api.ErrStale
	locks(ok, ok, ok, ok)
	x.steps(5, 1)
	locks(locked, ok, ok, ok)
	x.steps(5, 1)
	locks(locked, ok, locked, ok)
	x.steps(5, 1)
	locks(locked, ok, locked, locked)
	x.clockIs(0)
	x.steps(5, 2)
	locks(locked, ok, locked, locked)
	x.clockIs(1)
	x.has(0, 10, 20, 30, 1, 21, 31)
	x.steps(5, 3)
	locks(stale, ok, locked, locked)
	x.steps(5, 3)
	locks(stale, ok, stale, locked)
	x.starts(5, 0)
	x.has(1, 10, 21, 30, 1, 21, 31)
	x.steps(5, 4)
	locks(stale, ok, stale, stale)
	x.starts(5, -1)
	x.has(1, 10, 21, 31)
	x.clockIs(1)
	for n, version := range []int{1, 0, 1, 1} {
		x.versionIs(n, version)
	}
	x.refusesStep(5, api.ErrArg)
}

// P18.3: a lock that is another thread's is ErrLocked, and is not waited for by going on to the next var.
func TestStepOfWhatIsLocked(t *testing.T) {
	x := vars(t, 0, 1, 2)
	x.begin(0, 1)
	x.ok(x.Write(0, 1, 11), x.Write(1, 0, 20), x.Write(1, 1, 21), x.Write(1, 2, 22))
	x.steps(0, 1)
	x.steps(1, 1)
	for range 3 {
		x.refusesStep(1, api.ErrLocked)
	}
	x.begin(2)
	x.reads(2, 2, 2) // it has not been locked
	x.refusesRead(2, 0, api.ErrLocked)
	x.steps(0, 2)
	x.refusesStep(1, api.ErrLocked)
	x.steps(0, 4)
	x.steps(1, 1, 1, 2, 3, 3, 4)
	x.has(20, 21, 22)
	for n := range 3 {
		x.versionIs(n, 2)
	}
}

// P18.3: what is written, but was not read, may be stale.
func TestStepOfWhatIsStale(t *testing.T) {
	x := vars(t, 0, 1)
	x.begin(0)
	x.reads(0, 1, 1)
	x.ok(x.Write(0, 0, 5))
	x.changes(1, 0, 6)
	x.steps(0, 1, 2, 4)
	x.has(5, 1)
	x.versionIs(0, 2)
}

// P18.3: a lock of its own is none of another thread's: what it has read and written it may lock.
func TestStepOfWhatWasRead(t *testing.T) {
	x := vars(t, 0, 1)
	x.begin(0)
	x.reads(0, 0, 0)
	x.reads(0, 1, 1)
	x.ok(x.Write(0, 0, 5), x.Write(0, 1, 6))
	x.steps(0, 1, 1, 2, 3, 4)
	x.has(5, 6)
}

// P18.3: once all is locked, Valid's error is told, as often as it is asked for, and the locks stay.
func TestStepThatIsNotValid(t *testing.T) {
	x := vars(t, 0, 1, 2)
	x.begin(0, 1)
	x.reads(0, 1, 1)
	x.reads(0, 2, 2)
	x.ok(x.Write(0, 0, 5), x.Write(1, 1, 6), x.Write(1, 2, 7))
	x.steps(1, 1)
	x.steps(0, 1)
	x.refusesStep(0, api.ErrLocked)
	x.clockIs(0)
	x.steps(1, 1, 2)
	x.refusesStep(0, api.ErrLocked)
	x.steps(1, 3)
	x.refusesStep(0, api.ErrStale)
	x.steps(1, 4)
	for range 3 {
		x.refusesStep(0, api.ErrStale)
		x.starts(0, 0)
		x.hasRead(0, 1, 2)
		x.has(0, 6, 7, 5)
		x.clockIs(1)
	}
	x.begin(2)
	x.refusesRead(2, 0, api.ErrLocked)
	x.ok(x.Abort(0))
	x.reads(2, 0, 0)
}

// P18.3: what is locked by another one may be free again, then the commit goes on.
func TestStepThatIsValidAgain(t *testing.T) {
	x := vars(t, 0, 1)
	x.begin(0, 1)
	x.reads(0, 1, 1)
	x.ok(x.Write(0, 0, 5), x.Write(1, 1, 6))
	x.steps(1, 1)
	x.steps(0, 1)
	x.refusesStep(0, api.ErrLocked)
	x.ok(x.Abort(1))
	x.steps(0, 2, 4)
	x.has(5, 1)
}

// P18.3: without writes a commit is one step, and leaves the clock as it is; it may be refused, too.
func TestStepWithoutWrites(t *testing.T) {
	x := vars(t, 0, 1)
	x.begin(0, 1, 2, 3)
	x.steps(3, 4)
	x.starts(3, -1)
	for n := range 3 {
		x.reads(n, 0, 0)
	}
	x.reads(2, 1, 1)
	x.steps(0, 4)
	x.starts(0, -1)
	x.clockIs(0)
	x.begin(3)
	x.ok(x.Write(3, 1, 6))
	x.steps(3, 1)
	x.steps(1, 4)
	x.refusesStep(2, api.ErrLocked)
	x.starts(2, 0)
	x.steps(3, 2)
	x.refusesStep(2, api.ErrLocked)
	x.steps(3, 4)
	x.refusesStep(2, api.ErrStale)
	x.starts(2, 0)
	x.is(x.Valid(2), api.ErrArg) // it commits
	x.ok(x.Abort(2))
	x.clockIs(1)
}

// P18.3: with more than one part a Step is ErrArg, and changes nothing: it doesn't commit by it.
func TestStepWithParts(t *testing.T) {
	x := vars(t, 0)
	x.begin(0, 1)
	x.ok(x.Write(0, 0, 3), x.Part(0))
	x.refusesStep(0, api.ErrArg)
	x.ok(x.Write(0, 0, 4), x.Valid(0))
	x.reads(1, 0, 0)
	x.ok(x.Part(0))
	x.refusesStep(0, api.ErrArg)
	x.ok(x.Join(0))
	x.refusesStep(0, api.ErrArg)
	x.ok(x.Undo(0))
	x.steps(0, 1, 2, 4)
	x.has(3)
}

// P18.3: two commits may be under way; each has the clock that its own step 2 came to.
func TestTwoCommits(t *testing.T) {
	x := vars(t, 0, 1, 2, 3)
	x.begin(0, 1, 2)
	x.ok(x.Write(0, 0, 10), x.Write(0, 2, 12), x.Write(1, 1, 21), x.Write(1, 3, 23))
	x.steps(0, 1)
	x.steps(1, 1)
	x.steps(0, 1)
	x.steps(1, 1, 2)
	x.steps(0, 2)
	x.clockIs(2)
	x.begin(3)
	x.starts(3, 2)
	x.steps(0, 3, 4)
	x.steps(1, 3, 4)
	x.has(10, 21, 12, 23)
	for n, version := range []int{2, 1, 2, 1} {
		x.versionIs(n, version)
	}
	for n := range 4 {
		x.refusesRead(2, n, api.ErrStale)
	}
	for n, v := range []int{10, 21, 12, 23} {
		x.reads(3, n, v)
	}
}

// P18.3: a transaction commits from its first Step on, whatever that tells but ErrArg; most is ErrArg then.
func TestWhileItCommits(t *testing.T) {
	x := vars(t, 0, 1)
	refuses := func() {
		t.Helper()
		x.refusesRead(0, 0, api.ErrArg)
		x.refusesRead(0, 1, api.ErrArg)
		for _, e := range []api.Errno{x.Write(0, 0, 9), x.Write(0, 1, 9), x.Part(0), x.Join(0), x.Undo(0), x.Valid(0), x.Begin(0)} {
			x.is(e, api.ErrArg)
		}
		x.starts(0, 0)
		x.hasRead(0, 1)
	}
	begins := func() {
		t.Helper()
		x.begin(0)
		x.reads(0, 1, 1)
		x.ok(x.Write(0, 0, 5))
	}
	begins()
	x.begin(1)
	x.ok(x.Write(1, 0, 6))
	x.steps(1, 1)
	x.refusesStep(0, api.ErrLocked)
	refuses()
	x.ok(x.Abort(1))
	x.steps(0, 1)
	refuses()
	x.ok(x.Abort(0))
	begins()
	x.begin(1)
	x.ok(x.Write(1, 1, 6))
	x.steps(1, 1)
	x.steps(0, 1)
	x.refusesStep(0, api.ErrLocked)
	refuses()
	x.ok(x.Abort(1))
	x.steps(0, 2)
	refuses()
	x.has(0, 1, 5)
	x.steps(0, 4)
	x.has(5, 1)
}

// P18.4: Abort ends a transaction wherever it is, but behind a step 2; its locks are free, and nothing has come of it.
func TestAbort(t *testing.T) {
	x := vars(t, 0, 1, 2)
	x.begin(7)
	for steps := range 5 {
		x.is(x.Abort(0), api.ErrArg)
		x.begin(0)
		x.reads(0, 2, 2)
		x.ok(x.Write(0, 1, 5), x.Write(0, 0, 6))
		x.steps(0, []int{1, 1, 2, 3, 4}[:steps]...)
		if steps < 3 {
			x.ok(x.Abort(0))
			x.starts(0, -1)
			x.has(0, 1, 2)
			x.reads(7, 0, 0)
			x.reads(7, 1, 1)
			x.clockIs(0)
			continue
		}
		x.is(x.Abort(0), api.ErrArg)
		x.starts(0, steps-3)
		x.steps(0, []int{1, 1, 2, 3, 4}[steps:]...)
		x.has(6, 5, 2)
		x.is(x.Abort(0), api.ErrArg)
	}
}

// P18.4: Abort frees no lock of another thread.
func TestAbortOfOne(t *testing.T) {
	x := vars(t, 0, 1)
	x.begin(0, 1, 2, 3)
	for n := range 3 {
		x.ok(x.Write(n, 0, n), x.Write(n, 1, n))
	}
	x.steps(0, 1)
	x.refusesStep(1, api.ErrLocked)
	x.ok(x.Part(2), x.Write(2, 0, 7))
	x.ok(x.Abort(1), x.Abort(2))
	x.refusesRead(3, 0, api.ErrLocked)
	x.reads(3, 1, 1)
	x.steps(0, 1)
	x.refusesRead(3, 1, api.ErrLocked)
	x.steps(0, 2, 3, 4)
	x.has(0, 0)
}

// P18.4: a transaction with parts can end, too; the next one has one part, without writes.
func TestAbortWithParts(t *testing.T) {
	x := vars(t, 0)
	x.begin(0)
	x.ok(x.Write(0, 0, 1), x.Part(0), x.Write(0, 0, 2), x.Abort(0))
	x.has(0)
	x.begin(0)
	x.has(0)
	x.is(x.Join(0), api.ErrArg)
	x.reads(0, 0, 0)
	x.steps(0, 4)
	x.clockIs(0)
}

// P18.4: Newer tells whether the version is above a number, of vars that there are.
func TestNewer(t *testing.T) {
	x := vars(t, 0, 0)
	for range 3 {
		x.changes(0, 1, 0)
	}
	for n, version := range []int{0, 3} {
		for _, than := range []int{math.MinInt, -1, 0, 1, 2, 3, 4, math.MaxInt} {
			if got := x.Newer(n, than); got != (version > than) {
				t.Errorf("Newer(%d, %d) is %v", n, than, got)
			}
		}
	}
	for _, n := range []int{-1, 2, math.MinInt, math.MaxInt} {
		if x.Newer(n, math.MinInt) {
			t.Errorf("var %d has a version", n)
		}
		if v, e := x.Value(n); v != 0 || e != api.ErrArg {
			t.Errorf("var %d is %d, %v", n, v, e)
		}
	}
}

// P18.5: Words tells the vars' values, then those of the writes: thread by thread, part by part, var by var.
func TestWords(t *testing.T) {
	x := vars(t, 100, 101, 102)
	x.begin(6, 2, 0, 4)
	x.ok(x.Write(6, 2, 1), x.Write(6, 0, 2), x.Part(6), x.Part(6), x.Write(6, 1, 3), x.Write(6, 0, 4))
	x.ok(x.Write(2, 2, 5), x.Write(2, 1, 6), x.Write(2, 0, 7))
	x.ok(x.Write(0, 1, 8), x.Part(0), x.Write(0, 1, 9))
	x.has(100, 101, 102, 8, 9, 7, 6, 5, 2, 1, 4, 3)
	x.Set([]int{1, 2, 3, 4, 5, 6, 7, 8, 9, 10, 11, 12})
	x.has(1, 2, 3, 4, 5, 6, 7, 8, 9, 10, 11, 12)
	x.reads(6, 2, 10)
	x.reads(6, 1, 12)
	x.reads(4, 2, 3)
	x.ok(x.Undo(6))
	x.reads(6, 0, 9)
	x.ok(x.Undo(0))
	x.reads(0, 1, 4)
	x.steps(2, 1, 1, 1, 2, 3, 3, 4)
	x.has(6, 7, 8, 4, 9, 10)
}

// P18.5: Set changes no version, no lock, and not what is read.
func TestSetLeavesTheRest(t *testing.T) {
	x := vars(t, 100, 101)
	x.begin(0, 1, 2)
	x.reads(0, 0, 100)
	x.ok(x.Write(1, 1, 7), x.Write(0, 1, 8))
	x.steps(1, 1)
	x.Set([]int{1, 2, 3, 4})
	x.has(1, 2, 3, 4)
	x.ok(x.Valid(0))
	x.hasRead(0, 0)
	x.reads(0, 0, 1)
	x.reads(0, 1, 3)
	x.refusesRead(2, 1, api.ErrLocked)
	x.versionIs(0, 0)
	x.clockIs(0)
	x.steps(1, 2)
	x.Set([]int{1, 2, 3, 5})
	x.steps(1, 4)
	x.has(1, 5, 3)
	x.versionIs(1, 1)
}

// P18.5: of a commit of which some is done all writes are told, also those that the vars have by now.
func TestWordsWhileItCommits(t *testing.T) {
	x := vars(t, 100, 101, 102)
	x.begin(0)
	x.ok(x.Write(0, 0, 1), x.Write(0, 1, 2), x.Write(0, 2, 3))
	for n, step := range []int{1, 1, 1, 2, 3, 3} {
		want := []int{100, 101, 102, 1, 2, 3}
		copy(want, want[3:3+max(0, n-4)])
		x.has(want...)
		x.steps(0, step)
	}
	x.has(1, 2, 102, 1, 2, 3)
	x.Set([]int{4, 5, 6, 7, 8, 9})
	x.has(4, 5, 6, 7, 8, 9)
	x.steps(0, 4)
	x.has(4, 5, 9)
}

// P18.5: of too few words, or too many, nothing is set.
func TestSetOfOtherNumbersOfWords(t *testing.T) {
	x := vars(t, 100, 101)
	x.begin(3)
	x.ok(x.Write(3, 1, 7))
	for _, many := range []int{0, 1, 2, 4, 5, 100} {
		x.Set(make([]int, many))
		x.has(100, 101, 7)
	}
	x.Set(make([]int, 3))
	x.has(0, 0, 0)
}
