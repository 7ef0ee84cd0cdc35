package tl2

import "selvage/api"

// What a step of a commit tells: what it has done.
const (
	locked = 1 + iota
	timed  // the clock is one more
	written
	over
)

// Step does a step of a commit.
func (e *Engine) Step(t int) (int, api.Errno) {
	x := e.of(t)
	if x == nil || len(x.parts) > 1 {
		return 0, api.ErrArg
	}
	if !x.commits {
		x.commits, x.left = true, rising(x.youngest())
	}
	switch {
	case x.version > 0:
		return e.put(t), api.OK
	case len(x.left) > 0:
		return e.lock(t)
	}
	return e.pass(t)
}

// Abort ends a transaction.
func (e *Engine) Abort(t int) api.Errno {
	x := e.of(t)
	if x == nil || x.version > 0 {
		return api.ErrArg
	}
	for n := range x.parts[0] {
		if e.vars[n].lock == t {
			e.vars[n].lock = free
		}
	}
	e.threads[t] = nil
	return api.OK
}

// lock locks the next var.
func (e *Engine) lock(t int) (int, api.Errno) {
	x := e.threads[t]
	v := &e.vars[x.left[0]]
	if v.lock != free {
		return 0, api.ErrLocked
	}
	v.lock = t
	x.left = x.left[1:]
	return locked, api.OK
}

// pass goes on from where all is locked, if what was read is so still.
func (e *Engine) pass(t int) (int, api.Errno) {
	if f := e.allSound(t); f != api.OK {
		return 0, f
	}
	x := e.threads[t]
	x.left = rising(x.youngest())
	if len(x.left) == 0 {
		e.threads[t] = nil
		return over, api.OK
	}
	e.clock++
	x.version = e.clock
	return timed, api.OK
}

// put writes the next var.
func (e *Engine) put(t int) int {
	x := e.threads[t]
	n := x.left[0]
	e.vars[n] = tvar{value: x.youngest()[n], version: x.version, lock: free}
	if x.left = x.left[1:]; len(x.left) > 0 {
		return written
	}
	e.threads[t] = nil
	return over
}
