package tl2

import (
	"slices"

	"selvage/api"
)

// isThread tells whether there is such a thread.
func isThread(t int) bool {
	return t >= 0 && t < api.MaxThreads
}

// isVar tells whether there is such a var.
func (e *Engine) isVar(n int) bool {
	return n >= 0 && n < len(e.vars)
}

// of is a thread's transaction; nil, if it has none.
func (e *Engine) of(t int) *transaction {
	if !isThread(t) {
		return nil
	}
	return e.threads[t]
}

// open is a thread's transaction that does not commit; nil, if it has none.
func (e *Engine) open(t int) *transaction {
	x := e.of(t)
	if x == nil || x.commits {
		return nil
	}
	return x
}

// youngest is what the youngest part writes.
func (x *transaction) youngest() map[int]int {
	return x.parts[len(x.parts)-1]
}

// drop takes the youngest part away.
func (x *transaction) drop() {
	last := len(x.parts) - 1
	x.parts[last] = nil // else what it wrote would be kept behind the others
	x.parts = x.parts[:last]
}

// own is what the youngest part that writes a var has for it; false, if none does.
func (x *transaction) own(n int) (int, bool) {
	for _, writes := range slices.Backward(x.parts) {
		if v, there := writes[n]; there {
			return v, true
		}
	}
	return 0, false
}

// sound tells whether a thread's transaction may take a var's value: it is not locked for it, and not stale.
func (e *Engine) sound(t, n int) api.Errno {
	v := e.vars[n]
	switch {
	case v.lock != free && v.lock != t:
		return api.ErrLocked
	case v.version > e.threads[t].start:
		return api.ErrStale
	}
	return api.OK
}

// allSound asks it of all vars that were read.
func (e *Engine) allSound(t int) api.Errno {
	for _, n := range e.threads[t].reads {
		if f := e.sound(t, n); f != api.OK {
			return f
		}
	}
	return api.OK
}

// each makes each value another one, in the order of Words.
func (e *Engine) each(other func(v int) int) {
	for n := range e.vars {
		e.vars[n].value = other(e.vars[n].value)
	}
	for _, x := range e.threads {
		if x == nil {
			continue
		}
		for _, writes := range x.parts {
			for _, n := range rising(writes) {
				writes[n] = other(writes[n])
			}
		}
	}
}

// rising is the vars that are written.
func rising(writes map[int]int) []int {
	l := make([]int, 0, len(writes))
	for n := range writes {
		l = append(l, n)
	}
	slices.Sort(l)
	return l
}
