package verify

import "selvage/api"

// walk goes through a function, from its first instruction on, to wherever an instruction goes.
type walk struct {
	code   api.Code
	number int // the function's
	body   api.Body
	ops    map[int]rule
	states []state // at each instruction, the one with which it is reached
	open   []int   // those that are reached, but not gone on from
}

// begin is a walk to which no instruction is known.
func begin(c api.Code, f int, ops map[int]rule) *walk {
	w := &walk{code: c, number: f, body: c.Funs[f], ops: ops}
	w.states = make([]state, len(w.body.Code))
	for at := range w.states {
		w.states[at].depth = unreached
	}
	return w
}

// holds tells whether the function holds together.
func (w *walk) holds() bool {
	ok := w.reach(0, state{})
	for ok && len(w.open) > 0 {
		last := len(w.open) - 1
		at := w.open[last]
		w.open = w.open[:last]
		ok = w.step(at)
	}
	return ok
}

// reach comes to an instruction with a state; false, if it may not be reached so.
func (w *walk) reach(at int, s state) bool {
	if at >= len(w.states) || s.depth > w.body.Stack {
		return false
	}
	if w.states[at].depth != unreached {
		return w.states[at].same(s)
	}
	w.states[at] = s
	w.open = append(w.open, at)
	return true
}

// step goes on from an instruction; false, if it is wrong, or goes where it may not.
func (w *walk) step(at int) bool {
	i, s := w.body.Code[at], w.states[at]
	takes, puts, right := w.ops[i.Op](w, i)
	if !right || s.depth-s.base() < takes {
		return false
	}
	s.depth += puts - takes
	return w.leave(at, i, s)
}

// leave brings what an instruction leaves to wherever it goes; false, if the marks are not what it needs.
func (w *walk) leave(at int, i api.Instr, s state) bool {
	next := at + 1
	switch i.Op {
	case api.OpTail, api.OpReturn:
		return len(s.marks) == 0
	case api.OpRaise, api.OpRetry:
		return true
	case api.OpJump:
		return w.reach(i.A, s)
	case api.OpFalse:
		return w.reach(next, s) && w.reach(i.A, s)
	case api.OpCase:
		return w.reach(next, s) && w.reach(i.B, s)
	case api.OpTry:
		return w.reach(next, s.with(api.OpTry)) && w.reach(i.A, state{s.depth + 1, s.marks})
	case api.OpElse:
		return w.reach(next, s.with(api.OpElse)) && w.reach(i.A, s)
	case api.OpBegin:
		return !s.has(api.OpBegin) && w.reach(next, s.with(api.OpBegin))
	case api.OpDone:
		return s.last(api.OpTry) && w.reach(next, s.without())
	case api.OpCommit:
		return s.last(api.OpBegin) && w.reach(next, s.without())
	case api.OpJoined:
		return s.last(api.OpElse) && w.reach(next, s.without())
	}
	return w.reach(next, s)
}
