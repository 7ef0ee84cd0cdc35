package verify

import "slices"

// unreached is the depth of an instruction to which nothing has come.
const unreached = -1

// mark is something begun that is not over: the Op that began it, and the depth there.
type mark struct{ kind, depth int }

// state is what there is at an instruction: how many things its stack has, and marks, the oldest one first.
type state struct {
	depth int
	marks []mark
}

// base is the depth below which nothing may be taken.
func (s state) base() int {
	if len(s.marks) == 0 {
		return 0
	}
	return s.marks[len(s.marks)-1].depth
}

// has tells whether there is a mark of a kind.
func (s state) has(kind int) bool {
	return slices.ContainsFunc(s.marks, func(m mark) bool { return m.kind == kind })
}

// last tells whether the last mark is of a kind.
func (s state) last(kind int) bool {
	return len(s.marks) > 0 && s.marks[len(s.marks)-1].kind == kind
}

// with is the state with a mark more; its marks are new, for those that were may be another state's too.
func (s state) with(kind int) state {
	return state{s.depth, append(slices.Clip(s.marks), mark{kind, s.depth})}
}

// without is the state without its last mark.
func (s state) without() state {
	return state{s.depth, s.marks[:len(s.marks)-1]}
}

// same tells whether two states are one.
func (s state) same(t state) bool {
	return s.depth == t.depth && slices.Equal(s.marks, t.marks)
}
