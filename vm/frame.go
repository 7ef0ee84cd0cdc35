package vm

import (
	"slices"

	"selvage/api"
	"selvage/heap"
	"selvage/ints"
	"selvage/prims"
)

// nought is the word of 0.
const nought = 1

// mark is something begun that is not over: by which Op, how deep the stack was, and where to go.
type mark struct{ op, depth, to int }

// frame is a function that a thread is in.
type frame struct {
	fun     int
	closure int // a word
	next    int // the next instruction
	locals  []int
	stack   []int
	marks   []mark // the youngest one last
}

// function is the one of a closure; false, if w is none of a function of c.
func function(c api.Code, h *heap.Heap, w int) (int, bool) {
	fun, _, e := prims.Open(h, w)
	return fun, e == api.OK && fun < len(c.Funs)
}

// enter is a new frame of a function, which must be one of c.
func enter(c api.Code, fun, closure, with int) frame {
	// A code that may not be could ask for more locals than there is memory.
	many := min(max(c.Funs[fun].Locals, 0), api.MaxLocals)
	f := frame{fun: fun, closure: closure, locals: slices.Repeat([]int{nought}, many)}
	if many > 0 {
		f.locals[0] = with
	}
	return f
}

// like is a frame with lists of its own.
func (f frame) like() frame {
	f.locals = slices.Clone(f.locals)
	f.stack = slices.Clone(f.stack)
	f.marks = slices.Clone(f.marks)
	return f
}

// cut makes the stack no deeper than a mark's depth; false, if it is less deep, as a code that does not hold together may have it.
func (f *frame) cut(depth int) bool {
	if depth > len(f.stack) {
		return false
	}
	f.stack = f.stack[:depth]
	return true
}

// lastElse is the place of the youngest mark of Else; -1, if there is none.
func (f *frame) lastElse() int {
	n := len(f.marks) - 1
	for n >= 0 && f.marks[n].op != api.OpElse {
		n--
	}
	return n
}

// youngest is the youngest frame, of a thread that has one.
func (t *Thread) youngest() *frame {
	return &t.frames[len(t.frames)-1]
}

// each goes through all words of the frames, in the order of Roots.
func (t *Thread) each(do func(w *int)) {
	for i := range t.frames {
		f := &t.frames[i]
		do(&f.closure)
		for n := range f.locals {
			do(&f.locals[n])
		}
		for n := range f.stack {
			do(&f.stack[n])
		}
	}
}

// raise is what an instruction does that comes to an error: it goes out with the next step.
func (t *Thread) raise(n int) api.Act {
	t.raises, t.raised = true, n
	return api.Act{}
}

// leave goes out to the youngest mark, or out of all frames.
func (t *Thread) leave() api.Act {
	for t.Alive() {
		f := t.youngest()
		if last := len(f.marks) - 1; last >= 0 {
			m := f.marks[last]
			f.marks = f.marks[:last]
			return t.leaveMark(f, m)
		}
		t.frames = t.frames[:len(t.frames)-1]
	}
	return api.Act{Kind: api.ActFault, Number: t.raised}
}

// leaveMark is what an error does at a mark.
func (t *Thread) leaveMark(f *frame, m mark) api.Act {
	if !f.cut(m.depth) {
		return api.Act{Kind: api.ActBad}
	}
	switch m.op {
	case api.OpElse:
		return api.Act{Kind: api.ActJoined}
	case api.OpBegin:
		return api.Act{Kind: api.ActLeave}
	}
	t.Put(ints.Tag(t.raised))
	f.next = m.to
	t.raises = false
	return api.Act{}
}
