package vm

import (
	"selvage/api"
	"selvage/heap"
	"selvage/ints"
	"selvage/prims"
)

// step is a step of a thread that raises nothing: the thread, and what it is done with.
type step struct {
	*Thread
	code api.Code
	heap *heap.Heap
	lets []int
}

// how is the way in which an instruction is done, with the words that it has taken, the topmost one last.
type how func(s *step, i api.Instr, taken []int) api.Act

// hows are those of all Ops.
func hows() map[int]how {
	return map[int]how{
		api.OpInt:    (*step).putInt,
		api.OpText:   (*step).putText,
		api.OpLocal:  (*step).putLocal,
		api.OpKept:   (*step).putKept,
		api.OpSelf:   (*step).putSelf,
		api.OpName:   (*step).putName,
		api.OpSet:    (*step).setLocal,
		api.OpStore:  (*step).setName,
		api.OpPop:    (*step).drop,
		api.OpMake:   (*step).makeBlock,
		api.OpFun:    (*step).makeClosure,
		api.OpField:  (*step).field,
		api.OpCall:   (*step).call,
		api.OpTail:   (*step).tail,
		api.OpReturn: (*step).goBack,
		api.OpJump:   (*step).jump,
		api.OpFalse:  (*step).jumpIfFalse,
		api.OpCase:   (*step).jumpIfCase,
		api.OpSum:    (*step).sum,
		api.OpJoin:   (*step).join,
		api.OpTry:    (*step).begin,
		api.OpDone:   (*step).end,
		api.OpRaise:  (*step).raiseTop,
		api.OpPrint:  (*step).print,
		api.OpSpawn:  (*step).spawn,
		api.OpBegin:  (*step).begin,
		api.OpCommit: (*step).end,
		api.OpElse:   (*step).begin,
		api.OpJoined: (*step).end,
		api.OpRetry:  (*step).retry,
		api.OpTvar:   (*step).tvar,
		api.OpRead:   (*step).read,
		api.OpWrite:  (*step).write,
	}
}

// takes is how many words an instruction takes.
func takes(i api.Instr) int {
	switch i.Op {
	case api.OpMake, api.OpFun:
		return i.B
	case api.OpCall, api.OpTail, api.OpSum, api.OpJoin, api.OpWrite:
		return 2
	case api.OpSet, api.OpStore, api.OpPop, api.OpField, api.OpReturn, api.OpFalse, api.OpCase, api.OpRaise, api.OpPrint, api.OpSpawn, api.OpTvar, api.OpRead:
		return 1
	}
	return 0
}

// next does the next instruction.
func (s *step) next() api.Act {
	f := s.youngest()
	i, there := s.instruction(f)
	do := hows()[i.Op]
	left := len(f.stack) - takes(i)
	if !there || do == nil || left < 0 || left > len(f.stack) {
		return bad()
	}
	was := *f
	f.next++
	f.stack = f.stack[:left]
	a := do(s, i, was.stack[left:])
	if a.Kind == api.ActRoom || a.Kind == api.ActDeep {
		// No frame was left or entered, and nothing was put over what was taken.
		*f = was
	}
	return a
}

// instruction is a frame's next one, if there is one.
func (s *step) instruction(f *frame) (api.Instr, bool) {
	body, _ := at(s.code.Funs, f.fun)
	return at(body.Code, f.next)
}

// at is what stands at a place of a list; false, if there is no such place.
func at[T any](list []T, i int) (T, bool) {
	if i < 0 || i >= len(list) {
		var none T
		return none, false
	}
	return list[i], true
}

// bad is the act of whatever there is none of.
func bad() api.Act {
	return api.Act{Kind: api.ActBad}
}

// puts puts a word that there is.
func (s *step) puts(w int, there bool) api.Act {
	if !there {
		return bad()
	}
	s.Put(w)
	return api.Act{}
}

// made puts what was made, if it could be.
func (s *step) made(w int, e api.Errno) api.Act {
	if e == api.ErrRoom {
		return api.Act{Kind: api.ActRoom}
	}
	return s.puts(w, e == api.OK)
}

// sets takes a word into a place of a list, if there is one.
func sets(list []int, i, w int) api.Act {
	if _, there := at(list, i); !there {
		return bad()
	}
	list[i] = w
	return api.Act{}
}

func (s *step) putInt(i api.Instr, _ []int) api.Act {
	n, there := at(s.code.Ints, i.A)
	return s.puts(ints.Tag(n), there)
}

func (s *step) putText(i api.Instr, _ []int) api.Act {
	text, there := at(s.code.Texts, i.A)
	if !there {
		return bad()
	}
	return s.made(prims.Text(s.heap, text))
}

func (s *step) putLocal(i api.Instr, _ []int) api.Act {
	return s.puts(at(s.youngest().locals, i.A))
}

func (s *step) putKept(i api.Instr, _ []int) api.Act {
	// What is no closure keeps nothing.
	_, kept, _ := prims.Open(s.heap, s.youngest().closure)
	return s.puts(at(kept, i.A))
}

func (s *step) putSelf(api.Instr, []int) api.Act {
	return s.puts(s.youngest().closure, true)
}

func (s *step) putName(i api.Instr, _ []int) api.Act {
	return s.puts(at(s.lets, i.A))
}

func (s *step) setLocal(i api.Instr, taken []int) api.Act {
	return sets(s.youngest().locals, i.A, taken[0])
}

func (s *step) setName(i api.Instr, taken []int) api.Act {
	return sets(s.lets, i.A, taken[0])
}

func (s *step) drop(api.Instr, []int) api.Act {
	return api.Act{}
}

func (s *step) makeBlock(i api.Instr, taken []int) api.Act {
	if i.A > api.MaxTag {
		// A heap has such tags, but they are no constructor's.
		return bad()
	}
	return s.made(s.heap.Make(i.A, taken))
}

func (s *step) makeClosure(i api.Instr, taken []int) api.Act {
	if _, there := at(s.code.Funs, i.A); !there {
		return bad()
	}
	return s.made(prims.Close(s.heap, i.A, taken))
}

func (s *step) field(i api.Instr, taken []int) api.Act {
	if s.heap.Tag(taken[0]) > api.MaxTag {
		return bad()
	}
	w, e := s.heap.Get(taken[0], i.A)
	return s.puts(w, e == api.OK)
}

func (s *step) sum(i api.Instr, taken []int) api.Act {
	w, e := prims.Sum(i.A, taken[0], taken[1])
	if e == api.ErrZero {
		return s.raise(noDivisor)
	}
	return s.puts(w, e == api.OK)
}

func (s *step) join(_ api.Instr, taken []int) api.Act {
	w, e := prims.Join(s.heap, taken[0], taken[1])
	if e == api.ErrLong {
		return s.raise(tooLong)
	}
	return s.made(w, e)
}
