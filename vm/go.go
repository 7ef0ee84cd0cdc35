package vm

import (
	"selvage/api"
	"selvage/ints"
	"selvage/prims"
)

// The errors that are raised by no Raise.
const (
	noDivisor = -1
	tooLong   = -2
)

func (s *step) call(_ api.Instr, taken []int) api.Act {
	fun, is := function(s.code, s.heap, taken[0])
	if !is {
		return bad()
	}
	if len(s.frames) >= api.MaxFrames {
		return api.Act{Kind: api.ActDeep}
	}
	s.frames = append(s.frames, enter(s.code, fun, taken[0], taken[1]))
	return api.Act{}
}

// tail leaves as many frames as there are, so that there are never too many.
func (s *step) tail(_ api.Instr, taken []int) api.Act {
	fun, is := function(s.code, s.heap, taken[0])
	if !is {
		return bad()
	}
	*s.youngest() = enter(s.code, fun, taken[0], taken[1])
	return api.Act{}
}

func (s *step) goBack(_ api.Instr, taken []int) api.Act {
	s.frames = s.frames[:len(s.frames)-1]
	if !s.Alive() {
		return api.Act{Kind: api.ActEnd, Word: taken[0]}
	}
	s.Put(taken[0])
	return api.Act{}
}

func (s *step) jump(i api.Instr, _ []int) api.Act {
	s.youngest().next = i.A
	return api.Act{}
}

func (s *step) jumpIfFalse(i api.Instr, taken []int) api.Act {
	n, integer := ints.Untag(taken[0])
	if !integer {
		return bad()
	}
	if n == 0 {
		s.youngest().next = i.A
	}
	return api.Act{}
}

func (s *step) jumpIfCase(i api.Instr, taken []int) api.Act {
	n, e := prims.Case(s.heap, taken[0])
	if e != api.OK {
		return bad()
	}
	if n == i.A {
		s.youngest().next = i.B
	}
	return api.Act{}
}

// begin puts a mark of Try, Begin or Else.
func (s *step) begin(i api.Instr, _ []int) api.Act {
	f := s.youngest()
	f.marks = append(f.marks, mark{i.Op, len(f.stack), i.A})
	switch i.Op {
	case api.OpBegin:
		return api.Act{Kind: api.ActBegin}
	case api.OpElse:
		return api.Act{Kind: api.ActElse}
	}
	return api.Act{}
}

// end takes the last mark away, which must be the one that the Op ends.
func (s *step) end(i api.Instr, _ []int) api.Act {
	begun, kind := api.OpTry, api.ActNone
	switch i.Op {
	case api.OpCommit:
		begun, kind = api.OpBegin, api.ActCommit
	case api.OpJoined:
		begun, kind = api.OpElse, api.ActJoined
	}
	f := s.youngest()
	last, there := at(f.marks, len(f.marks)-1)
	if !there || last.op != begun {
		return bad()
	}
	f.marks = f.marks[:len(f.marks)-1]
	return api.Act{Kind: kind}
}

func (s *step) raiseTop(_ api.Instr, taken []int) api.Act {
	n, integer := ints.Untag(taken[0])
	if !integer {
		return bad()
	}
	return s.raise(n)
}

func (s *step) print(_ api.Instr, taken []int) api.Act {
	text, e := prims.Str(s.heap, taken[0])
	if e != api.OK {
		return bad()
	}
	s.Put(nought)
	return api.Act{Kind: api.ActPrint, Text: text}
}

func (s *step) spawn(_ api.Instr, taken []int) api.Act {
	w := taken[0]
	if _, is := function(s.code, s.heap, w); !is {
		return bad()
	}
	s.Put(nought)
	return api.Act{Kind: api.ActSpawn, Word: w}
}

func (s *step) retry(api.Instr, []int) api.Act {
	return api.Act{Kind: api.ActRetry}
}

func (s *step) tvar(_ api.Instr, taken []int) api.Act {
	return api.Act{Kind: api.ActTvar, Word: taken[0]}
}

func (s *step) read(_ api.Instr, taken []int) api.Act {
	if !isVar(taken[0]) {
		return bad()
	}
	return api.Act{Kind: api.ActRead, Word: taken[0]}
}

func (s *step) write(_ api.Instr, taken []int) api.Act {
	if !isVar(taken[0]) {
		return bad()
	}
	return api.Act{Kind: api.ActWrite, Word: taken[0], Other: taken[1]}
}

// isVar tells whether a word may be a var: it is a number's. Which vars there are is known to who is asked.
func isVar(w int) bool {
	_, integer := ints.Untag(w)
	return integer
}
