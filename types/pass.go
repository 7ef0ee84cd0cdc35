package types

import (
	"maps"

	"selvage/api"
)

// pass is a state that is tried: what it binds is the pass's own, till all is well.
type pass struct {
	State
	pairs map[[2]int]struct{} // names that were gone into together, by their numbers
}

// Unify makes two types one.
func (s *State) Unify(a, b api.Type) api.Errno {
	if !s.May(a) || !s.May(b) {
		return api.ErrArg
	}
	p := s.pass()
	x, y := p.met(a), p.met(b)
	e := p.one(x, y)
	// Whichever binding made a loop, it was ahead of the names that can't be made one, for there the pass was over. What is bound stands in both types.
	if p.loops(x) {
		return api.ErrLoop
	}
	if e != api.OK {
		return e
	}
	if _, may := p.applied(x); !may {
		return api.ErrArg
	}
	s.keep(p)
	return api.OK
}

// pass is one that has bound nothing yet.
func (s *State) pass() *pass {
	tried := State{vars: s.vars, names: s.names, bound: map[int]*part{}, ahead: s.bound}
	return &pass{State: tried, pairs: map[[2]int]struct{}{}}
}

// keep takes a copy of what a pass has bound.
func (s *State) keep(p *pass) {
	s.names = p.names
	maps.Copy(s.bound, p.bound)
}

// one makes two parts one, from the left on, up to names that can't be; loops are let be. Two names are gone into together only once: they are one
// behind that, and within it they are met again only if there is a loop.
func (p *pass) one(x, y *part) api.Errno {
	todo := [][2]*part{{x, y}} // the last two are next
	for len(todo) > 0 {
		next := todo[len(todo)-1]
		todo = todo[:len(todo)-1]
		x, y := p.is(next[0]), p.is(next[1])
		pair := [2]int{x.number, y.number}
		if _, gone := p.pairs[pair]; gone || x.number == y.number {
			continue
		}
		switch {
		case x.number > 0:
			p.bound[x.number] = y
		case y.number > 0:
			p.bound[y.number] = x
		case x.name != y.name || len(x.args) != len(y.args):
			return api.ErrType
		default:
			p.pairs[pair] = struct{}{}
			for i := len(x.args) - 1; i >= 0; i-- {
				todo = append(todo, [2]*part{x.args[i], y.args[i]})
			}
		}
	}
	return api.OK
}

// loops tells whether anything in what a part is, is a part of itself.
func (p *pass) loops(x *part) bool {
	const (
		open = 1 + iota // the way from x to what is gone through leads through it
		done
	)
	was := map[int]int{}
	todo := []*part{p.is(x)} // the last one is next
	for len(todo) > 0 {
		x := todo[len(todo)-1]
		if was[x.number] != 0 {
			was[x.number] = done
			todo = todo[:len(todo)-1]
			continue
		}
		was[x.number] = open
		for _, arg := range x.args {
			arg = p.is(arg)
			if was[arg.number] == open {
				return true
			}
			todo = append(todo, arg)
		}
	}
	return false
}
