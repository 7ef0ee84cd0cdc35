package core

import (
	"slices"

	"selvage/api"
)

// scope is what names mean at a place within a function.
type scope struct {
	around *scope     // that of the function around it, where its closure is made
	self   string     // the name of its own closure; empty, if it has none
	locals []string   // the names of those around, by their numbers; empty, if no name means it
	most   int        // how many locals there ever were at once
	kept   []api.Core // what its closure keeps, as it is in the function around it
}

// adds makes a local of a name, and tells its number.
func (s *scope) adds(name string) int {
	s.locals = append(s.locals, name)
	s.most = max(s.most, len(s.locals))
	return len(s.locals) - 1
}

// leaves ends the locals from a number on.
func (s *scope) leaves(local int) { s.locals = s.locals[:local] }

// means is what a name means; false, if none but one of the program's lets may have it.
func (s *scope) means(name string) (api.Core, bool) {
	for local, other := range slices.Backward(s.locals) {
		if other == name {
			return api.Core{Kind: api.CoreLocal, Number: local}, true
		}
	}
	if s.self == name {
		return api.Core{Kind: api.CoreSelf}, true
	}
	if s.around == nil {
		return api.Core{}, false
	}
	is, known := s.around.means(name)
	if !known {
		return api.Core{}, false
	}
	return api.Core{Kind: api.CoreKept, Number: s.keeps(is)}, true
}

// keeps has something be kept, which is told as it is in the function around, and tells at which place.
func (s *scope) keeps(is api.Core) int {
	same := func(k api.Core) bool { return k.Kind == is.Kind && k.Number == is.Number }
	if at := slices.IndexFunc(s.kept, same); at >= 0 {
		return at
	}
	s.kept = append(s.kept, is)
	return len(s.kept) - 1
}
