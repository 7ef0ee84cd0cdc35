package types

import "selvage/api"

// General is a type's scheme. There is none by kept ones that are too great.
func (s *State) General(t api.Type, kept []api.Type) api.Scheme {
	is := s.Apply(t)
	if none(is) {
		return api.Scheme{}
	}
	held := map[int]struct{}{}
	for _, k := range kept {
		if none(s.Apply(k)) {
			return api.Scheme{}
		}
		for _, v := range s.Free(k) {
			held[v] = struct{}{}
		}
	}
	general := map[int]int{}
	for _, v := range s.Free(t) {
		if _, is := held[v]; !is {
			general[v] = len(general) + 1
		}
	}
	number := func(v int) int {
		if n, is := general[v]; is {
			return n
		}
		return len(general) + v
	}
	return api.Scheme{Many: len(general), Type: renumbered(is, number)}
}

// Instance is a scheme's type, with fresh variables.
func (s *State) Instance(c api.Scheme) api.Type {
	if c.Many < 0 || c.Many > most || !mayBe(c.Type, c.Many+s.vars) {
		return api.Type{}
	}
	first := s.vars
	s.vars += c.Many
	return renumbered(c.Type, func(v int) int {
		if v <= c.Many {
			return first + v
		}
		return v - c.Many
	})
}

// none tells whether a type is the zero one, which may not be.
func none(t api.Type) bool { return t.Var == 0 && t.Name == "" }

// renumbered is a type with other variables.
func renumbered(t api.Type, number func(v int) int) api.Type {
	if t.Var > 0 {
		return api.Type{Var: number(t.Var)}
	}
	u := api.Type{Name: t.Name}
	for _, arg := range t.Args {
		u.Args = append(u.Args, renumbered(arg, number))
	}
	return u
}
