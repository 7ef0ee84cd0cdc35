package types_test

import (
	"math/rand"
	"reflect"
	"slices"
	"strconv"
	"testing"

	"selvage/api"
	"selvage/types"
)

// model is a state in which what each variable is stands written out, as a tree; nothing is shared, and nothing is looked up twice.
type model struct {
	is []api.Type // of variable 1, 2, ..
}

func (m *model) fresh() { m.is = append(m.is, variable(len(m.is)+1)) }

// replaced is a type with other parts at the places of its variables.
func replaced(t api.Type, by func(v int) api.Type) api.Type {
	if t.Var != 0 {
		return by(t.Var)
	}
	u := con(t.Name)
	for _, arg := range t.Args {
		u.Args = append(u.Args, replaced(arg, by))
	}
	return u
}

func (m *model) apply(t api.Type) api.Type {
	return replaced(t, func(v int) api.Type { return m.is[v-1] })
}

// free are the variables in a type.
func free(t api.Type) []int {
	if t.Var != 0 {
		return []int{t.Var}
	}
	var l []int
	for _, arg := range t.Args {
		for _, v := range free(arg) {
			if !slices.Contains(l, v) {
				l = append(l, v)
			}
		}
	}
	return l
}

// may tells whether a type may be where there are so many variables.
func may(t api.Type, vars int) bool {
	many, deep := count(t)
	return many <= 200 && deep <= 40 && allMay(t, vars)
}

func allMay(t api.Type, vars int) bool {
	name := t.Name != "" && t.Var == 0
	of := t.Name == "" && t.Var >= 1 && t.Var <= vars && len(t.Args) == 0
	return (name || of) && !slices.ContainsFunc(t.Args, func(arg api.Type) bool { return !allMay(arg, vars) })
}

// one makes two types one, part by part.
func (m *model) one(a, b api.Type) api.Errno {
	a, b = m.apply(a), m.apply(b)
	switch {
	case a.Var != 0 && a.Var == b.Var:
		return api.OK
	case a.Var != 0:
		return m.set(a.Var, b)
	case b.Var != 0:
		return m.set(b.Var, a)
	case a.Name != b.Name || len(a.Args) != len(b.Args):
		return api.ErrType
	}
	for i := range a.Args {
		if e := m.one(a.Args[i], b.Args[i]); e != api.OK {
			return e
		}
	}
	return api.OK
}

// set puts a type in a variable's place, wherever that stands.
func (m *model) set(v int, t api.Type) api.Errno {
	if slices.Contains(free(t), v) {
		return api.ErrLoop
	}
	for i, is := range m.is {
		m.is[i] = replaced(is, func(w int) api.Type {
			if w == v {
				return t
			}
			return variable(w)
		})
	}
	return api.OK
}

func (m *model) unify(a, b api.Type) api.Errno {
	if !may(a, len(m.is)) || !may(b, len(m.is)) {
		return api.ErrArg
	}
	was := slices.Clone(m.is)
	e := m.one(a, b)
	if e == api.OK && !may(m.apply(a), len(m.is)) {
		e = api.ErrArg
	}
	if e != api.OK {
		m.is = was
	}
	return e
}

// same is the first one of the variables that are the same as a variable that is not bound: which of them all are told as is not said.
func (m *model) same(v int) int {
	for i, is := range m.is {
		if is.Var != 0 && is.Var == m.is[v-1].Var {
			return i + 1
		}
	}
	return v
}

// plain is a type with the first ones in the places of variables; those up to some number are left alone.
func (m *model) plain(t api.Type, many int) api.Type {
	if reflect.DeepEqual(t, api.Type{}) {
		return t
	}
	return replaced(t, func(v int) api.Type {
		if v <= many {
			return variable(v)
		}
		return variable(many + m.same(v-many))
	})
}

// applied is what Apply should tell.
func (m *model) applied(t api.Type) api.Type {
	if !may(t, len(m.is)) || !may(m.apply(t), len(m.is)) {
		return api.Type{}
	}
	return m.plain(m.apply(t), 0)
}

// freed is what Free should tell.
func (m *model) freed(t api.Type) []int {
	if !may(t, len(m.is)) {
		return nil
	}
	return free(m.plain(m.apply(t), 0))
}

// general is what General should tell.
func (m *model) general(t api.Type, kept []api.Type) api.Scheme {
	var held []int
	is := m.applied(t)
	for _, k := range kept {
		if m.applied(k).Name == "" && m.applied(k).Var == 0 {
			return api.Scheme{}
		}
		held = append(held, m.freed(k)...)
	}
	if is.Name == "" && is.Var == 0 {
		return api.Scheme{}
	}
	own := slices.DeleteFunc(free(is), func(v int) bool { return slices.Contains(held, v) })
	return api.Scheme{Many: len(own), Type: replaced(is, func(v int) api.Type {
		if i := slices.Index(own, v); i >= 0 {
			return variable(i + 1)
		}
		return variable(len(own) + v)
	})}
}

// instance is what Instance should tell.
func (m *model) instance(c api.Scheme) api.Type {
	had := len(m.is)
	if c.Many < 0 || c.Many > 200 || !may(c.Type, had+c.Many) {
		return api.Type{}
	}
	for range c.Many {
		m.fresh()
	}
	return replaced(c.Type, func(v int) api.Type {
		if v <= c.Many {
			return variable(had + v)
		}
		return variable(v - c.Many)
	})
}

// show is what Show should tell.
func show(t api.Type, letters *[]int) string {
	if t.Var != 0 {
		if !slices.Contains(*letters, t.Var) {
			*letters = append(*letters, t.Var)
		}
		i := slices.Index(*letters, t.Var)
		if i < 26 {
			return string(rune('a' + i))
		}
		return string(rune('a'+i%26)) + strconv.Itoa(i/26)
	}
	s := t.Name
	for _, arg := range t.Args {
		if w := show(arg, letters); len(arg.Args) > 0 {
			s += " (" + w + ")"
		} else {
			s += " " + w
		}
	}
	return s
}

func shown(t api.Type) string {
	if !may(t, 1<<62) {
		return ""
	}
	return show(t, &[]int{})
}

// agree tells whether a state is as its model.
func agree(t *testing.T, m *model, s *types.State, behind string) bool {
	t.Helper()
	for v := range m.is {
		v := variable(v + 1)
		if is, want := m.plain(s.Apply(v), 0), m.applied(v); !reflect.DeepEqual(is, want) {
			t.Errorf("behind %s: variable %d is %s, not %s", behind, v.Var, exact(is), exact(want))
			return false
		}
		l := s.Free(v)
		for i := range l {
			l[i] = m.same(l[i])
		}
		if want := m.freed(v); !slices.Equal(l, want) {
			t.Errorf("behind %s: in variable %d are %v, not %v", behind, v.Var, l, want)
			return false
		}
	}
	return true
}

// small are all types of so many in one another, of some parts.
func small(deep int, parts ...api.Type) []api.Type {
	if deep == 1 {
		return parts
	}
	below := small(deep-1, parts...)
	l := slices.Clone(parts)
	for _, a := range below {
		l = append(l, con("g", a))
		for _, b := range below {
			l = append(l, con("f", a, b))
		}
	}
	return l
}

// P7.2, P7.5: all pairs of small types.
func TestAllSmallPairs(t *testing.T) {
	all := small(3, variable(1), variable(2), con("c"))
	for i, a := range all {
		for j, b := range all {
			m, s := &model{}, types.New()
			for range 3 {
				m.fresh()
				s.Fresh()
			}
			want := m.unify(a, b)
			if e := s.Unify(a, b); e != want {
				t.Fatalf("Unify of %s and %s is %v, not %v", exact(a), exact(b), e, want)
			}
			if (i+j)%3 == 0 || want == api.OK {
				if !agree(t, m, s, exact(a)+" and "+exact(b)) {
					return
				}
			}
			if want == api.OK && types.Show(s.Apply(a)) != types.Show(s.Apply(b)) {
				t.Fatalf("%s and %s are not written the same", exact(a), exact(b))
			}
			if s.Apply(variable(3)).Var != 3 {
				t.Fatalf("Unify of %s and %s touches another variable", exact(a), exact(b))
			}
		}
	}
}

// fit finds what variables must be, so that a type is another one.
func fit(t, other api.Type, are map[int]api.Type) bool {
	if t.Var != 0 {
		is, there := are[t.Var]
		are[t.Var] = other
		return !there || reflect.DeepEqual(is, other)
	}
	if t.Name != other.Name || len(t.Args) != len(other.Args) {
		return false
	}
	for i := range t.Args {
		if !fit(t.Args[i], other.Args[i], are) {
			return false
		}
	}
	return true
}

// P7.2: each way to bind variables such that both are one goes on from here. Here all ways are tried that bind them to some types without variables.
func TestMostGeneral(t *testing.T) {
	ways := small(2, con("c"), con("d"))
	all := small(3, variable(1), variable(2), variable(3), con("c"))
	chance := rand.New(rand.NewSource(7))
	for range 1500 {
		a, b := all[chance.Intn(len(all))], all[chance.Intn(len(all))]
		s := state(t, 3)
		e := s.Unify(a, b)
		is := s.Apply(con("p", variable(1), variable(2), variable(3)))
		some := false
		for _, x := range ways {
			for _, y := range ways {
				for _, z := range ways {
					by := func(v int) api.Type { return []api.Type{x, y, z}[v-1] }
					same := reflect.DeepEqual(replaced(a, by), replaced(b, by))
					some = some || same
					if goes := fit(is, con("p", x, y, z), map[int]api.Type{}); e == api.OK && goes != same {
						t.Fatalf("Unify of %s and %s is %v, all are %s, and %s, %s, %s go on: %v", exact(a), exact(b), e, exact(is), exact(x), exact(y), exact(z), goes)
					}
				}
			}
		}
		if some && e != api.OK {
			t.Fatalf("Unify of %s and %s is %v, but there is a way", exact(a), exact(b), e)
		}
	}
}

// chance makes types.
type chance struct {
	*rand.Rand
	vars int
}

// any is some type, and seldom one that may not be.
func (c chance) any(deep int) api.Type {
	switch n := c.Intn(40); {
	case n == 0:
		return con([]string{"f", "g", "c", "h"}[c.Intn(4)], slices.Repeat([]api.Type{c.any(deep - 1)}, c.Intn(4))...)
	case n == 1 && c.Intn(20) == 0:
		return []api.Type{{}, variable(c.vars + 1), variable(-1), {Var: 1, Name: "f"}, {Var: 1, Args: []api.Type{con("c")}}, con("", con("c"))}[c.Intn(6)]
	case n < 4:
		return bushy(1+c.Intn(160), c.leaf())
	case n < 6:
		return c.deep(1 + c.Intn(41))
	case n < 20 || deep <= 0:
		return c.leaf()
	case n < 28:
		return con("g", c.any(deep-1))
	}
	return con("f", c.any(deep-1), c.any(deep-1))
}

func (c chance) leaf() api.Type {
	if c.vars == 0 || c.Intn(4) == 0 {
		return con([]string{"c", "d"}[c.Intn(2)])
	}
	return variable(1 + c.Intn(c.vars))
}

func (c chance) deep(many int) api.Type {
	t := c.leaf()
	for range many - 1 {
		t = con("g", t)
	}
	return t
}

// great tells whether something in a model is too great to be gone through as a tree.
func (m *model) great() bool {
	return slices.ContainsFunc(m.is, func(t api.Type) bool {
		many, _ := count(t)
		return many > 3000
	})
}

// All calls, in any order, against the model.
func TestAgainstTheModel(t *testing.T) {
	met := map[api.Errno]int{} // ErrArg, where both may be, as it was then
	for seed := range 2500 {
		c := chance{rand.New(rand.NewSource(int64(seed))), 0}
		m, s := &model{}, types.New()
		for step := 0; step < 25 && !m.great(); step++ {
			c.vars = len(m.is)
			a, b := c.any(c.Intn(4)), c.any(c.Intn(4))
			told := exact(a) + " and " + exact(b)
			switch n := c.Intn(12); {
			case n < 2 || len(m.is) < 3:
				m.fresh()
				if v := s.Fresh(); !reflect.DeepEqual(v, variable(len(m.is))) {
					t.Fatalf("%d: the next variable is %+v, not %d", seed, v, len(m.is))
				}
			case n < 7:
				want := m.unify(a, b)
				if want != api.ErrArg || may(a, len(m.is)) && may(b, len(m.is)) {
					met[want]++
				}
				if e := s.Unify(a, b); e != want {
					t.Fatalf("%d: Unify of %s is %v, not %v", seed, told, e, want)
				}
				told = "Unify of " + told
				if want == api.OK && types.Show(s.Apply(a)) != types.Show(s.Apply(b)) {
					t.Fatalf("%d: behind %s: they are not written the same", seed, told)
				}
			case n < 8:
				if s.May(a) != may(a, len(m.is)) {
					t.Fatalf("%d: May of %s is %v", seed, exact(a), s.May(a))
				}
				if is := m.plain(s.Apply(a), 0); !reflect.DeepEqual(is, m.applied(a)) {
					t.Fatalf("%d: Apply of %s is %s, not %s", seed, exact(a), exact(is), exact(m.applied(a)))
				}
				if types.Show(a) != shown(a) {
					t.Fatalf("%d: Show of %s is %q, not %q", seed, exact(a), types.Show(a), shown(a))
				}
			case n < 10:
				kept := []api.Type{b, c.any(2), c.any(1)}[:c.Intn(4)]
				g := s.General(a, kept)
				want := m.general(a, kept)
				if g.Type = m.plain(g.Type, g.Many); !reflect.DeepEqual(g, want) {
					t.Fatalf("%d: General of %s, where %+v are kept, is %+v, not %+v", seed, exact(a), kept, g, want)
				}
			default:
				g := api.Scheme{Many: c.Intn(4) - c.Intn(20)/19, Type: a}
				if c.Intn(2) == 0 {
					g = s.General(a, []api.Type{b})
				}
				want := m.instance(g)
				if is := s.Instance(g); !reflect.DeepEqual(is, want) {
					t.Fatalf("%d: Instance of %+v is %s, not %s", seed, g, exact(is), exact(want))
				}
			}
			if !agree(t, m, s, told) {
				t.Fatalf("seed %d, step %d", seed, step)
			}
		}
	}
	for _, e := range []api.Errno{api.OK, api.ErrType, api.ErrLoop, api.ErrArg} {
		if met[e] < 100 {
			t.Errorf("Unify was %v only %d times", e, met[e])
		}
	}
}
