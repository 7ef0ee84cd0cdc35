package types_test

import (
	"reflect"
	"slices"
	"testing"
	"time"

	"selvage/api"
	"selvage/types"
)

// ends asks something that must be over soon.
func ends(t *testing.T, what string, ask func()) {
	t.Helper()
	over := make(chan struct{})
	go func() {
		defer close(over)
		ask()
	}()
	select {
	case <-over:
	case <-time.After(40 * time.Second):
		t.Fatalf("%s is not over", what)
	}
}

// unify makes two types one, which must be possible.
func unify(t *testing.T, s *types.State, a, b api.Type) {
	t.Helper()
	if e := s.Unify(a, b); e != api.OK {
		t.Errorf("Unify of %.60s and %.60s is %v", exact(a), exact(b), e)
	}
}

// refuses asks for types that can't be made one, either way round.
func refuses(t *testing.T, s *types.State, a, b api.Type, want api.Errno) {
	t.Helper()
	ends(t, "Unify", func() {
		if e := s.Unify(a, b); e != want {
			t.Errorf("Unify of %.60s and %.60s is %v, not %v", exact(a), exact(b), e, want)
		}
		if e := s.Unify(b, a); e != want {
			t.Errorf("Unify of %.60s and %.60s is %v, not %v", exact(b), exact(a), e, want)
		}
	})
}

// ladder is variables of which each is bound to something with the next one in it; the first one's number, and the last one's, which is not bound.
func ladder(t *testing.T, s *types.State, many int, round func(next api.Type) api.Type) (api.Type, api.Type) {
	t.Helper()
	first := s.Fresh()
	v := first
	for range many {
		next := s.Fresh()
		unify(t, s, v, round(next))
		v = next
	}
	return first, v
}

func twice(t api.Type) api.Type { return con("f", t, t) }

func once(t api.Type) api.Type { return con("f", t) }

// tooGreat asks what is told of what is too great to be a type, with some variables in it.
func tooGreat(t *testing.T, s *types.State, great api.Type, free ...int) {
	t.Helper()
	ends(t, "what is too great", func() {
		for _, u := range []api.Type{great, con("g", con("int"), great)} {
			if is := s.Apply(u); !s.May(u) || !reflect.DeepEqual(is, api.Type{}) {
				t.Errorf("Apply is %.60s", exact(is))
			}
			if l := s.Free(u); !slices.Equal(l, free) {
				t.Errorf("Free is %v, not %v", l, free)
			}
			if g := s.General(u, nil); !reflect.DeepEqual(g, api.Scheme{}) {
				t.Errorf("General is %.60s", exact(g.Type))
			}
			if g := s.General(con("int"), []api.Type{u}); !reflect.DeepEqual(g, api.Scheme{}) {
				t.Errorf("General by it is %.60s", exact(g.Type))
			}
			if g := s.General(con("int"), []api.Type{con("int"), u, con("int")}); !reflect.DeepEqual(g, api.Scheme{}) {
				t.Errorf("General by it and others is %.60s", exact(g.Type))
			}
		}
		// A scheme's type isn't applied.
		if is := s.Instance(api.Scheme{Type: once(great)}); !reflect.DeepEqual(is, once(great)) {
			t.Errorf("Instance is %.60s", exact(is))
		}
		if types.Show(con("g", great)) != "g a" {
			t.Error("Show looks at a state")
		}
	})
	refuses(t, s, great, great, api.ErrArg)
	refuses(t, s, great, con("int"), api.ErrType)
	refuses(t, s, great, s.Fresh(), api.ErrArg)
}

// What a variable is may have more names in it than can be counted.
func TestTwiceTheNextOne(t *testing.T) {
	for _, many := range []int{7, 40, 100, 1000} {
		s := types.New()
		a, x := ladder(t, s, many, twice)
		b, y := ladder(t, s, many, twice)
		c, z := ladder(t, s, many, func(next api.Type) api.Type { return con("f", con("f", next, next), con("f", next, next)) })
		tooGreat(t, s, a, x.Var)
		tooGreat(t, s, b, y.Var)
		tooGreat(t, s, c, z.Var)
		refuses(t, s, a, b, api.ErrArg)
		refuses(t, s, con("p", a, con("int")), con("p", b, con("string")), api.ErrType)
		refuses(t, s, con("p", con("int"), a), con("p", con("string"), b), api.ErrType)
		refuses(t, s, con("p", a, x), con("p", b, once(y)), api.ErrLoop)
		refuses(t, s, con("p", a, once(x)), con("p", b, y), api.ErrLoop)
		refuses(t, s, x, a, api.ErrLoop)
		refuses(t, s, con("p", x, y), con("p", b, a), api.ErrLoop)
		refuses(t, s, a, once(b), api.ErrType)
		// The one is as the other is, but twice as long.
		refuses(t, s, c, a, api.ErrArg)
		unify(t, s, x, con("int"))
		unify(t, s, y, con("string"))
		refuses(t, s, a, b, api.ErrType)
		tooGreat(t, s, a)
	}
}

// The parts of the one are bound where those of the other are not, so that no two variables meet.
func TestLaddersThatDoNotMeet(t *testing.T) {
	for _, many := range []int{7, 40, 1000} {
		s := types.New()
		a, x := ladder(t, s, many, func(next api.Type) api.Type { return con("f", con("g", next), con("g", next)) })
		b, y := ladder(t, s, many, func(next api.Type) api.Type { return con("g", con("f", next, next)) })
		tooGreat(t, s, b, y.Var)
		refuses(t, s, a, con("f", b, b), api.ErrArg)
		refuses(t, s, con("p", a, con("int")), con("p", con("f", b, b), con("string")), api.ErrType)
		refuses(t, s, con("p", a, y), con("p", con("f", b, b), con("h", x)), api.ErrLoop)
		refuses(t, s, con("p", a, y, con("int")), con("p", con("f", b, b), con("h", x), con("string")), api.ErrLoop)
		refuses(t, s, con("p", a, con("int"), y), con("p", con("f", b, b), con("string"), con("h", x)), api.ErrType)
		refuses(t, s, con("p", x, y), con("p", con("f", b, b), con("g", a)), api.ErrLoop)
	}
}

// A loop of one length against a loop of another one.
func TestLoopsAreGoneThrough(t *testing.T) {
	for _, many := range [][2]int{{1, 2}, {2, 3}, {30, 37}, {200, 199}} {
		s := types.New()
		a, x := ladder(t, s, many[0], once)
		b, y := ladder(t, s, many[1], once)
		was := exact(s.Apply(x)) + exact(s.Apply(y))
		refuses(t, s, con("p", x, y, a), con("p", a, b, b), api.ErrLoop)
		refuses(t, s, con("p", x, y, a), con("p", b, a, b), api.ErrLoop)
		refuses(t, s, con("p", a, x, y, con("int")), con("p", b, y, a, con("string")), api.ErrLoop)
		c, z := ladder(t, s, many[0], func(next api.Type) api.Type { return con("f", con("g", next)) })
		d, w := ladder(t, s, many[1], func(next api.Type) api.Type { return con("g", con("f", next)) })
		refuses(t, s, con("p", z, w, c), con("p", c, d, once(d)), api.ErrLoop)
		refuses(t, s, con("p", z, w, c, con("int")), con("p", c, d, once(d), con("string")), api.ErrLoop)
		if is := exact(s.Apply(x)) + exact(s.Apply(y)); is != was {
			t.Errorf("what was refused has made %s of %s", is, was)
		}
	}
}

// What is too deep, by many variables.
func TestLongLadders(t *testing.T) {
	const many = 20000
	s := types.New()
	ends(t, "a long ladder", func() {
		a, x := ladder(t, s, many, once)
		b, y := ladder(t, s, many, once)
		tooGreat(t, s, a, x.Var)
		refuses(t, s, a, b, api.ErrArg)
		refuses(t, s, con("p", a, y), con("p", b, con("f", x)), api.ErrLoop)
		refuses(t, s, x, a, api.ErrLoop)
		refuses(t, s, con("p", x, y), con("p", b, a), api.ErrLoop)
		refuses(t, s, con("p", a, x), con("p", x, y), api.ErrLoop)
		refuses(t, s, con("p", b, x), con("p", x, s.Fresh()), api.ErrArg)
		refuses(t, s, con("p", b, x), con("p", x, y), api.ErrLoop)
		unify(t, s, x, con("int"))
		refuses(t, s, con("p", y, a), con("p", con("string"), b), api.ErrType)
		unify(t, s, y, con("string"))
		refuses(t, s, a, b, api.ErrType)
		tooGreat(t, s, b)
	})
}

// Many variables that are one, whichever way they come together.
func TestLongRowsOfVariables(t *testing.T) {
	const many = 100000
	for name, pair := range map[string]func(i int) (int, int){
		"up": func(i int) (int, int) { return i, i + 1 }, "up, turned": func(i int) (int, int) { return i + 1, i },
		"down": func(i int) (int, int) { return many - i, many - i + 1 }, "down, turned": func(i int) (int, int) { return many - i + 1, many - i },
		"to the first": func(i int) (int, int) { return i + 1, 1 }, "from the first": func(i int) (int, int) { return 1, i + 1 },
		"to the last": func(i int) (int, int) { return i, many }, "from the last": func(i int) (int, int) { return many, i },
		"far": func(i int) (int, int) { return i, i/2 + i%2*many/2 + 1 },
	} {
		ends(t, name, func() {
			s := types.New()
			for range many {
				s.Fresh()
			}
			for i := 1; i < many; i++ {
				a, b := pair(i)
				unify(t, s, variable(a), variable(b))
			}
			one := s.Apply(variable(1))
			for i := range many {
				if is := s.Apply(variable(i + 1)); name != "far" && !reflect.DeepEqual(is, one) || is.Var < 1 || is.Var > many {
					t.Errorf("%s: variable %d is %+v, not %+v", name, i+1, is, one)
					return
				}
			}
			unify(t, s, variable(many/2), con("int"))
			if is := s.Apply(con("f", variable(1), variable(many))); name != "far" && exact(is) != "f int int" {
				t.Errorf("%s: %s", name, exact(is))
			}
		})
	}
}

// Many calls on one state: what a call doesn't touch costs it nothing.
func TestManyCalls(t *testing.T) {
	const many = 100000
	ends(t, "many calls", func() {
		s := types.New()
		for i := range many {
			v, w := s.Fresh(), s.Fresh()
			if e := s.Unify(con("f", v, w), con("f", w, con("g", v))); e != api.ErrLoop {
				t.Error(e)
				return
			}
			unify(t, s, con("f", v, w), con("f", w, con("int")))
			if is := exact(s.Apply(con("f", v, w))); is != "f int int" || v.Var != 2*i+1 {
				t.Error(is)
				return
			}
		}
	})
}

// What is kept may be many types.
func TestManyKept(t *testing.T) {
	const many = 50000
	s := types.New()
	var kept []api.Type
	for range many {
		kept = append(kept, con("f", s.Fresh()))
	}
	v := s.Fresh()
	ends(t, "General", func() {
		g := s.General(con("g", variable(7), v, variable(many), v), kept)
		if g.Many != 1 || exact(g.Type) != "g 8 1 50001 1" {
			t.Errorf("General is %+v", g)
		}
		if g := s.General(v, append(kept, variable(many+2))); !reflect.DeepEqual(g, api.Scheme{}) {
			t.Errorf("General is %+v", g)
		}
	})
}
