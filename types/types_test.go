package types_test

import (
	"fmt"
	"math"
	"reflect"
	"slices"
	"strconv"
	"strings"
	"testing"

	"selvage/api"
	"selvage/types"
)

func variable(n int) api.Type { return api.Type{Var: n} }

func con(name string, args ...api.Type) api.Type { return api.Type{Name: name, Args: args} }

// typ is a type as tests have it: a name (or a variable's number), and its Args behind it, those with Args in brackets.
func typ(s string) api.Type {
	s = strings.NewReplacer("(", " ( ", ")", " ) ").Replace(s)
	t, left := typOf(strings.Fields(s))
	if len(left) != 0 {
		panic("no type: " + s)
	}
	return t
}

func typOf(words []string) (api.Type, []string) {
	t := leaf(words[0])
	for words = words[1:]; len(words) > 0 && words[0] != ")"; words = words[1:] {
		arg := leaf(words[0])
		if words[0] == "(" {
			arg, words = typOf(words[1:])
		}
		t.Args = append(t.Args, arg)
	}
	return t, words
}

func leaf(word string) api.Type {
	if n, err := strconv.Atoi(word); err == nil {
		return variable(n)
	}
	return con(word)
}

// exact is a type with its variables' numbers.
func exact(t api.Type) string {
	s := t.Name
	if t.Var != 0 {
		s += strconv.Itoa(t.Var)
	}
	for _, arg := range t.Args {
		if len(arg.Args) > 0 {
			s += " (" + exact(arg) + ")"
		} else {
			s += " " + exact(arg)
		}
	}
	return s
}

// state is one with some variables, made so by some pairs: `1 = f 2`.
func state(t *testing.T, vars int, pairs ...string) *types.State {
	t.Helper()
	s := types.New()
	for i := range vars {
		if v := s.Fresh(); !reflect.DeepEqual(v, variable(i+1)) {
			t.Fatalf("the next variable is %+v, not %d", v, i+1)
		}
	}
	for _, pair := range pairs {
		a, b, _ := strings.Cut(pair, "=")
		if e := s.Unify(typ(a), typ(b)); e != api.OK {
			t.Fatalf("Unify of %s is %v", pair, e)
		}
	}
	return s
}

// all is a type with the variables 1 to vars in it.
func all(vars int) api.Type {
	t := con("p")
	for v := range vars {
		t.Args = append(t.Args, variable(v+1))
	}
	return t
}

// told is what each of a state's variables is.
func told(s *types.State, vars int) string {
	var b strings.Builder
	for v := range vars {
		fmt.Fprintf(&b, "%d: %s, %v; ", v+1, exact(s.Apply(variable(v+1))), s.Free(variable(v+1)))
	}
	return b.String()
}

// last is how many variables a state has had, told by the next one.
func last(s *types.State) int { return s.Fresh().Var - 1 }

// P7.1
func TestFresh(t *testing.T) {
	s, other := types.New(), types.New()
	if s == nil || other == nil || s == other {
		t.Fatal("New is nobody's own")
	}
	for i := range 1000 {
		if s.May(variable(i + 1)) {
			t.Fatalf("variable %d is there ahead of its Fresh", i+1)
		}
		v := s.Fresh()
		if !reflect.DeepEqual(v, api.Type{Var: i + 1}) {
			t.Fatalf("the next variable is %+v, not %d", v, i+1)
		}
		if !s.May(v) || !reflect.DeepEqual(s.Apply(v), v) {
			t.Fatalf("variable %d is %+v", i+1, s.Apply(v))
		}
	}
	if v := other.Fresh(); v.Var != 1 {
		t.Errorf("the first variable of another state is %d", v.Var)
	}
	if e := s.Unify(variable(3), con("f", variable(1000))); e != api.OK {
		t.Error(e)
	}
	if v := s.Fresh(); v.Var != 1001 || exact(s.Apply(v)) != "1001" {
		t.Errorf("the next variable is %+v, which is %+v", v, s.Apply(v))
	}
}

// mayBe are types that may be by a state of two variables.
func mayBe() []api.Type {
	return []api.Type{
		variable(1), variable(2), con("int"), con("f", variable(1)), con("f", variable(2), variable(1), variable(2)),
		con("f", con("g", con("h", variable(2)), con("i")), variable(1)),
		con("->"), con("->", variable(1), con("IO"), variable(2)),
		con(" "), con("1"), con("\x00"), con("\xff\n"), con("a b"), con("(", con(")")), con("F"), con("let"), con(strings.Repeat("x", 5000)),
		{Var: 1, Args: []api.Type{}}, {Name: "f", Args: []api.Type{}},
		con("f", slices.Repeat([]api.Type{variable(2)}, 199)...),
	}
}

// mayNotBe are types that may not be by any state.
func mayNotBe() []api.Type {
	return []api.Type{
		{}, {Args: []api.Type{}}, variable(-1), variable(math.MinInt), variable(-math.MaxInt),
		{Var: 1, Name: "f"}, {Var: -1, Name: "f"}, {Var: math.MinInt, Name: "f"}, {Var: math.MaxInt, Name: "f"},
		{Var: 1, Args: []api.Type{con("int")}}, {Var: 1, Args: []api.Type{variable(1)}}, {Var: 2, Args: []api.Type{{}}},
		{Args: []api.Type{con("int")}}, {Args: []api.Type{variable(1), variable(2)}},
		{Var: 1, Name: "f", Args: []api.Type{con("int")}}, {Var: 2, Name: "f", Args: []api.Type{variable(1)}},
		{Var: -1, Args: []api.Type{con("int")}},
	}
}

// around are a type, and others in which it stands at each place.
func around(t api.Type) []api.Type {
	return []api.Type{
		t, con("f", t), con("f", t, variable(1)), con("f", variable(1), t), con("f", con("int"), t, variable(2)),
		con("f", con("g", con("h", t))), con("f", con("g"), con("h", variable(1), con("i", t))),
	}
}

// P7.1
func TestMay(t *testing.T) {
	for _, s := range []*types.State{state(t, 2), state(t, 2, "1 = 2"), state(t, 2, "1 = f 2", "2 = int")} {
		for _, typ := range mayBe() {
			if !s.May(typ) {
				t.Errorf("%.80q may not be", exact(typ))
			}
		}
		for _, part := range append(mayNotBe(), variable(3), variable(4), variable(math.MaxInt)) {
			for _, typ := range around(part) {
				if s.May(typ) {
					t.Errorf("%+v may be", typ)
				}
			}
		}
	}
	none := types.New()
	if none.May(variable(1)) || none.May(con("f", variable(1))) || !none.May(con("f", con("int"))) {
		t.Error("a state without variables has some")
	}
}

// P7.1: what is handed in may be, else nothing is answered, and nothing is changed.
func TestWhatMayNotBeIsRefused(t *testing.T) {
	s := state(t, 2, "1 = f 2")
	was := told(s, 2)
	good := []api.Type{variable(1), variable(2), con("int"), con("f", con("int")), con("f", variable(2))}
	for _, part := range append(mayNotBe(), variable(3), variable(math.MaxInt)) {
		for _, bad := range append(around(part), con("f", part, part)) {
			for _, other := range append(good, bad, con("f", bad)) {
				if e := s.Unify(bad, other); e != api.ErrArg {
					t.Errorf("Unify of %+v and %+v is %v", bad, other, e)
				}
				if e := s.Unify(other, bad); e != api.ErrArg {
					t.Errorf("Unify of %+v and %+v is %v", other, bad, e)
				}
				if g := s.General(other, []api.Type{bad}); !reflect.DeepEqual(g, api.Scheme{}) {
					t.Errorf("General of %+v by %+v is %+v", other, bad, g)
				}
				if g := s.General(other, []api.Type{variable(1), bad, variable(2)}); !reflect.DeepEqual(g, api.Scheme{}) {
					t.Errorf("General of %+v by %+v and others is %+v", other, bad, g)
				}
			}
			if u := s.Apply(bad); !reflect.DeepEqual(u, api.Type{}) {
				t.Errorf("Apply of %+v is %+v", bad, u)
			}
			if l := s.Free(bad); len(l) != 0 {
				t.Errorf("Free of %+v is %v", bad, l)
			}
			if g := s.General(bad, nil); !reflect.DeepEqual(g, api.Scheme{}) {
				t.Errorf("General of %+v is %+v", bad, g)
			}
		}
	}
	// The names that can't be made one, and the loop, come behind what may not be.
	for _, l := range [][2]api.Type{
		{con("f", con("int"), variable(3)), con("f", con("string"), variable(1))}, {con("f", con("int")), con("g", api.Type{})},
		{con("f"), con("f", variable(-1))}, {variable(2), con("f", variable(2), variable(9))}, {variable(3), con("f", variable(3))},
	} {
		if e := s.Unify(l[0], l[1]); e != api.ErrArg {
			t.Errorf("Unify of %+v is %v", l, e)
		}
		if e := s.Unify(l[1], l[0]); e != api.ErrArg {
			t.Errorf("Unify of %+v is %v", l, e)
		}
	}
	if is := told(s, 2); is != was || last(s) != 2 {
		t.Errorf("what was refused has changed %s to %s", was, is)
	}
}

// P7.2: what is made one, and what the variables are then.
func TestUnify(t *testing.T) {
	for _, l := range []struct {
		pairs []string // made one ahead of it
		a, b  string
		e     api.Errno
		want  string // what p 1 2 3 4 is then, as it is written
	}{
		{nil, "int", "int", api.OK, "p a b c d"},
		{nil, "1", "1", api.OK, "p a b c d"},
		{nil, "1", "2", api.OK, "p a a b c"},
		{nil, "2", "1", api.OK, "p a a b c"},
		{nil, "4", "2", api.OK, "p a b c b"},
		{nil, "1", "int", api.OK, "p int a b c"},
		{nil, "int", "1", api.OK, "p int a b c"},
		{nil, "1", "f 2 3", api.OK, "p (f a b) a b c"},
		{nil, "f 2 3", "1", api.OK, "p (f a b) a b c"},
		{nil, "f 1 int", "f string 2", api.OK, "p string int a b"},
		{nil, "f 1 2", "f 2 1", api.OK, "p a a b c"},
		{nil, "f 1 2 3 4", "f 2 3 4 1", api.OK, "p a a a a"},
		{nil, "f 1 2 3", "f 4 4 4", api.OK, "p a a a a"},
		{nil, "f 1 1", "f (g 2) (g 3)", api.OK, "p (g a) a a b"},
		{nil, "f 1 1", "f (g 2 int) (g string 3)", api.OK, "p (g string int) string int a"},
		{nil, "f (g 1) 1", "f 2 (h 3)", api.OK, "p (h a) (g (h a)) a b"},
		{nil, "f 1 2 3", "f (g 2) (g 3) (g 4)", api.OK, "p (g (g (g a))) (g (g a)) (g a) a"},
		{nil, "f 3 2 1", "f (g 4) (g 3) (g 2)", api.OK, "p (g (g (g a))) (g (g a)) (g a) a"},
		{nil, "-> 1 (list 2) 1", "-> int 3 4", api.OK, "p int a (list a) int"},
		{nil, "f 1 (f 1 1)", "f int (f int int)", api.OK, "p int a b c"},
		{nil, "f", "f", api.OK, "p a b c d"},
		{nil, "f (g (h 1)) (g (h 2))", "f (g (h 2)) (g (h int))", api.OK, "p int int a b"},
		{[]string{"1 = 2"}, "1", "int", api.OK, "p int int a b"},
		{[]string{"1 = 2"}, "2", "int", api.OK, "p int int a b"},
		{[]string{"1 = 2"}, "2", "1", api.OK, "p a a b c"},
		{[]string{"2 = 1"}, "2", "1", api.OK, "p a a b c"},
		{[]string{"1 = 2", "3 = 4"}, "1", "3", api.OK, "p a a a a"},
		{[]string{"1 = 2", "3 = 4"}, "2", "4", api.OK, "p a a a a"},
		{[]string{"1 = 2", "3 = 4"}, "4", "1", api.OK, "p a a a a"},
		{[]string{"1 = 2", "2 = 3", "3 = 4"}, "4", "1", api.OK, "p a a a a"},
		{[]string{"4 = 3", "3 = 2", "2 = 1"}, "4", "1", api.OK, "p a a a a"},
		{[]string{"1 = f 2"}, "1", "f int", api.OK, "p (f int) int a b"},
		{[]string{"1 = f 2"}, "f int", "1", api.OK, "p (f int) int a b"},
		{[]string{"1 = f 2", "3 = f 4"}, "1", "3", api.OK, "p (f a) a (f a) a"},
		{[]string{"1 = f 2", "3 = f 4"}, "3", "1", api.OK, "p (f a) a (f a) a"},
		{[]string{"1 = f 2 2", "3 = f 4 int"}, "1", "3", api.OK, "p (f int int) int (f int int) int"},
		{[]string{"1 = f 2", "2 = g 3", "3 = 4"}, "1", "f (g int)", api.OK, "p (f (g int)) (g int) int int"},
		{[]string{"1 = int", "2 = int"}, "1", "2", api.OK, "p int int a b"},
		{[]string{"1 = int"}, "1", "1", api.OK, "p int a b c"},
		{[]string{"1 = f 2"}, "3", "1", api.OK, "p (f a) a (f a) b"},
		{[]string{"1 = f 2"}, "2", "3", api.OK, "p (f a) a a b"},

		{nil, "int", "string", api.ErrType, ""},
		{nil, "f", "f 1", api.ErrType, ""},
		{nil, "f 1", "f", api.ErrType, ""},
		{nil, "f 1 2", "f 1", api.ErrType, ""},
		{nil, "f 1", "g 1", api.ErrType, ""},
		{nil, "int", "f int", api.ErrType, ""},
		{nil, "f 1 1", "f int string", api.ErrType, ""},
		{nil, "f int string", "f 1 1", api.ErrType, ""},
		{nil, "f 3 int", "f string string", api.ErrType, ""},
		{nil, "f 1 2 1", "f 2 int string", api.ErrType, ""},
		{nil, "f (g (h int))", "f (g (h string))", api.ErrType, ""},
		{[]string{"1 = int"}, "1", "string", api.ErrType, ""},
		{[]string{"1 = int"}, "string", "1", api.ErrType, ""},
		{[]string{"1 = int", "2 = string"}, "1", "2", api.ErrType, ""},
		{[]string{"1 = 2", "2 = 3", "3 = int"}, "1", "string", api.ErrType, ""},
		{[]string{"1 = f 2", "2 = int"}, "1", "f string", api.ErrType, ""},

		{nil, "1", "f 1", api.ErrLoop, ""},
		{nil, "f 1", "1", api.ErrLoop, ""},
		{nil, "1", "f int (g 2 (h 1))", api.ErrLoop, ""},
		{nil, "f 1 2", "f (g 2) (g 1)", api.ErrLoop, ""},
		{nil, "f 1 2", "f 2 (g 1)", api.ErrLoop, ""},
		{nil, "f 1 2 3", "f (g 2) (g 3) (g 1)", api.ErrLoop, ""},
		{nil, "f 1 1", "f 2 (g 2)", api.ErrLoop, ""},
		{nil, "f 1 1", "f (g 2) 2", api.ErrLoop, ""},
		{nil, "f 1 (g 1)", "f 2 2", api.ErrLoop, ""},
		{[]string{"1 = f 2"}, "2", "1", api.ErrLoop, ""},
		{[]string{"1 = f 2"}, "1", "2", api.ErrLoop, ""},
		{[]string{"1 = f 2", "2 = g 3"}, "3", "1", api.ErrLoop, ""},
		{[]string{"1 = f 2", "2 = g 3"}, "3", "f 2", api.ErrLoop, ""},
		{[]string{"1 = 2"}, "1", "f 2", api.ErrLoop, ""},
		{[]string{"1 = 2"}, "2", "f 1", api.ErrLoop, ""},
		{[]string{"1 = f 2", "3 = f 4"}, "g 1 2", "g 3 (h 4)", api.ErrLoop, ""},
	} {
		s := state(t, 4, l.pairs...)
		was := told(s, 4)
		if e := s.Unify(typ(l.a), typ(l.b)); e != l.e {
			t.Errorf("by %v: Unify of %s and %s is %v, not %v", l.pairs, l.a, l.b, e, l.e)
			continue
		}
		if is := told(s, 4); l.e != api.OK && is != was {
			t.Errorf("by %v: Unify of %s and %s has changed %s to %s", l.pairs, l.a, l.b, was, is)
		}
		if is := types.Show(s.Apply(all(4))); l.e == api.OK && is != l.want {
			t.Errorf("by %v: behind Unify of %s and %s all is %s, not %s", l.pairs, l.a, l.b, is, l.want)
		}
	}
}

// P7.2: the first two parts that can't be made one tell it.
func TestTheFirstFaultIsTold(t *testing.T) {
	for _, l := range []struct {
		pairs string
		a, b  string
		e     api.Errno
	}{
		{"", "f 1 int", "f (g 1) string", api.ErrLoop},
		{"", "f int 1", "f string (g 1)", api.ErrType},
		{"", "f 1 2 int", "f (g 2) (g 1) string", api.ErrLoop},
		{"", "f 1 int 2", "f (g 2) string (g 1)", api.ErrType},
		{"", "f int 1 2", "f string (g 2) (g 1)", api.ErrType},
		{"", "f (g 1 int) 1", "f (g 2 string) (h 1)", api.ErrType},
		{"", "f (g 1 1) int", "f (g 2 (h 2)) string", api.ErrLoop},
		{"", "f (g (h 1)) int", "f (g (h (i 1))) string", api.ErrLoop},
		{"", "f (g (h int)) 1", "f (g (h string)) (i 1)", api.ErrType},
		// A name is met ahead of what stands behind it, and so is the number of that.
		{"", "f 1", "g (h 1)", api.ErrType},
		{"", "f 1", "f (g 1) int", api.ErrType},
		{"", "f 1 int", "f (g 1)", api.ErrType},
		{"", "f (g 1) 2", "f (g (h 1) 2) (i 2)", api.ErrType},
		{"", "f 1 (g 2)", "f (h 1) (g 2 2)", api.ErrLoop},
		// What was bound on the way counts.
		{"", "f 1 1 2", "f int string (g 2)", api.ErrType},
		{"", "f 1 2 1", "f int (g 2) string", api.ErrLoop},
		{"", "f 1 2 2 1", "f (g 2) 3 (h 1) int", api.ErrLoop},
		{"", "f 1 2 1 2", "f (g 2) 3 int (h 1)", api.ErrType},
		// Behind a loop all goes on as if there was none, but names that can't be made one do not count there.
		{"", "f 1 1 1", "f (g 1) (g (g 1)) int", api.ErrLoop},
		{"", "f 1 2 1", "f (g 1) (g 2) 2", api.ErrLoop},
		{"", "f 1 2 1 int", "f (g 1) (g (g 2)) 2 string", api.ErrLoop},
		{"", "f 1 2 1 (h 1)", "f (g (h 1)) (h (g 2)) (g 2) 2", api.ErrLoop},
		{"1 = g 2, 3 = g 4", "f 1 2 int", "f 3 (g 4) string", api.ErrLoop},
		{"1 = g 2, 3 = g 4", "f 1 int 2", "f 3 string (g 4)", api.ErrType},
		// Two parts with parts that can't be made one, of which one is a part of the other.
		{"1 = f 3 int, 2 = f 4 (h 1)", "1", "2", api.ErrType},
		{"1 = f 3 int, 2 = f 4 (h 1)", "2", "1", api.ErrType},
		{"1 = f 3 3, 2 = f 4 (h 1)", "1", "2", api.ErrLoop},
		{"1 = f 3 3, 2 = f 4 (h 1)", "2", "1", api.ErrLoop},
		{"1 = f int (h 3), 2 = f string 1", "1", "2", api.ErrType},
		{"1 = f 2 int", "f 1 1", "f (f (f 2 int) string) 1", api.ErrLoop},
		{"1 = f 2 int", "f 1 1", "f (f 3 string) (f (f 2 int) int)", api.ErrType},
		// The loop goes through the second type alone, or through both.
		{"", "f int 1 string", "f int (g 1) int", api.ErrLoop},
		{"", "f (g 2) int", "f 2 string", api.ErrLoop},
		{"3 = g 2", "f 3 int", "f 2 string", api.ErrLoop},
		{"3 = g 2", "f 2 int", "f 3 string", api.ErrLoop},
	} {
		var pairs []string
		if l.pairs != "" {
			pairs = strings.Split(l.pairs, ",")
		}
		s := state(t, 4, pairs...)
		was := told(s, 4)
		if e := s.Unify(typ(l.a), typ(l.b)); e != l.e {
			t.Errorf("by %s: Unify of %s and %s is %v, not %v", l.pairs, l.a, l.b, e, l.e)
		}
		if e := s.Unify(typ(l.b), typ(l.a)); e != l.e {
			t.Errorf("by %s: Unify of %s and %s is %v, not %v", l.pairs, l.b, l.a, e, l.e)
		}
		if is := told(s, 4); is != was {
			t.Errorf("by %s: Unify of %s and %s has changed %s to %s", l.pairs, l.a, l.b, was, is)
		}
	}
}

// P7.2: names are the same just if all their bytes are.
func TestNames(t *testing.T) {
	s := types.New()
	names := []string{"f", "F", "f ", " f", "ff", "f\x00", "\x00", "\xff", "\xfe", "\u00e9", "e\u0301", "->", "1", "(f)", strings.Repeat("f", 3000), strings.Repeat("f", 3001)}
	for i, a := range names {
		for j, b := range names {
			want := api.ErrType
			if i == j {
				want = api.OK
			}
			if e := s.Unify(con(a), con(b)); e != want {
				t.Errorf("Unify of %.20q and %.20q is %v", a, b, e)
			}
			if e := s.Unify(con("x", con(a, con(b))), con("x", con(b, con(a)))); e != want {
				t.Errorf("Unify of %.20q and %.20q, in one another, is %v", a, b, e)
			}
		}
	}
}

// P7.3
func TestApply(t *testing.T) {
	s := state(t, 6, "1 = f 2 3", "2 = 4", "3 = g 4 (h 5)", "5 = int")
	v := s.Apply(variable(4)) // 2 and 4 are one, whichever of them it is told as
	if v.Var != 2 && v.Var != 4 || exact(s.Apply(variable(2))) != exact(v) {
		t.Fatalf("2 is %+v, and 4 is %+v", s.Apply(variable(2)), v)
	}
	for _, l := range [][2]string{
		{"1", "f V (g V (h int))"}, {"2", "V"}, {"3", "g V (h int)"}, {"4", "V"}, {"5", "int"}, {"6", "6"},
		{"int", "int"}, {"i", "i"}, {"i 6", "i 6"}, {"i 5 6", "i int 6"}, {"i 3 (j 1) 2", "i (g V (h int)) (j (f V (g V (h int)))) V"}, {"i (j (k 5))", "i (j (k int))"},
		{"i 6 5 6 5", "i 6 int 6 int"},
	} {
		want := typ(strings.ReplaceAll(l[1], "V", exact(v)))
		if is := s.Apply(typ(l[0])); !reflect.DeepEqual(is, want) {
			t.Errorf("Apply of %s is %s, not %s", l[0], exact(is), exact(want))
		}
		if is := s.Apply(want); !reflect.DeepEqual(is, want) {
			t.Errorf("Apply of %s is %s", exact(want), exact(is))
		}
	}
}

// P7.3
func TestFree(t *testing.T) {
	s := state(t, 9, "1 = f 8 7", "2 = 3", "4 = int", "5 = g (f 7 6) 8")
	v := s.Apply(variable(2)).Var
	for _, l := range []struct {
		of   string
		want []int
	}{
		{"int", nil}, {"4", nil}, {"f 4 int", nil}, {"6", []int{6}}, {"1", []int{8, 7}}, {"5", []int{7, 6, 8}},
		{"2", []int{v}}, {"3", []int{v}}, {"f 2 3", []int{v}}, {"f 3 9 2", []int{v, 9}}, {"f 9 3", []int{9, v}},
		{"f 9 8 7 6 6 7 8 9", []int{9, 8, 7, 6}}, {"f 6 7 8 9", []int{6, 7, 8, 9}}, {"f 1 5", []int{8, 7, 6}}, {"f 5 1", []int{7, 6, 8}},
		{"f (g (h 9) 6) 8", []int{9, 6, 8}}, {"f 6 (g (h 9) 6) 8 9", []int{6, 9, 8}}, {"f 4 (g 4) 1 4 9", []int{8, 7, 9}}, {"f 8 (g 1) 9", []int{8, 7, 9}},
		{"f 1 1 9", []int{8, 7, 9}}, {"f 9 1 1 6", []int{9, 8, 7, 6}},
	} {
		if is := s.Free(typ(l.of)); !slices.Equal(is, l.want) {
			t.Errorf("Free of %s is %v, not %v", l.of, is, l.want)
		}
	}
}

// P7.3
func TestGeneral(t *testing.T) {
	s := state(t, 9, "1 = f 8 7", "2 = int", "4 = list 9", "6 = 5")
	v := s.Apply(variable(6)).Var // 5 or 6, which are one
	for _, l := range []struct {
		of, kept string
		many     int
		want     string
	}{
		{"int", "", 0, "int"}, {"2", "", 0, "int"}, {"3", "", 1, "1"}, {"1", "", 2, "f 1 2"}, {"f 3 3 8", "", 2, "f 1 1 2"},
		{"f 9 8 3 8 9", "", 3, "f 1 2 3 2 1"}, {"f 4 1", "", 3, "f (list 1) (f 2 3)"}, {"f (g 7) (h 8 7)", "", 2, "f (g 1) (h 2 1)"},
		{"3", "3", 0, "3"}, {"3", "int", 1, "1"}, {"3", "8", 1, "1"}, {"f 3 8", "8", 1, "f 1 9"}, {"f 3 8", "3", 1, "f 4 1"}, {"f 3 8", "3, 8", 0, "f 3 8"},
		{"f 3 8", "f 8 3", 0, "f 3 8"}, {"f 3 8 9", "f 8 (g 8)", 2, "f 1 10 2"},
		{"1", "8", 1, "f 9 1"}, {"f 8 7", "1", 0, "f 8 7"}, {"f 3 8 7", "1", 1, "f 1 9 8"}, {"f 3 9", "4", 1, "f 1 10"}, {"f 3 9", "4, 2, int, 4", 1, "f 1 10"},
		{"f 5 6 3", "", 2, "f 1 1 2"}, {"f 5 6 3", "3", 1, "f 1 1 4"}, {"f 5 3", "6", 1, "f V 1"}, {"f 6 3", "5", 1, "f V 1"}, {"f 3 5", "6", 1, "f 1 V"},
		{"f 2 3", "2", 1, "f int 1"}, {"int", "3", 0, "int"}, {"f 9 3 8 7", "3, 7", 2, "f 1 5 2 9"},
	} {
		var kept []api.Type
		for _, k := range strings.Split(l.kept, ",") {
			if k != "" {
				kept = append(kept, typ(k))
			}
		}
		was := told(s, 9)
		want := api.Scheme{Many: l.many, Type: typ(strings.ReplaceAll(l.want, "V", strconv.Itoa(l.many+v)))}
		if is := s.General(typ(l.of), kept); !reflect.DeepEqual(is, want) {
			t.Errorf("General of %s, where %s is kept, is %+v, not %+v", l.of, l.kept, is, want)
		}
		if is := told(s, 9); is != was {
			t.Errorf("General of %s has changed %s to %s", l.of, was, is)
		}
	}
}

// P7.3
func TestInstance(t *testing.T) {
	for _, l := range []struct {
		many int
		of   string
		want string // none: it is refused
	}{
		{0, "int", "int"}, {0, "1", "1"}, {0, "3", "3"}, {0, "f 3 1", "f 3 1"}, {1, "1", "4"}, {1, "2", "1"}, {1, "4", "3"}, {1, "f 1 1", "f 4 4"},
		{2, "f 1 2", "f 4 5"}, {2, "f 2 1", "f 5 4"}, {2, "f 2", "f 5"}, {2, "f 3 1", "f 1 4"}, {2, "f 1 5 2 4", "f 4 3 5 2"}, {3, "int", "int"},
		{3, "3", "6"}, {3, "f (g 3 4) (h (i 6) 1)", "f (g 6 1) (h (i 3) 4)"}, {200, "f 200 1 201 203", "f 203 4 1 3"}, {200, "int", "int"}, {1, "i 3", "i 2"},
		{0, "4", ""}, {1, "5", ""}, {2, "6", ""}, {2, "f 1 6", ""}, {3, "f 7 1", ""}, {200, "204", ""}, {200, "f 1 (g 204)", ""}, {0, "f 1 (g 9)", ""},
		{-1, "int", ""}, {-1, "1", ""}, {-1, "2", ""}, {201, "int", ""}, {201, "1", ""}, {math.MinInt, "int", ""}, {math.MaxInt, "int", ""}, {math.MaxInt, "1", ""},
		{math.MinInt, "1", ""}, {201, "202", ""},
	} {
		s := state(t, 3, "2 = f 1", "3 = int") // an instance isn't applied
		c := api.Scheme{Many: l.many, Type: typ(l.of)}
		is := s.Instance(c)
		if l.want == "" {
			if !reflect.DeepEqual(is, api.Type{}) || last(s) != 3 {
				t.Errorf("Instance of %+v is %+v", c, is)
			}
			continue
		}
		if !reflect.DeepEqual(is, typ(l.want)) || !s.May(is) {
			t.Errorf("Instance of %+v is %s, not %s", c, exact(is), l.want)
		}
		for v := 4; v <= 3+l.many; v++ {
			if u := s.Apply(variable(v)); !reflect.DeepEqual(u, variable(v)) {
				t.Errorf("behind Instance of %+v variable %d is %+v", c, v, u)
			}
		}
		if n := last(s); n != 3+l.many {
			t.Errorf("behind Instance of %+v there are %d variables", c, n)
		}
		if types.Show(s.Apply(all(3))) != "p a (f a) int" {
			t.Errorf("Instance of %+v has bound a variable", c)
		}
	}
	for _, part := range mayNotBe() {
		for _, bad := range around(part) {
			for _, many := range []int{0, 1, 2, 200} {
				s := state(t, 3)
				if is := s.Instance(api.Scheme{Many: many, Type: bad}); !reflect.DeepEqual(is, api.Type{}) || last(s) != 3 {
					t.Errorf("Instance of %d and %+v is %+v", many, bad, is)
				}
			}
		}
	}
	for _, v := range []int{math.MaxInt, math.MaxInt - 1, math.MaxInt - 200} {
		s := state(t, 3)
		if is := s.Instance(api.Scheme{Many: 200, Type: con("f", variable(v))}); !reflect.DeepEqual(is, api.Type{}) || last(s) != 3 {
			t.Errorf("Instance of 200 and variable %d is %+v", v, is)
		}
	}
}

// P7.3: variables behind an instance's are further ones.
func TestInstancesAreApart(t *testing.T) {
	s := state(t, 1)
	c := api.Scheme{Many: 2, Type: typ("f 1 2 3")}
	for i, want := range []string{"f 2 3 1", "f 4 5 1", "f 6 7 1"} {
		is := s.Instance(c)
		if exact(is) != want {
			t.Fatalf("instance %d is %s, not %s", i, exact(is), want)
		}
	}
	if e := s.Unify(typ("f 2 3 1"), typ("f int string unit")); e != api.OK {
		t.Fatal(e)
	}
	if is := exact(s.Apply(typ("p (f 2 3 1) (f 4 5 1)"))); is != "p (f int string unit) (f 4 5 unit)" {
		t.Error(is)
	}
	if is := exact(s.Instance(c)); is != "f 8 9 1" {
		t.Error(is)
	}
}

// P7.4
func TestShow(t *testing.T) {
	for _, l := range [][2]string{
		{"int", "int"}, {"1", "a"}, {"7", "a"}, {"f 1", "f a"}, {"f 2 1", "f a b"}, {"f 2 1 2", "f a b a"}, {"-> 1 (list 2) 1", "-> a (list b) a"},
		{"f int (g 3) (h (i 3 9))", "f int (g a) (h (i a b))"}, {"f (g (h (i 1)))", "f (g (h (i a)))"}, {"f (g 5) 5 (g 4)", "f (g a) a (g b)"}, {"f f (f f)", "f f (f f)"},
		{"f (g) 1", "f g a"}, {"f 3 2 1 1 2 3", "f a b c c b a"}, {"-> (-> 1 2 3) 2 (-> 3 2 1)", "-> (-> a b c) b (-> c b a)"},
	} {
		if is := types.Show(typ(l[0])); is != l[1] {
			t.Errorf("the written form of %s is %s, not %s", l[0], is, l[1])
		}
	}
	for _, l := range []struct {
		t    api.Type
		want string
	}{
		{variable(math.MaxInt), "a"}, {con("f", variable(math.MaxInt), variable(1)), "f a b"}, {con("a b", con("", variable(1))), ""},
		{con(" ", con("(", variable(2))), "  (( a)"}, {con("\xff\n", con("")), ""}, {con("\xff\n", con("\"")), "\xff\n \""}, {con("1", con("2")), "1 2"},
		{api.Type{Name: "f", Args: []api.Type{}}, "f"}, {con("g", api.Type{Name: "f", Args: []api.Type{}}, api.Type{Var: 4, Args: []api.Type{}}), "g f a"},
	} {
		if is := types.Show(l.t); is != l.want {
			t.Errorf("the written form of %+v is %q, not %q", l.t, is, l.want)
		}
	}
	for _, part := range mayNotBe() {
		for _, bad := range around(part) {
			if is := types.Show(bad); is != "" {
				t.Errorf("the written form of %+v is %q", bad, is)
			}
		}
	}
}

// P7.4: each letter, whatever the numbers.
func TestLetters(t *testing.T) {
	var want []string
	for _, behind := range []string{"", "1", "2", "3", "4", "5", "6", "7"} {
		for _, letter := range strings.Split("abcdefghijklmnopqrstuvwxyz", "") {
			want = append(want, letter+behind)
		}
	}
	want = want[:199]
	if want[25] != "z" || want[26] != "a1" || want[51] != "z1" || want[52] != "a2" || want[198] != "q7" {
		t.Fatal(want)
	}
	for _, number := range []func(int) int{
		func(i int) int { return i + 1 }, func(i int) int { return 1000 - i }, func(i int) int { return math.MaxInt - i*i }, func(i int) int { return 1 + (i*77)%199 },
	} {
		f := con("f")
		for i := range 199 {
			f.Args = append(f.Args, variable(number(i)))
		}
		if is := types.Show(f); is != "f "+strings.Join(want, " ") {
			t.Errorf("it is %s", is)
		}
		// A letter that was told is told again.
		twice := con("f", append(slices.Clone(f.Args[:99]), f.Args[:99]...)...)
		if is := types.Show(twice); is != "f "+strings.Join(want[:99], " ")+" "+strings.Join(want[:99], " ") {
			t.Errorf("it is %s", is)
		}
	}
}

// The examples of the chapter, and P7.5, P7.6 on ordinary types.
func TestExamples(t *testing.T) {
	s := state(t, 2)
	if e := s.Unify(typ("f 1 int"), typ("f string 2")); e != api.OK {
		t.Fatal(e)
	}
	for _, of := range []string{"f 1 int", "f string 2"} {
		if is := types.Show(s.Apply(typ(of))); is != "f string int" {
			t.Errorf("%s is %s", of, is)
		}
	}
	if e := state(t, 1).Unify(typ("1"), typ("f 1")); e != api.ErrLoop {
		t.Error(e)
	}
	if is := types.Show(typ("-> 1 (list 2) 1")); is != "-> a (list b) a" {
		t.Error(is)
	}
}

// P7.6: an instance of a general scheme is like the type, and what is kept is the same variable in it.
func TestInstanceOfGeneral(t *testing.T) {
	for _, of := range []string{"1", "int", "f 1 2 3", "f 5 4 (g 4 5) 1", "f 6 6 6", "f (g 1) 2 (h 6)", "2"} {
		for _, kept := range [][]api.Type{nil, {variable(4)}, {typ("g 1 6")}, {all(6)}, {variable(2), variable(5)}} {
			s := state(t, 6, "1 = g 4 4", "2 = int", "6 = list 5")
			held := s.Free(con("p", kept...))
			is := s.Apply(typ(of))
			i := s.Instance(s.General(typ(of), kept))
			if types.Show(i) != types.Show(is) || !reflect.DeepEqual(s.Apply(i), i) {
				t.Errorf("an instance of %s is %s", exact(is), exact(i))
			}
			for n, v := range s.Free(is) {
				if w := s.Free(i)[n]; slices.Contains(held, v) && w != v || !slices.Contains(held, v) && w <= 6 {
					t.Errorf("of %s, where %v are kept, variable %d is %d in an instance", exact(is), held, v, w)
				}
			}
		}
	}
}
