package types_test

import (
	"reflect"
	"slices"
	"strings"
	"testing"

	"selvage/api"
	"selvage/types"
)

// deep is a type of so many in one another, with a part at its end.
func deep(many int, end api.Type) api.Type {
	for range many - 1 {
		end = con("f", end)
	}
	return end
}

// wide is a type of so many names and variables in all.
func wide(many int, part api.Type) api.Type {
	return con("f", slices.Repeat([]api.Type{part}, many-1)...)
}

// bushy is a type of so many names and variables in all, in one another.
func bushy(many int, part api.Type) api.Type {
	switch {
	case many == 1:
		return part
	case many == 2:
		return con("f", part)
	}
	half := (many - 1) / 2
	return con("f", bushy(half, part), bushy(many-1-half, part))
}

// count is how many names and variables a type has, and how many are in one another.
func count(t api.Type) (int, int) {
	many, most := 1, 0
	for _, arg := range t.Args {
		m, d := count(arg)
		many, most = many+m, max(most, d)
	}
	return many, most + 1
}

// limits are types round the limits, with a part at their ends, and whether they may be.
func limits(t *testing.T, part api.Type) map[bool][]api.Type {
	t.Helper()
	all := map[bool][]api.Type{
		true: {
			deep(2, part), deep(39, part), deep(40, part), wide(2, part), wide(199, part), wide(200, part), bushy(3, part), bushy(199, part), bushy(200, part),
			con("f", deep(39, part), deep(39, part), deep(39, part)), con("f", part, part, deep(39, part)),
			deep(20, wide(180, part)), con("f", part, wide(198, part)), con("f", wide(197, part), con("g", part)), con("f", deep(39, part), wide(160, part)),
			deep(39, con("g", slices.Repeat([]api.Type{part}, 161)...)),
		},
		false: {
			deep(41, part), deep(42, part), wide(201, part), wide(202, part), wide(400, part), bushy(201, part), bushy(202, part), bushy(500, part),
			con("f", deep(40, part)), con("f", part, deep(40, part)), con("f", deep(40, part), part), con("f", part, wide(199, part)), con("f", wide(199, part), part),
			deep(20, wide(182, part)), con("f", deep(39, part), wide(161, part)), deep(39, con("g", slices.Repeat([]api.Type{part}, 162)...)),
			con("f", slices.Repeat([]api.Type{deep(39, part)}, 6)...),
		},
	}
	for may, l := range all {
		for _, typ := range l {
			if many, deep := count(typ); may != (many <= 200 && deep <= 40) {
				t.Fatalf("a type of %d in all, %d in one another", many, deep)
			}
		}
	}
	return all
}

// P7.1, P7.3, P7.4: at most 40 in one another, and 200 in all, in what is handed in.
func TestLimitsOfWhatIsHandedIn(t *testing.T) {
	for _, part := range []api.Type{variable(1), con("int"), variable(3)} {
		for may, l := range limits(t, part) {
			for i, typ := range l {
				s := state(t, 3, "3 = 2")
				if s.May(typ) != may {
					t.Errorf("May of %d, %+v is %v", i, part, !may)
				}
				is := s.Apply(typ)
				if may != (types.Show(is) != "") || !may && !reflect.DeepEqual(is, api.Type{}) {
					t.Errorf("Apply of %d, %+v is %+v", i, part, is)
				}
				if free := s.Free(typ); len(free) != 0 != (may && part.Var != 0) {
					t.Errorf("Free of %d, %+v is %v", i, part, free)
				}
				if g := s.General(typ, nil); may != (types.Show(g.Type) != "") || may && g.Many != len(s.Free(typ)) || !may && !reflect.DeepEqual(g, api.Scheme{}) {
					t.Errorf("General of %d, %+v is %+v", i, part, g)
				}
				if g := s.General(variable(1), []api.Type{typ}); may != (g.Type.Var != 0) || may && (g.Many == 0) != (part.Var == 1) || !may && !reflect.DeepEqual(g, api.Scheme{}) {
					t.Errorf("General by %d, %+v is %+v", i, part, g)
				}
				if (types.Show(typ) != "") != may {
					t.Errorf("Show of %d, %+v is %q", i, part, types.Show(typ))
				}
				same, other := api.OK, api.ErrType
				if !may {
					same, other = api.ErrArg, api.ErrArg
				}
				for _, l := range []struct {
					a, b api.Type
					e    api.Errno
				}{{typ, typ, same}, {con("x"), typ, other}, {typ, con("x"), other}} {
					if e := s.Unify(l.a, l.b); e != l.e {
						t.Errorf("Unify of %d, %+v is %v, not %v", i, part, e, l.e)
					}
				}
				if is := s.Instance(api.Scheme{Many: 1, Type: typ}); may != (types.Show(is) != "") || !may && !reflect.DeepEqual(is, api.Type{}) {
					t.Errorf("Instance of %d, %+v is %+v", i, part, is)
				}
				if n := last(s); may != (n == 4) || !may && n != 3 {
					t.Errorf("behind Instance of %d, %+v there are %d variables", i, part, n)
				}
			}
		}
	}
}

// P7.2, P7.3: likewise of what that is then, by the state.
func TestLimitsOfWhatComesOut(t *testing.T) {
	for _, part := range []api.Type{con("int"), variable(4)} {
		for may, l := range limits(t, part) {
			for i, typ := range l {
				for j, a := range typ.Args {
					if !state(t, 9).May(a) {
						continue
					}
					// An Arg of it is what variable 1 is, ahead of it or behind.
					with := con(typ.Name, slices.Clone(typ.Args)...)
					with.Args[j] = variable(1)
					greatest(t, with, a, may, i)
				}
			}
		}
	}
}

// greatest asks a type in which variable 1 is bound to something, and is then at a limit.
func greatest(t *testing.T, with, bound api.Type, may bool, i int) {
	t.Helper()
	s := state(t, 4)
	if !s.May(with) {
		return
	}
	if e := s.Unify(variable(2), with); e != api.OK {
		t.Fatalf("%d: a type that may be: %v", i, e)
	}
	if e := s.Unify(variable(1), bound); e != api.OK { // what 2 is then is not asked for
		t.Fatalf("%d: a part: %v", i, e)
	}
	want := api.OK
	if !may {
		want = api.ErrArg
	}
	was := s.Free(variable(2))
	for _, pair := range [][2]api.Type{{variable(2), variable(2)}, {with, with}, {with, variable(2)}, {variable(2), variable(3)}, {variable(3), with}} {
		if e := s.Unify(pair[0], pair[1]); e != want {
			t.Errorf("%d: Unify of %.40s and %.40s is %v", i, exact(pair[0]), exact(pair[1]), e)
		}
	}
	if !may && s.Apply(variable(3)).Var != 3 {
		t.Errorf("%d: what was refused has bound %+v", i, s.Apply(variable(3)))
	}
	for _, u := range []api.Type{with, variable(2)} {
		if is := s.Apply(u); may != (types.Show(is) != "") || !may && !reflect.DeepEqual(is, api.Type{}) {
			t.Errorf("%d: Apply is %.40s", i, exact(is))
		}
		if free := s.Free(u); !slices.Equal(free, was) || len(free) > 1 {
			t.Errorf("%d: Free is %v", i, free)
		}
		if g := s.General(u, nil); may != (types.Show(g.Type) != "") || may && g.Many != len(was) || !may && !reflect.DeepEqual(g, api.Scheme{}) {
			t.Errorf("%d: General is %+v", i, g)
		}
		if g := s.General(con("g"), []api.Type{con("h"), u}); may != (types.Show(g.Type) != "") {
			t.Errorf("%d: General by it is %+v", i, g)
		}
		if !s.May(u) {
			t.Errorf("%d: what is handed in may be", i)
		}
	}
	// Names that can't be made one, and loops, come ahead of what is too great.
	if e := s.Unify(con("g", variable(2)), con("h", variable(2))); e != api.ErrType {
		t.Errorf("%d: Unify of unlike names is %v", i, e)
	}
	if e := s.Unify(con("g", variable(2), con("int")), con("g", with, con("string"))); s.May(con("g", with, con("int"))) && e != api.ErrType {
		t.Errorf("%d: Unify of unlike names behind it is %v", i, e)
	}
	u := s.Fresh()
	if e := s.Unify(con("g", variable(2), u), con("g", variable(2), con("h", u))); e != api.ErrLoop {
		t.Errorf("%d: Unify with a loop is %v", i, e)
	}
}

// P7.2: what is too great then is refused, in whichever type it is, and whichever way it comes.
func TestWhatGetsTooGreat(t *testing.T) {
	for _, l := range []struct {
		pairs []string
		a, b  api.Type
		e     api.Errno
	}{
		{nil, variable(1), deep(40, con("int")), api.OK},
		{nil, con("g", variable(1)), con("g", deep(39, con("int"))), api.OK},
		{nil, con("g", variable(1), variable(2)), con("g", deep(38, variable(2)), con("h")), api.OK},
		{nil, con("g", variable(1), variable(2)), con("g", deep(38, variable(2)), con("h", con("i"))), api.OK},
		{nil, con("g", variable(1), variable(2)), con("g", deep(38, variable(2)), con("h", con("i", con("j")))), api.ErrArg},
		{nil, con("g", variable(1), variable(2)), con("g", deep(39, variable(2)), con("h", con("i"))), api.ErrArg},
		{nil, con("g", variable(2), variable(1)), con("g", con("h", con("i")), deep(39, variable(2))), api.ErrArg},
		{nil, con("g", variable(1), variable(1)), con("g", bushy(99, variable(2)), variable(3)), api.OK},
		{nil, con("g", variable(1), variable(1)), con("g", bushy(100, variable(2)), variable(3)), api.ErrArg},
		{nil, con("g", variable(3), variable(1)), con("g", variable(1), bushy(100, variable(2))), api.ErrArg},
		{[]string{"1 = f 2 2", "2 = f 3 3", "3 = f 4 4"}, variable(4), bushy(24, con("int")), api.OK},
		{[]string{"1 = f 2 2", "2 = f 3 3", "3 = f 4 4"}, con("g", variable(4), variable(1)), con("g", bushy(24, con("int")), variable(1)), api.ErrArg},
		{[]string{"1 = f 2 2", "2 = f 3 3", "3 = f 4 4"}, con("g", variable(4), variable(1)), con("g", bushy(21, con("int")), variable(1)), api.OK},
		{[]string{"1 = f 2 2", "2 = f 3 3", "3 = f 4 4"}, con("g", variable(4), variable(1)), con("g", bushy(22, con("int")), variable(1)), api.ErrArg},
		{[]string{"1 = f 2 2", "2 = f 3 3", "3 = f 4 4"}, con("g", variable(1), variable(4)), con("g", variable(1), bushy(22, con("int"))), api.ErrArg},
	} {
		s := state(t, 4, l.pairs...)
		was := told(s, 4)
		if e := s.Unify(l.a, l.b); e != l.e {
			t.Errorf("Unify of %.60s and %.60s is %v, not %v", exact(l.a), exact(l.b), e, l.e)
		}
		if is := told(s, 4); (is == was) != (l.e != api.OK) {
			t.Errorf("Unify of %.60s and %.60s makes %s of %s", exact(l.a), exact(l.b), is, was)
		}
	}
}

// P7.2: a variable may get too great by what another one is bound to.
func TestOthersMayGetTooGreat(t *testing.T) {
	s := state(t, 4, "1 = f 2 2 3")
	if e := s.Unify(variable(2), bushy(150, variable(4))); e != api.OK {
		t.Fatal(e)
	}
	if is := s.Apply(variable(1)); !reflect.DeepEqual(is, api.Type{}) {
		t.Errorf("Apply is %.60s", exact(is))
	}
	if l := s.Free(variable(1)); !slices.Equal(l, []int{4, 3}) {
		t.Errorf("Free is %v", l)
	}
	if l := s.Free(con("g", variable(3), variable(1))); !slices.Equal(l, []int{3, 4}) {
		t.Errorf("Free is %v", l)
	}
	if e := s.Unify(variable(3), con("int")); e != api.OK {
		t.Error(e)
	}
	if l := s.Free(variable(1)); !slices.Equal(l, []int{4}) {
		t.Errorf("Free is %v", l)
	}
	if g := s.General(variable(2), nil); g.Many != 1 || len(g.Type.Args) == 0 {
		t.Errorf("General is %+v", g)
	}
	if g := s.General(variable(2), []api.Type{variable(1)}); !reflect.DeepEqual(g, api.Scheme{}) {
		t.Errorf("General by what is too great is %+v", g)
	}
	if is := s.Instance(api.Scheme{Many: 1, Type: con("f", variable(1), variable(2))}); exact(is) != "f 5 1" {
		t.Errorf("Instance is %+v", is)
	}
}

// Texts of any length are names.
func TestLongNames(t *testing.T) {
	long := strings.Repeat("long", 1<<14)
	s := state(t, 2)
	if e := s.Unify(variable(1), wide(200, con(long))); e != api.OK {
		t.Fatal(e)
	}
	is := types.Show(s.Apply(variable(1)))
	if len(is) != 1+199*(1+len(long)) || !strings.HasSuffix(is, " "+long) {
		t.Errorf("%d bytes", len(is))
	}
	if e := s.Unify(variable(1), wide(200, con(long+"x"))); e != api.ErrType {
		t.Error(e)
	}
	nested := con(long)
	for range 39 {
		nested = con(long, nested)
	}
	if is := types.Show(nested); len(is) != 40*len(long)+39+2*38 {
		t.Errorf("%d bytes", len(is))
	}
}
