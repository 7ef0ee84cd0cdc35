package types_test

import (
	"go/ast"
	"go/parser"
	"go/token"
	"math"
	"path/filepath"
	"reflect"
	"slices"
	"strings"
	"testing"

	"selvage/api"
	"selvage/types"
)

// endless are types that stand in themselves, and ones that are too deep, or too wide, to be gone through whole.
func endless() []api.Type {
	once := con("f", api.Type{})
	once.Args[0] = once
	often := con("f", slices.Repeat([]api.Type{{}}, 5)...)
	for i := range often.Args {
		often.Args[i] = often
	}
	last := con("f", variable(1), con("g"), api.Type{})
	last.Args[2] = last
	inVar := api.Type{Var: 1, Args: make([]api.Type, 2)}
	inVar.Args[0], inVar.Args[1] = inVar, inVar
	nameless := api.Type{Args: make([]api.Type, 2)}
	nameless.Args[0], nameless.Args[1] = nameless, nameless
	down, twice := con("int"), con("int")
	for range 1 << 18 {
		down = con("f", down)
	}
	for range 100 {
		twice = con("f", twice, twice)
	}
	broad := con("f", slices.Repeat([]api.Type{con("int")}, 1<<20)...)
	return []api.Type{once, often, last, inVar, nameless, down, twice, broad, con("f", variable(1), broad, broad), con("f", twice, down)}
}

// R1, R2: each call ends, and none panics, whatever it is asked; beside an error all is zero, and nothing is changed.
func TestEachCallEndsAtAllArguments(t *testing.T) {
	bad := endless()
	for _, v := range []int{math.MinInt, -1, 0, 5, math.MaxInt} {
		for _, name := range []string{"", "f"} {
			for _, args := range [][]api.Type{nil, {}, {{}}, {variable(1)}, {con("f")}, slices.Repeat([]api.Type{variable(2)}, 300)} {
				if u := (api.Type{Var: v, Name: name, Args: args}); !state(t, 4).May(u) {
					bad = append(bad, u)
				}
			}
		}
	}
	good := []api.Type{variable(1), variable(4), con("int"), con("f", variable(1), variable(2)), all(4)}
	s := state(t, 4, "1 = f 2 3")
	was := told(s, 4)
	for _, a := range bad {
		if s.May(a) || types.Show(a) != "" && a.Var < 5 || !reflect.DeepEqual(s.Apply(a), api.Type{}) || len(s.Free(a)) != 0 {
			t.Errorf("a type that may not be is told to be something")
		}
		for _, many := range []int{math.MinInt, -1, 0, 1, 200, 201, math.MaxInt} {
			// The variables 5 to 200 are a scheme's of which as many stand for any types.
			other := state(t, 4)
			if u := other.Instance(api.Scheme{Many: many, Type: a}); !reflect.DeepEqual(u, api.Type{}) && (a.Var != 5 || many < 1 || many > 200) {
				t.Errorf("Instance of %d and a type that may not be is %+v", many, u)
			}
		}
		for _, b := range append(good, bad...) {
			if e, f := s.Unify(a, b), s.Unify(b, a); e != api.ErrArg || f != api.ErrArg {
				t.Errorf("Unify of a type that may not be is %v, and %v", e, f)
			}
			if g := s.General(a, []api.Type{b}); !reflect.DeepEqual(g, api.Scheme{}) {
				t.Errorf("General of a type that may not be is %+v", g)
			}
			if g := s.General(b, []api.Type{variable(1), a}); !reflect.DeepEqual(g, api.Scheme{}) {
				t.Errorf("General by a type that may not be is %+v", g)
			}
		}
	}
	if is := told(s, 4); is != was {
		t.Errorf("what was refused has changed %s to %s", was, is)
	}
	if n := last(s); n != 4 {
		t.Errorf("what was refused has made %d variables", n-4)
	}
}

// taken makes a type of its own, with spare room behind each list.
func taken(t api.Type) api.Type {
	if t.Args == nil {
		return t
	}
	args := make([]api.Type, 0, len(t.Args)+2)
	for _, arg := range t.Args {
		args = append(args, taken(arg))
	}
	args[:len(args)+1][len(args)] = con("spare")
	t.Args = args
	return t
}

// spoil writes over all lists of a type, and their spare room.
func spoil(t api.Type) {
	for i := range t.Args {
		spoil(t.Args[i])
	}
	l := t.Args[:cap(t.Args)]
	for i := range l {
		l[i] = api.Type{Var: -7, Name: "spoiled", Args: []api.Type{{}}}
	}
}

// spared tells whether the spare room behind each list is as it was.
func spared(t api.Type) bool {
	for _, arg := range t.Args {
		if !spared(arg) {
			return false
		}
	}
	return t.Args == nil || t.Args[:len(t.Args)+1][len(t.Args)].Name == "spare"
}

// R4: what is handed in is neither changed nor kept, its spare room neither.
func TestWhatIsHandedInIsLeftAlone(t *testing.T) {
	for _, of := range []string{"f 1 (g 2 int)", "f (g 1) (g 3)", "g 3 (h (i 1))", "f 1 2"} {
		for _, to := range []string{"4", "f 4 5", "f (g 4) 5", "f (g int) (g (h 4))", "g (h 5) 4", "j"} {
			s := state(t, 5, "2 = g 3 3")
			other := state(t, 5, "2 = g 3 3")
			a, b, k := taken(typ(of)), taken(typ(to)), taken(typ("k 3 (l 1)"))
			kept := make([]api.Type, 1, 3)
			kept[0] = k
			kept[:2][1] = con("spare")
			c := api.Scheme{Many: 1, Type: taken(typ("f 2 1 (g 1)"))}
			e := s.Unify(a, b)
			u, l, g, i, w, m := s.Apply(a), s.Free(a), s.General(b, kept), s.Instance(c), types.Show(a), s.May(a)
			if exact(a) != of || exact(b) != to || exact(k) != "k 3 (l 1)" || exact(c.Type) != "f 2 1 (g 1)" || len(kept) != 1 || kept[:2][1].Name != "spare" {
				t.Fatalf("what was handed in has changed: %s, %s, %s, %s", exact(a), exact(b), exact(k), exact(c.Type))
			}
			if !spared(a) || !spared(b) || !spared(k) || !spared(c.Type) {
				t.Fatal("the spare room of what was handed in has changed")
			}
			spoil(a)
			spoil(b)
			spoil(k)
			spoil(c.Type)
			clear(kept[:3])
			if f := other.Unify(typ(of), typ(to)); f != e {
				t.Errorf("Unify of %s and %s is %v, and %v", of, to, e, f)
			}
			x, y := other.Apply(typ(of)), other.General(typ(to), []api.Type{typ("k 3 (l 1)")})
			j := other.Instance(api.Scheme{Many: 1, Type: typ("f 2 1 (g 1)")})
			if !reflect.DeepEqual(x, u) || !reflect.DeepEqual(y, g) || !reflect.DeepEqual(j, i) || !slices.Equal(l, other.Free(typ(of))) || w != types.Show(typ(of)) || !m {
				t.Errorf("by %s and %s: what was told has changed with what was handed in: %+v, %+v, %+v", of, to, u, g, i)
			}
			if is, want := told(s, 6), told(other, 6); is != want {
				t.Errorf("by %s and %s: what was handed in is kept: %s, not %s", of, to, is, want)
			}
		}
	}
}

// lists are where all lists of a type begin.
func lists(t api.Type) []*api.Type {
	var l []*api.Type
	if cap(t.Args) > 0 {
		l = append(l, &t.Args[:1][0])
	}
	for _, arg := range t.Args {
		l = append(l, lists(arg)...)
	}
	return l
}

// R4: what is answered is new memory, at every depth, with its spare room; no two lists of it are one.
func TestWhatIsAnsweredIsNewMemory(t *testing.T) {
	s := state(t, 5, "1 = f 2 2 (g 3)", "2 = g (h 4) 4")
	was := told(s, 5)
	of := typ("i 1 1 (j 2 (k 3))")
	answers := func() []api.Type {
		return []api.Type{
			s.Apply(variable(1)), s.Apply(of), s.Apply(of), s.General(of, nil).Type, s.General(of, []api.Type{variable(3)}).Type,
			s.Instance(api.Scheme{Many: 0, Type: of}), s.Instance(api.Scheme{Many: 0, Type: of}), s.Apply(typ("f (g int) (g int)")),
		}
	}
	all := answers()
	met := map[*api.Type]bool{}
	for _, arg := range lists(of) {
		met[arg] = true
	}
	for i, u := range all {
		for _, l := range lists(u) {
			if met[l] {
				t.Errorf("answer %d shares a list", i)
			}
			met[l] = true
		}
	}
	var texts []string
	for _, u := range all {
		texts = append(texts, exact(u))
	}
	for _, u := range all {
		spoil(u)
	}
	for i, u := range answers() {
		if exact(u) != texts[i] {
			t.Errorf("answer %d was %s, and is %s", i, texts[i], exact(u))
		}
	}
	l := s.Free(of)
	m := s.Free(of)
	for i := range l[:cap(l)] {
		l[:cap(l)][i] = -1
	}
	if is := told(s, 5); is != was || !slices.Equal(s.Free(of), m) {
		t.Errorf("what was told reaches the state: %s, not %s", is, was)
	}
	// And what was told stays, whatever comes.
	u, g, i, l := s.Apply(of), s.General(of, nil), s.Instance(api.Scheme{Many: 1, Type: typ("f 1 4 5")}), s.Free(of)
	want := exact(u) + exact(g.Type) + exact(i) + exact(con("p"))
	frees := slices.Clone(l)
	unify(t, s, typ("p 3 4 5"), typ("p string (list 5) int"))
	if is := exact(u) + exact(g.Type) + exact(i) + exact(con("p")); is != want || !slices.Equal(l, frees) {
		t.Errorf("what was told has changed to %s", is)
	}
}

// R3: fields without a meaning are zero.
func TestOtherFieldsAreZero(t *testing.T) {
	s := state(t, 4, "1 = f 2 (g int) 3")
	var check func(u api.Type)
	check = func(u api.Type) {
		if u.Var != 0 && (u.Name != "" || u.Args != nil) || u.Var == 0 && (u.Name == "" || u.Args != nil && len(u.Args) == 0) {
			t.Errorf("%+v", u)
		}
		for _, arg := range u.Args {
			check(arg)
		}
	}
	of := con("i", variable(1), api.Type{Var: 4, Args: []api.Type{}}, api.Type{Name: "j", Args: []api.Type{}})
	for _, u := range []api.Type{s.Fresh(), s.Apply(of), s.General(of, nil).Type, s.General(of, []api.Type{variable(4)}).Type, s.Instance(api.Scheme{Many: 2, Type: of})} {
		check(u)
	}
}

// R4: nil and empty lists are one.
func TestNilAndEmptyListsAreOne(t *testing.T) {
	s := state(t, 3, "2 = g 3")
	empty := func(u api.Type) api.Type { u.Args = []api.Type{}; return u }
	for _, u := range []api.Type{variable(1), variable(2), con("c")} {
		if !s.May(empty(u)) || types.Show(empty(u)) != types.Show(u) || !reflect.DeepEqual(s.Apply(empty(u)), s.Apply(u)) || !slices.Equal(s.Free(empty(u)), s.Free(u)) {
			t.Errorf("%+v is another one with an empty list", u)
		}
		if !reflect.DeepEqual(s.General(con("f", empty(u)), []api.Type{}), s.General(con("f", u), nil)) {
			t.Errorf("General of %+v is another one with an empty list", u)
		}
		if e := s.Unify(empty(u), u); e != api.OK {
			t.Errorf("%+v is not the same with an empty list: %v", u, e)
		}
	}
	if !reflect.DeepEqual(s.Instance(api.Scheme{Type: empty(variable(2))}), variable(2)) {
		t.Error("Instance of a variable with an empty list")
	}
	if e := s.Unify(variable(1), empty(con("c"))); e != api.OK || exact(s.Apply(variable(1))) != "c" || s.Apply(variable(1)).Args != nil {
		t.Errorf("%v, %+v", e, s.Apply(variable(1)))
	}
}

// R5: the same calls tell the same; what others are told, and what is only asked or refused, does not count.
func TestSameCallsTellTheSame(t *testing.T) {
	run := func(noise bool) []string {
		s, other := types.New(), types.New()
		var l []string
		for i := range 60 {
			v := s.Fresh()
			if noise {
				other.Fresh()
				other.Unify(variable(1), con("g", variable(i+1)))
				s.Unify(con("f", v, con("int")), con("f", con("int"), con("string")))
				s.Unify(v, con("f", v))
				s.Unify(v, deep(41, con("int")))
				s.Unify(con("f", v, con("g", v, v)), con("f", bushy(100, con("int")), con("g", v, v)))
				s.Instance(api.Scheme{Many: 3, Type: variable(1 << 40)})
				s.Instance(api.Scheme{Many: -1, Type: v})
				s.General(v, []api.Type{{}})
				s.Apply(v)
				s.Free(con("f", v))
				s.May(con("f", variable(99)))
			}
			w := variable(1 + i*i%(i+1))
			e := s.Unify(con("f", v, w), con("f", con("g", variable(1+i/2)), variable(1+i/3)))
			l = append(l, e.Error(), told(s, i+1), exact(s.General(all(i+1), []api.Type{w}).Type), exact(s.Instance(api.Scheme{Many: 0, Type: con("g", w)})))
		}
		return l
	}
	want := run(false)
	for range 5 {
		if is := run(false); !slices.Equal(is, want) {
			t.Fatal("the same calls tell other things")
		}
		if is := run(true); !slices.Equal(is, want) {
			t.Fatal("what is asked, or refused, counts")
		}
	}
}

// Ways: bindings stand in a map, of which a copy is kept; letters are told by a closure; pairs are keys that are arrays; a pass embeds the state.
func TestWays(t *testing.T) {
	names, err := filepath.Glob("*.go")
	if err != nil {
		t.Fatal(err)
	}
	found := map[string]bool{}
	for _, name := range names {
		if strings.HasSuffix(name, "_test.go") {
			continue
		}
		file, err := parser.ParseFile(token.NewFileSet(), name, nil, 0)
		if err != nil {
			t.Fatal(err)
		}
		ast.Inspect(file, func(n ast.Node) bool {
			switch x := n.(type) {
			case *ast.Field:
				m, is := x.Type.(*ast.MapType)
				if !is {
					of, is := x.Type.(*ast.Ident)
					found["embeds"] = found["embeds"] || is && len(x.Names) == 0 && of.Name == "State"
					return true
				}
				if _, is = m.Key.(*ast.ArrayType); is {
					found["pairs"] = true
				} else {
					found["map"] = true
				}
			case *ast.FuncLit:
				found["closure"] = true
			case *ast.SelectorExpr:
				of, is := x.X.(*ast.Ident)
				found["copy"] = found["copy"] || is && of.Name == "maps" && x.Sel.Name == "Copy"
			}
			return true
		})
	}
	for _, way := range []string{"map", "copy", "closure", "pairs", "embeds"} {
		if !found[way] {
			t.Errorf("way missing: %s", way)
		}
	}
}
