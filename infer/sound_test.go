package infer_test

import (
	"strings"
	"testing"

	"selvage/api"
	"selvage/infer"
	"selvage/parse"
)

// What is right never goes wrong: programs are run as the document's beginning has them, one thread behind the other.

// value is what an exp comes to: an int, a string, a made, a closure or a ref.
type value any

type made struct {
	con   string
	parts []value
}

type closure struct {
	param, self string // its own name, of a let rec
	body        api.Node
	around      *known
}

type ref struct{ is value }

// known is a name, and what it is.
type known struct {
	name   string
	is     value
	around *known
}

// What ends an exp ahead of its end.
type (
	raised int      // an error
	waits  struct{} // retry
	stops  struct{} // it takes too long, or no row means the value
	stuck  string   // what may never be
)

// runner runs a program.
type runner struct {
	left   int
	atom   bool // within atomically
	wrote  []func()
	inside int
}

func (r *runner) run(n api.Node, around *known) value {
	r.inside++
	defer func() { r.inside-- }()
	if r.left--; r.left < 0 || r.inside > 2000 {
		panic(stops{})
	}
	is := func(i int) value { return r.run(n.Kids[i], around) }
	switch n.Kind {
	case api.NodeInt:
		return n.Number
	case api.NodeText:
		return n.Text
	case api.NodeUnit:
		return made{}
	case api.NodeName:
		for k := around; k != nil; k = k.around {
			if k.name == n.Text {
				return k.is
			}
		}
		panic(stuck("a name that there is not"))
	case api.NodeCon:
		m := made{con: n.Text}
		for i := range n.Kids {
			m.parts = append(m.parts, is(i))
		}
		return m
	case api.NodeFun:
		return &closure{param: n.Text, body: n.Kids[0], around: around}
	case api.NodeCall:
		return r.call(is(0), is(1))
	case api.NodeLet:
		return r.run(n.Kids[1], &known{n.Text, is(0), around})
	case api.NodeRec:
		return r.run(n.Kids[1], &known{n.Text, recursive(n, around), around})
	case api.NodeIf:
		if truth(is(0)) {
			return is(1)
		}
		return is(2)
	case api.NodeMatch:
		v := is(0)
		for i := 1; i < len(n.Kids); i += 2 {
			if names, means := matched(n.Kids[i], v, around); means {
				return r.run(n.Kids[i+1], names)
			}
		}
		panic(stops{})
	case api.NodeOp:
		return op(n.Text, is(0), is(1))
	case api.NodeSeq:
		is(0)
		return is(1)
	}
	return r.does(n, around)
}

// does is for what raises, has an effect, or is a var.
func (r *runner) does(n api.Node, around *known) value {
	is := func(i int) value { return r.run(n.Kids[i], around) }
	switch n.Kind {
	case api.NodeTry:
		return r.try(n, around)
	case api.NodeRaise:
		panic(raised(as[int](is(0))))
	case api.NodePrint:
		as[string](is(0))
		r.place(false)
	case api.NodeSpawn:
		r.place(false)
		func() {
			defer r.back(r.inside)
			is(0)
		}()
	case api.NodeAtom:
		r.place(false)
		return r.part(func() value {
			r.atom = true
			defer func() { r.atom = false }()
			return is(0)
		})
	case api.NodeRetry:
		r.place(true)
		panic(waits{})
	case api.NodeElse:
		r.place(true)
		return r.orelse(func() value { return is(0) }, func() value { return is(1) })
	case api.NodeTvar:
		return &ref{is(0)}
	case api.NodeRead:
		v := as[*ref](is(0))
		r.place(true)
		return v.is
	case api.NodeWrite:
		v, to := as[*ref](is(0)), is(1)
		r.place(true)
		was := v.is
		r.wrote = append(r.wrote, func() { v.is = was })
		v.is = to
	}
	return made{}
}

// place holds that it is within atomically, or not.
func (r *runner) place(atom bool) {
	if r.atom != atom {
		panic(stuck("something at a place of another effect"))
	}
}

// part does something of which no write is left, if it does not end as it should.
func (r *runner) part(do func() value) value {
	from, well := len(r.wrote), false
	defer func() {
		for i := len(r.wrote) - 1; !well && i >= from; i-- {
			r.wrote[i]()
		}
	}()
	v := do()
	well = true
	return v
}

func (r *runner) orelse(one, other func() value) (v value) {
	inside := r.inside
	defer func() {
		if e := recover(); e != nil {
			if _, is := e.(waits); !is {
				panic(e)
			}
			r.inside = inside
			v = r.part(other)
		}
	}()
	return r.part(one)
}

func (r *runner) try(n api.Node, around *known) (v value) {
	atom, inside := r.atom, r.inside
	defer func() {
		if e := recover(); e != nil {
			n1, is := e.(raised)
			if !is {
				panic(e)
			}
			r.atom, r.inside = atom, inside
			v = r.run(n.Kids[1], &known{n.Text, int(n1), around})
		}
	}()
	return r.run(n.Kids[0], around)
}

// back is for what a thread of its own does: it ends by itself.
func (r *runner) back(inside int) {
	switch e := recover().(type) {
	case nil, raised, waits:
		r.atom, r.inside = false, inside
	default:
		panic(e)
	}
}

func (r *runner) call(f, x value) value {
	c := as[*closure](f)
	around := c.around
	if c.self != "" {
		around = &known{c.self, c, around}
	}
	return r.run(c.body, &known{c.param, x, around})
}

func recursive(n api.Node, around *known) value {
	return &closure{param: n.Kids[0].Text, self: n.Text, body: n.Kids[0].Kids[0], around: around}
}

// as is a value as what it must be.
func as[V any](v value) V {
	is, may := v.(V)
	if !may {
		panic(stuck("a value of another type"))
	}
	return is
}

func truth(v value) bool {
	m := as[made](v)
	if m.con != "True" && m.con != "False" || len(m.parts) > 0 {
		panic(stuck("no bool"))
	}
	return m.con == "True"
}

func bools(is bool) value {
	if is {
		return made{con: "True"}
	}
	return made{con: "False"}
}

func op(sign string, a, b value) value {
	if sign == "^" {
		return as[string](a) + as[string](b)
	}
	x, y := as[int](a), as[int](b)
	switch sign {
	case "=":
		return bools(x == y)
	case "<":
		return bools(x < y)
	case "+":
		return x + y
	case "-":
		return x - y
	case "*":
		return x * y
	}
	if y == 0 {
		panic(raised(-1))
	}
	return x / y
}

// matched tells whether a pattern means a value, and the names that there are then.
func matched(p api.Node, v value, around *known) (*known, bool) {
	switch p.Kind {
	case api.NodeName:
		return &known{p.Text, v, around}, true
	case api.NodeInt:
		return around, as[int](v) == p.Number
	case api.NodeCon:
		m := as[made](v)
		if m.con == "" {
			panic(stuck("nothing made"))
		}
		if m.con != p.Text {
			return around, false
		}
		for i, k := range p.Kids {
			var means bool
			if around, means = matched(k, m.parts[i], around); !means {
				return around, false
			}
		}
	}
	return around, true
}

// of tells whether a value is of a type. Of a type that is any there is none.
func of(v value, t api.Type, r api.Result) bool {
	switch x := v.(type) {
	case int:
		return t.Name == "int"
	case string:
		return t.Name == "string"
	case *ref:
		return t.Name == "var"
	case *closure:
		return t.Name == "->"
	case made:
		for _, c := range r.Cons {
			if c.Name == x.con {
				return c.Of == t.Name && c.Arity == len(x.parts)
			}
		}
		return t.Name == "unit"
	}
	return false
}

// runs runs a program that is right; it tells whether it came to its end.
func runs(t *testing.T, n api.Node, is api.Result) (ended bool) {
	t.Helper()
	r := &runner{left: 3000}
	defer func() {
		if s, wrong := recover().(stuck); wrong {
			t.Errorf("%s: %s", source(n), string(s))
		}
	}()
	var around *known
	lets := 0
	let := func(n api.Node, v value) {
		if !of(v, is.Types[lets].Type, is) {
			t.Errorf("%s: %s is another value: %v", source(n), n.Text, v)
		}
		lets++
		around = &known{n.Text, v, around}
	}
	last := len(n.Kids) - 1
	for _, k := range n.Kids[:last] {
		switch k.Kind {
		case api.NodeVal:
			let(k, r.run(k.Kids[0], around))
		case api.NodeValRec:
			let(k, recursive(k, around))
		}
	}
	if v := r.run(n.Kids[last], around); !of(v, is.Main, is) {
		t.Errorf("%s is another value: %v", source(n), v)
	}
	return true
}

// P8.3, T3: what is done by IO never stands within atomically, and what is right never goes wrong.
func TestWhatIsRightNeverGoesWrong(t *testing.T) {
	d := dice(4)
	many, ended := 0, 0
	for i := range 5000 {
		s := d.program(3 + i%20)
		if i%3 == 0 {
			s = d.ahead() + "do " + d.wild(1+i%5)
		}
		n, _, e := parse.Program(strings.Replace(s, "let e = raise 1; ", "let e = (fun x -> x) 1; ", 1))
		if e != api.OK {
			continue
		}
		if r, _, e := infer.Program(n); e == api.OK {
			many++
			if runs(t, n, r) {
				ended++
			}
		}
	}
	if many < 1000 || ended < many/3 {
		t.Errorf("of %d that are right %d came to their end", many, ended)
	}
}
