package core_test

import (
	"slices"
	"strconv"
	"strings"
	"testing"

	"selvage/api"
	"selvage/core"
	"selvage/fold"
	"selvage/infer"
	"selvage/ints"
	"selvage/parse"
)

// What functions do is what the source does: both are run as the document's beginning has them, one thread behind the other.

// value is what an exp comes to: an int (a constructor with nothing behind it is its tag), a string, a *made, a *ref, or a closure of one of both kinds.
type value any

type made struct {
	tag   int
	parts []value
}

type ref struct {
	number int
	is     value
}

// What ends an exp ahead of its end.
type (
	raised int      // an error
	waits  struct{} // retry
	stops  struct{} // it takes too long, or no row means the value
)

// runner tells what is done.
type runner struct {
	tags map[string]int
	did  []string
	left int
	refs int
	deep int
}

func (r *runner) tells(words ...string) { r.did = append(r.did, strings.Join(words, " ")) }

// begins begins an exp; what it answers ends it.
func (r *runner) begins() func() {
	r.deep++
	if r.left--; r.left < 0 || r.deep > 2000 {
		panic(stops{})
	}
	return func() { r.deep-- }
}

// part does something, and tells what ended it ahead of its end.
func (r *runner) part(do func() value) (v value, ends any) {
	deep := r.deep
	defer func() {
		if ends = recover(); ends != nil {
			r.deep = deep
		}
	}()
	return do(), nil
}

// thread does what a thread of its own does.
func (r *runner) thread(do func() value) {
	v, ends := r.part(do)
	switch x := ends.(type) {
	case nil:
		r.tells("end", shown(v))
	case raised:
		r.tells("fault", strconv.Itoa(int(x)))
	case waits:
		r.tells("wait")
	default:
		panic(ends)
	}
}

// try is what comes of something, or of what is done with its error.
func (r *runner) try(do func() value, with func(int) value) value {
	v, ends := r.part(do)
	switch x := ends.(type) {
	case nil:
		return v
	case raised:
		return with(int(x))
	}
	panic(ends)
}

// orelse is what comes of the first, or of the second, if that would wait.
func (r *runner) orelse(first, second func() value) value {
	r.tells("orelse")
	v, ends := r.part(first)
	switch ends.(type) {
	case nil:
		return v
	case waits:
		return second()
	}
	panic(ends)
}

func (r *runner) atom(do func() value) value {
	r.tells("begin")
	v := do()
	r.tells("commit", shown(v))
	return v
}

func (r *runner) tvar(v value) value {
	r.refs++
	to := &ref{r.refs, v}
	r.tells(shown(to), "is", shown(v))
	return to
}

func (r *runner) read(v value) value {
	r.tells(shown(v), "read", shown(v.(*ref).is))
	return v.(*ref).is
}

func (r *runner) write(v, to value) value {
	r.tells(shown(v), "write", shown(to))
	v.(*ref).is = to
	return 0
}

// summed is what comes of an operation.
func summed(sign string, a, b value) value {
	if x, is := a.(string); is {
		if len(x+b.(string)) > 60 {
			panic(raised(-2))
		}
		return x + b.(string)
	}
	n, e := ints.Do(sign, a.(int), b.(int))
	if e != api.OK {
		panic(raised(-1))
	}
	return n
}

// shown is a value as a text.
func shown(v value) string {
	switch x := v.(type) {
	case int:
		return strconv.Itoa(x)
	case string:
		return strconv.Quote(x)
	case *ref:
		return "var " + strconv.Itoa(x.number)
	case *made:
		s := "(" + strconv.Itoa(x.tag)
		for _, p := range x.parts {
			s += " " + shown(p)
		}
		return s + ")"
	}
	return "fun"
}

// known is a name of a source, and what it is.
type known struct {
	name   string
	is     value
	around *known
}

// fun is a fun of a source.
type fun struct {
	param, self string // its own name, of a let rec
	body        api.Node
	around      *known
}

// run is what comes of an exp of a source.
func (r *runner) run(n api.Node, around *known) value {
	defer r.begins()()
	is := func(i int) value { return r.run(n.Kids[i], around) }
	later := func(i int) func() value { return func() value { return is(i) } }
	switch n.Kind {
	case api.NodeInt:
		return n.Number
	case api.NodeText:
		return n.Text
	case api.NodeUnit:
		return 0
	case api.NodeName:
		k := around
		for k.name != n.Text {
			k = k.around
		}
		return k.is
	case api.NodeCon:
		m := &made{tag: r.tags[n.Text]}
		for i := range n.Kids {
			m.parts = append(m.parts, is(i))
		}
		if len(m.parts) == 0 {
			return m.tag
		}
		return m
	case api.NodeFun:
		return &fun{param: n.Text, body: n.Kids[0], around: around}
	case api.NodeCall:
		f, x := is(0).(*fun), is(1)
		within := f.around
		if f.self != "" {
			within = &known{f.self, f, within}
		}
		return r.run(f.body, &known{f.param, x, within})
	case api.NodeLet:
		return r.run(n.Kids[1], &known{n.Text, is(0), around})
	case api.NodeRec:
		return r.run(n.Kids[1], &known{n.Text, recursive(n, around), around})
	case api.NodeIf:
		if is(0).(int) == 1 {
			return is(1)
		}
		return is(2)
	case api.NodeMatch:
		v := is(0)
		for i := 1; i < len(n.Kids); i += 2 {
			if names, means := r.matched(n.Kids[i], v, around); means {
				return r.run(n.Kids[i+1], names)
			}
		}
		panic(stops{})
	case api.NodeTry:
		return r.try(later(0), func(e int) value { return r.run(n.Kids[1], &known{n.Text, e, around}) })
	case api.NodeOp:
		return summed(n.Text, is(0), is(1))
	case api.NodeSeq:
		is(0)
		return is(1)
	case api.NodePrint:
		r.tells("print", shown(is(0)))
	case api.NodeRaise:
		panic(raised(is(0).(int)))
	case api.NodeSpawn:
		r.tells("spawn")
		r.thread(later(0))
	case api.NodeAtom:
		return r.atom(later(0))
	case api.NodeRetry:
		panic(waits{})
	case api.NodeElse:
		return r.orelse(later(0), later(1))
	case api.NodeTvar:
		return r.tvar(is(0))
	case api.NodeRead:
		return r.read(is(0))
	case api.NodeWrite:
		return r.write(is(0), is(1))
	}
	return 0
}

func recursive(n api.Node, around *known) value {
	return &fun{param: n.Kids[0].Text, self: n.Text, body: n.Kids[0].Kids[0], around: around}
}

// matched tells whether a pattern means a value, and the names that there are then.
func (r *runner) matched(p api.Node, v value, around *known) (*known, bool) {
	switch p.Kind {
	case api.NodeName:
		return &known{p.Text, v, around}, true
	case api.NodeInt:
		return around, v.(int) == p.Number
	case api.NodeCon:
		tag, parts := opened(v)
		if tag != r.tags[p.Text] {
			return around, false
		}
		for i, k := range p.Kids {
			var means bool
			if around, means = r.matched(k, parts[i], around); !means {
				return around, false
			}
		}
	}
	return around, true
}

// opened is a value's number or tag, and what stands behind it.
func opened(v value) (int, []value) {
	if m, is := v.(*made); is {
		return m.tag, m.parts
	}
	return v.(int), nil
}

// program does what a source's program does.
func (r *runner) program(n api.Node) value {
	var around *known
	last := len(n.Kids) - 1
	for _, k := range n.Kids[:last] {
		switch k.Kind {
		case api.NodeVal:
			around = &known{k.Text, r.run(k.Kids[0], around), around}
			r.tells("let", shown(around.is))
		case api.NodeValRec:
			around = &known{k.Text, recursive(k, around), around}
			r.tells("let", "fun")
		}
	}
	return r.run(n.Kids[last], around)
}

// closure is one of a function.
type closure struct {
	fun  int
	kept []value
}

// frame is a function that is gone into.
type frame struct {
	own    *closure
	locals []value
}

// machine has functions, and the program's lets.
type machine struct {
	*runner
	funs []api.Fun
	lets []value
}

// enter is what comes of a function.
func (m *machine) enter(c *closure, x value) value {
	f := &frame{c, make([]value, m.funs[c.fun].Locals)}
	if c.fun > 0 {
		f.locals[0] = x
	}
	return m.core(m.funs[c.fun].Body, f)
}

// core is what comes of a core within a function.
func (m *machine) core(c api.Core, f *frame) value {
	defer m.begins()()
	is := func(i int) value { return m.core(c.Kids[i], f) }
	later := func(i int) func() value { return func() value { return is(i) } }
	switch c.Kind {
	case api.CoreInt:
		return c.Number
	case api.CoreText:
		return c.Text
	case api.CoreLocal:
		return f.locals[c.Number]
	case api.CoreKept:
		return f.own.kept[c.Number]
	case api.CoreSelf:
		return f.own
	case api.CoreName:
		return m.lets[c.Number]
	case api.CoreMake:
		made := &made{tag: c.Number}
		for i := range c.Kids {
			made.parts = append(made.parts, is(i))
		}
		return made
	case api.CoreFun:
		own := &closure{fun: c.Number}
		for i := range c.Kids {
			own.kept = append(own.kept, is(i))
		}
		return own
	case api.CoreCall:
		own, x := is(0).(*closure), is(1)
		return m.enter(own, x)
	case api.CoreLet:
		f.locals[c.Number] = is(0)
		return is(1)
	case api.CoreIf:
		if is(0).(int) != 0 {
			return is(1)
		}
		return is(2)
	case api.CoreMatch:
		f.locals[c.Number] = is(0)
		row := m.asks(c.Tree, f.locals[c.Number])
		for _, b := range c.Binds[row] {
			f.locals[b.Local] = at(f.locals[c.Number], b.Path)
		}
		return is(1 + row)
	case api.CoreTry:
		return m.try(later(0), func(e int) value {
			f.locals[c.Number] = e
			return is(1)
		})
	case api.CoreOp:
		return summed(c.Text, is(0), is(1))
	case api.CoreSeq:
		is(0)
		return is(1)
	case api.CorePrint:
		m.tells("print", shown(is(0)))
	case api.CoreRaise:
		panic(raised(is(0).(int)))
	case api.CoreSpawn:
		own := is(0).(*closure)
		m.tells("spawn")
		m.thread(func() value { return m.enter(own, 0) })
	case api.CoreAtom:
		return m.atom(later(0))
	case api.CoreRetry:
		panic(waits{})
	case api.CoreElse:
		return m.orelse(later(0), later(1))
	case api.CoreTvar:
		return m.tvar(is(0))
	case api.CoreRead:
		return m.read(is(0))
	case api.CoreWrite:
		return m.write(is(0), is(1))
	case api.CoreStore:
		m.lets = append(m.lets, is(0))
		m.tells("let", shown(m.lets[c.Number]))
	}
	return 0
}

// asks is the row that a tree tells of a value.
func (m *machine) asks(t api.Tree, v value) int {
	if len(t.Cases) == 0 {
		return t.Row
	}
	is, _ := opened(at(v, t.Path))
	for _, c := range t.Cases {
		if c.Con == "" && c.Number == is || c.Con != "" && m.tags[c.Con] == is {
			return m.asks(c.Tree, v)
		}
	}
	return m.asks(t.Rest[0], v)
}

// at is what stands at a path in a value.
func at(v value, path []int) value {
	for _, i := range path {
		_, parts := opened(v)
		v = parts[i]
	}
	return v
}

// does is what something does, and false, if that takes too long.
func does(cons []api.Con, most int, do func(*runner) value) (did []string, ends bool) {
	r := &runner{left: most, tags: map[string]int{}}
	for _, c := range cons {
		r.tags[c.Name] = c.Tag
	}
	defer func() {
		if e := recover(); e != nil {
			if _, is := e.(stops); !is {
				panic(e)
			}
			did, ends = nil, false
		}
	}()
	r.thread(func() value { return do(r) })
	return r.did, true
}

// same holds that the functions of a program that is right do what it does, as it is and folded. It tells whether it is one that comes to its end.
func same(t *testing.T, n api.Node) bool {
	t.Helper()
	r, _, e := infer.Program(n)
	if e != api.OK {
		return false
	}
	funs, _, e := core.Program(n, r.Cons)
	if e != api.OK {
		return false
	}
	did, ends := does(r.Cons, 20000, func(r *runner) value { return r.program(n) })
	if !ends {
		return false
	}
	runs := func(funs []api.Fun) []string {
		l, _ := does(r.Cons, 80000, func(r *runner) value { return (&machine{runner: r, funs: funs}).enter(&closure{}, nil) })
		return l
	}
	if now := runs(funs); !slices.Equal(now, did) {
		t.Errorf("%+v does %q, but\n%s\n%q", n, did, strings.Join(told(funs), "\n"), now)
	}
	folded, _, e := core.Program(fold.Program(n), r.Cons)
	if now := runs(folded); e != api.OK || !slices.Equal(now, did) {
		t.Errorf("%+v does %q, but folded, %v,\n%s\n%q", n, did, e, strings.Join(told(folded), "\n"), now)
	}
	return true
}

// bound is a name, and of which type it is.
type bound struct{ name, is string }

func with(around []bound, name, is string) []bound {
	return append(around[:len(around):len(around)], bound{name, is})
}

// sort is some type.
func (d *dice) sort() string {
	return d.pick("int", "int", "string", "bool", "unit", "list", "three", "fun", "fun2", "var")
}

// atom is a small exp of a type.
func (d *dice) atom(of string, around []bound) string {
	var l []string
	for i, b := range around {
		// A name that is given anew is of its last type alone.
		anew := slices.ContainsFunc(around[i+1:], func(c bound) bool { return c.name == b.name })
		if b.is == of && !anew {
			l = append(l, b.name)
		}
	}
	if len(l) > 0 && d.below(6) > 0 {
		return d.pick(l...)
	}
	x := d.pick("x", "y", "z")
	switch of {
	case "int":
		return d.pick("0", "1", "2", "7")
	case "string":
		return d.pick("\"\"", "\"a\"", "\"bc\"")
	case "bool":
		return d.pick("True", "False")
	case "list":
		return d.pick("Nil", "(Cons 1 Nil)")
	case "three":
		return d.pick("One", "Two", "(Three 1 Two)")
	case "var":
		return "(tvar " + d.atom("int", around) + ")"
	case "fun":
		return "(fun " + x + " -> " + d.atom("int", with(around, x, "int")) + ")"
	case "fun2":
		return "(fun " + x + " -> fun y -> " + d.atom("int", with(with(around, x, "int"), "y", "int")) + ")"
	}
	return "()"
}

// typed is an exp of a type with so many others in it, most often one that is right at a place of an effect.
func (d *dice) typed(of, place string, many int, around []bound) string {
	if many <= 0 {
		return d.atom(of, around)
	}
	half := d.below(many)
	exp := func(of string, around []bound) string { return d.typed(of, place, half, around) }
	last := func(of string, around []bound) string { return d.typed(of, place, many-1-half, around) }
	x, y, some := d.pick("x", "y", "f", "v", "g"), d.pick("x", "y", "z"), d.sort()
	switch d.below(18) {
	case 0, 1, 2:
		return "(let " + x + " = " + exp(some, around) + " in " + last(of, with(around, x, some)) + ")"
	case 3, 4:
		rec := with(around, x, "fun")
		inner := with(rec, y, "int")
		return "(let rec " + x + " = fun " + y + " -> if " + y + " < 1 then " + d.atom("int", inner) + " else " + d.pick(d.typed("int", place, half, inner), d.typed("int", place, half, inner)+" + "+x+" ("+y+" - 1)") + " in " + last(of, rec) + ")"
	case 5:
		return "(if " + exp("bool", around) + " then " + last(of, around) + " else " + d.atom(of, around) + ")"
	case 6:
		return "(" + exp(some, around) + "; " + last(of, around) + ")"
	case 7, 8:
		return "(match " + exp("list", around) + " with | Nil -> " + d.atom(of, around) + " | Cons " + x + " z -> " + last(of, with(with(around, x, "int"), "z", "list")) + " end)"
	case 9:
		three := with(with(around, x, "int"), "z", "three")
		return "(match " + exp("three", around) + " with | One -> " + d.atom(of, around) + " | Three 1 (Three " + x + " z) -> " + last(of, three) + " | Three _ Two -> " + d.atom(of, around) + " | Two -> " + d.atom(of, around) + " | Three " + x + " z -> " + d.atom(of, three) + " end)"
	case 10:
		return "(match " + exp("int", around) + " with | 1 -> " + d.atom(of, around) + " | " + x + " -> " + last(of, with(around, x, "int")) + " end)"
	case 11:
		return "(try " + exp(of, around) + " with " + x + " -> " + last(of, with(around, x, "int")) + " end)"
	case 12:
		if d.below(4) == 0 {
			return "(raise " + last("int", around) + ")"
		}
	case 13, 14:
		if s := d.placed(of, place, many-1, around); s != "" {
			return s
		}
	}
	switch of {
	case "int":
		switch d.below(4) {
		case 0:
			return "(" + exp("fun", around) + " " + last("int", around) + ")"
		case 1:
			return "(" + exp("fun2", around) + " " + last("int", around) + " " + d.atom("int", around) + ")"
		}
		return "(" + exp("int", around) + d.pick(" + ", " - ", " * ", " / ", " % ") + last("int", around) + ")"
	case "bool":
		return "(" + exp("int", around) + d.pick(" = ", " < ") + last("int", around) + ")"
	case "string":
		return "(" + exp("string", around) + " ^ " + last("string", around) + ")"
	case "list":
		return "(Cons " + exp("int", around) + " " + last("list", around) + ")"
	case "three":
		return "(Three " + exp("int", around) + " " + last("three", around) + ")"
	case "var":
		return "(tvar " + last("int", around) + ")"
	case "fun":
		return "(fun " + x + " -> " + last("int", with(around, x, "int")) + ")"
	case "fun2":
		return "(fun " + x + " -> " + last("fun", with(around, x, "int")) + ")"
	}
	return "(" + exp(some, around) + "; ())"
}

// placed is an exp that may stand in a place of an effect alone; none, if there is none of the type.
func (d *dice) placed(of, place string, many int, around []bound) string {
	switch {
	case place == "IO" && of == "unit":
		return d.pick("(print "+d.typed("string", place, many, around)+")", "(spawn "+d.typed(d.sort(), "IO", many, around)+")")
	case place == "IO":
		return "(atomically " + d.typed(of, "STM", many, around) + ")"
	case of == "unit":
		return "(write " + d.typed("var", place, many/2, around) + " " + d.typed("int", place, many/2, around) + ")"
	case of == "int" && d.below(3) > 0:
		return "(read " + d.typed("var", place, many, around) + ")"
	}
	return d.pick("(orelse "+d.typed(of, place, many/2, around)+" "+d.typed(of, place, many/2, around)+")", "retry")
}

// T1, P12.1: functions do what their source does.
func TestFunctionsDoTheSame(t *testing.T) {
	d, many := dice(4), 0
	for i := range 4000 {
		s := declared
		var around []bound
		for range d.below(5) {
			x, is := d.pick("x", "y", "f", "v", "w"), d.sort()
			if d.below(5) == 0 {
				around = with(around, x, "fun")
				s += "let rec " + x + " = fun y -> if y < 1 then 1 else " + d.typed("int", "IO", d.below(6), with(around, "y", "int")) + "; "
				continue
			}
			s += "let " + x + " = " + d.typed(is, "IO", d.below(8), around) + "; "
			around = with(around, x, is)
		}
		n, _, e := parse.Program(s + "do " + d.typed(d.sort(), "IO", i%30, around))
		if e == api.OK && same(t, n) {
			many++
		}
	}
	if many < 2000 {
		t.Errorf("%d programs are right, and come to their end", many)
	}
}

// T1: programs of some length, and what they print, or end with.
func TestKnownPrograms(t *testing.T) {
	for s, want := range map[string]string{
		"let rec map = fun f -> fun l -> match l with | Nil -> Nil | Cons h t -> Cons (f h) (map f t) end; let rec sum = fun l -> match l with | Nil -> 0 | Cons h t -> h + sum t end; do sum (map (fun x -> x * x) (Cons 1 (Cons 2 (Cons 3 Nil))))": "end 14",
		"let rec fib = fun n -> if n < 2 then n else fib (n - 1) + fib (n - 2); do fib 12":                                                                                             "end 144",
		"let compose = fun f -> fun g -> fun x -> f (g x); let rec times = fun n -> fun f -> if n = 0 then fun x -> x else compose f (times (n - 1) f); do times 5 (fun x -> x * 2) 1": "end 32",
		"do let rec ack = fun m -> fun n -> if m = 0 then n + 1 else if n = 0 then ack (m - 1) 1 else ack (m - 1) (ack m (n - 1)) in ack 2 3":                                          "end 9",
		"let v = tvar 0; let add = fun n -> atomically (write v (read v + n)); do spawn (add 1; add 2); (let x = 5 in spawn (add x)); add 10; atomically (read v)":                     "end 18",
		"do let x = 1 in try (let y = 2 in raise (x + y)) with e -> try raise e with x -> x * 10 + e end end":                                                                          "end 33",
		"do match Three 1 (Three 2 Two) with | Three a (Three b c) -> (match c with | Two -> let f = fun z -> a + b * z in f 10 | _ -> 0 end) | _ -> 1 end":                            "end 21",
		"do let a = 1 in let f = fun x -> let b = 2 in fun y -> let c = 3 in fun z -> a + b * 10 + c * 100 + x * 1000 + y * 10000 + z * 100000 in f 4 5 6":                             "end 654321",
	} {
		n, cons := right(t, declared+s)
		did, ends := does(cons, 80000, func(r *runner) value { return r.program(n) })
		if !ends || did[len(did)-1] != want {
			t.Errorf("%s: %v, not %s", s, did, want)
		}
		funs, _, _ := core.Program(n, cons)
		did, _ = does(cons, 200000, func(r *runner) value { return (&machine{runner: r, funs: funs}).enter(&closure{}, nil) })
		if len(did) == 0 || did[len(did)-1] != want {
			t.Errorf("the functions of %s: %v, not %s", s, did, want)
		}
	}
}
