package fold_test

import (
	"slices"
	"strconv"
	"strings"
	"testing"

	"selvage/api"
	"selvage/fold"
	"selvage/infer"
	"selvage/ints"
	"selvage/parse"
)

// What is folded does the same: programs are run as the document's beginning has them, one thread behind the other.

// value is what an exp comes to: an int, a string, a *made, a *closure or a *ref.
type value any

type made struct {
	con   string
	parts []value
}

type closure struct {
	param, self string // its own name, of a let rec
	body        api.Node
	around      *known
}

type ref struct {
	number int
	is     value
}

// known is a name, and what it is.
type known struct {
	name   string
	is     value
	around *known
}

// What ends an exp ahead of its end.
type (
	raised int      // an error
	waits  struct{} // retry
	stops  struct{} // it takes too long, or no row means the value
)

// runner runs a program, and tells what it does.
type runner struct {
	did  []string
	left int
	refs int
	deep int
}

func (r *runner) tells(words ...string) { r.did = append(r.did, strings.Join(words, " ")) }

func (r *runner) run(n api.Node, around *known) value {
	r.deep++
	defer func() { r.deep-- }()
	if r.left--; r.left < 0 || r.deep > 2000 {
		panic(stops{})
	}
	is := func(i int) value { return r.run(n.Kids[i], around) }
	switch n.Kind {
	case api.NodeInt:
		return n.Number
	case api.NodeText:
		return n.Text
	case api.NodeUnit:
		return &made{}
	case api.NodeName:
		k := around
		for k.name != n.Text {
			k = k.around
		}
		return k.is
	case api.NodeCon:
		m := &made{con: n.Text}
		for i := range n.Kids {
			m.parts = append(m.parts, is(i))
		}
		return m
	case api.NodeFun:
		return &closure{param: n.Text, body: n.Kids[0], around: around}
	case api.NodeCall:
		c, x := is(0).(*closure), is(1)
		within := c.around
		if c.self != "" {
			within = &known{c.self, c, within}
		}
		return r.run(c.body, &known{c.param, x, within})
	case api.NodeLet:
		return r.run(n.Kids[1], &known{n.Text, is(0), around})
	case api.NodeRec:
		return r.run(n.Kids[1], &known{n.Text, recursive(n, around), around})
	case api.NodeIf:
		if is(0).(*made).con == "True" {
			return is(1)
		}
		return is(2)
	case api.NodeMatch:
		v := is(0)
		for i := 1; i < len(n.Kids); i += 2 {
			if names, means := matched(n.Kids[i], v, around); means {
				return r.run(n.Kids[i+1], names)
			}
		}
		panic(stops{})
	case api.NodeOp:
		return op(n.Text, is(0), is(1))
	case api.NodeSeq:
		is(0)
		return is(1)
	}
	return r.does(n, around)
}

// does is for what raises, has an effect, or is a var.
func (r *runner) does(n api.Node, around *known) value {
	is := func(i int) value { return r.run(n.Kids[i], around) }
	switch n.Kind {
	case api.NodeTry:
		v, ends := r.part(func() value { return is(0) })
		switch x := ends.(type) {
		case nil:
			return v
		case raised:
			return r.run(n.Kids[1], &known{n.Text, int(x), around})
		}
		panic(ends)
	case api.NodeRaise:
		panic(raised(is(0).(int)))
	case api.NodePrint:
		r.tells("print", told(is(0)))
	case api.NodeSpawn:
		r.tells("spawn")
		r.thread(func() value { return is(0) })
	case api.NodeAtom:
		r.tells("begin")
		v := is(0)
		r.tells("commit", told(v))
		return v
	case api.NodeRetry:
		r.tells("retry")
		panic(waits{})
	case api.NodeElse:
		r.tells("orelse")
		v, ends := r.part(func() value { return is(0) })
		switch ends.(type) {
		case nil:
			return v
		case waits:
			return is(1)
		}
		panic(ends)
	case api.NodeTvar:
		r.refs++
		v := &ref{r.refs, is(0)}
		r.tells(told(v), "is", told(v.is))
		return v
	case api.NodeRead:
		v := is(0).(*ref)
		r.tells(told(v), "read", told(v.is))
		return v.is
	case api.NodeWrite:
		v, to := is(0).(*ref), is(1)
		r.tells(told(v), "write", told(to))
		v.is = to
	}
	return &made{}
}

// part does something, and tells what ended it ahead of its end.
func (r *runner) part(do func() value) (v value, ends any) {
	deep := r.deep
	defer func() {
		if ends = recover(); ends != nil {
			r.deep = deep
		}
	}()
	return do(), nil
}

// thread does what a thread of its own does.
func (r *runner) thread(do func() value) {
	v, ends := r.part(do)
	switch x := ends.(type) {
	case nil:
		r.tells("end", told(v))
	case raised:
		r.tells("fault", strconv.Itoa(int(x)))
	case waits:
		r.tells("wait")
	default:
		panic(ends)
	}
}

func recursive(n api.Node, around *known) value {
	return &closure{param: n.Kids[0].Text, self: n.Text, body: n.Kids[0].Kids[0], around: around}
}

// op is what comes of an operation.
func op(sign string, a, b value) value {
	if x, is := a.(string); is {
		if len(x+b.(string)) > 60 {
			panic(raised(-2))
		}
		return x + b.(string)
	}
	n, e := ints.Do(sign, a.(int), b.(int))
	switch {
	case e != api.OK:
		panic(raised(-1))
	case sign == "=" || sign == "<":
		return &made{con: map[int]string{0: "False", 1: "True"}[n]}
	}
	return n
}

// matched tells whether a pattern means a value, and the names that there are then.
func matched(p api.Node, v value, around *known) (*known, bool) {
	switch p.Kind {
	case api.NodeName:
		return &known{p.Text, v, around}, true
	case api.NodeInt:
		return around, v.(int) == p.Number
	case api.NodeCon:
		m := v.(*made)
		if m.con != p.Text {
			return around, false
		}
		for i, k := range p.Kids {
			var means bool
			if around, means = matched(k, m.parts[i], around); !means {
				return around, false
			}
		}
	}
	return around, true
}

// told is a value as a text.
func told(v value) string {
	switch x := v.(type) {
	case int:
		return strconv.Itoa(x)
	case string:
		return strconv.Quote(x)
	case *ref:
		return "var " + strconv.Itoa(x.number)
	case *made:
		s := "(" + x.con
		for _, p := range x.parts {
			s += " " + told(p)
		}
		return s + ")"
	}
	return "fun"
}

// does is what a program does, and false, if that takes too long.
func does(n api.Node, most int) (did []string, ends bool) {
	r := &runner{left: most}
	defer func() {
		if e := recover(); e != nil {
			if _, is := e.(stops); !is {
				panic(e)
			}
			did, ends = nil, false
		}
	}()
	r.thread(func() value {
		var around *known
		last := len(n.Kids) - 1
		for _, k := range n.Kids[:last] {
			switch k.Kind {
			case api.NodeVal:
				around = &known{k.Text, r.run(k.Kids[0], around), around}
				r.tells(k.Text, "is", told(around.is))
			case api.NodeValRec:
				around = &known{k.Text, recursive(k, around), around}
			}
		}
		return r.run(n.Kids[last], around)
	})
	return r.did, true
}

// same holds that a program that is right is so still, when it is folded, and does the same. It tells whether it is right, and another one then.
func same(t *testing.T, n api.Node) bool {
	t.Helper()
	if _, _, e := infer.Program(n); e != api.OK {
		return false
	}
	is := fold.Program(n)
	if _, at, e := infer.Program(is); e != api.OK && e != api.ErrMany {
		t.Errorf("%s is right; but %s: %d, %v", shown(n), shown(is), at, e)
		return false
	}
	did, ends := does(n, 20000)
	if !ends {
		return false
	}
	if now, ends := does(is, 20000); !ends || !slices.Equal(now, did) {
		t.Errorf("%s does %q, but %s does %q", shown(n), did, shown(is), now)
	}
	return !parse.Same(is, n)
}

// bound is a name, and of which type it is.
type bound struct{ name, is string }

func with(around []bound, name, is string) []bound {
	return append(around[:len(around):len(around)], bound{name, is})
}

// sort is some type.
func (d *dice) sort() string {
	return d.pick("int", "int", "string", "bool", "unit", "list", "fun", "var")
}

// atom is a small exp of a type.
func (d *dice) atom(of string, around []bound) string {
	var l []string
	for i, b := range around {
		// A name that is given anew is of its last type alone.
		anew := slices.ContainsFunc(around[i+1:], func(c bound) bool { return c.name == b.name })
		if b.is == of && !anew {
			l = append(l, b.name)
		}
	}
	if len(l) > 0 && d.below(4) > 0 {
		return d.pick(l...)
	}
	switch of {
	case "int":
		return d.pick("0", "1", "2", "7", most)
	case "string":
		return d.pick("\"\"", "\"a\"", "\"bc\"", "\""+strings.Repeat("d", 40)+"\"")
	case "bool":
		return d.pick("True", "False")
	case "list":
		return d.pick("Nil", "(Cons 1 Nil)")
	case "var":
		return "(tvar " + d.atom("int", around) + ")"
	case "fun":
		x := d.pick("x", "y")
		return "(fun " + x + " -> " + d.atom("int", with(around, x, "int")) + ")"
	}
	return "()"
}

// typed is an exp of a type with so many others in it, most often one that is right at a place of an effect.
func (d *dice) typed(of, place string, many int, around []bound) string {
	if many <= 0 {
		return d.atom(of, around)
	}
	half := d.below(many)
	exp := func(of string, around []bound) string { return d.typed(of, place, half, around) }
	last := func(of string, around []bound) string { return d.typed(of, place, many-1-half, around) }
	x, y, some := d.pick("x", "y", "f", "v"), d.pick("x", "y", "z"), d.sort()
	switch d.below(16) {
	case 0, 1, 2:
		return "(let " + x + " = " + exp(some, around) + " in " + last(of, with(around, x, some)) + ")"
	case 3:
		rec := with(around, x, "fun")
		return "(let rec " + x + " = fun " + y + " -> " + d.typed("int", place, half, with(rec, y, "int")) + " in " + last(of, rec) + ")"
	case 4, 5:
		return "(if " + exp("bool", around) + " then " + last(of, around) + " else " + d.atom(of, around) + ")"
	case 6, 7:
		return "(" + exp(some, around) + "; " + last(of, around) + ")"
	case 8:
		return "(match " + exp("list", around) + " with | Nil -> " + d.atom(of, around) + " | Cons " + x + " z -> " + last(of, with(with(around, x, "int"), "z", "list")) + " end)"
	case 9:
		return "(match " + exp("int", around) + " with | 1 -> " + d.atom(of, around) + " | " + x + " -> " + last(of, with(around, x, "int")) + " end)"
	case 10:
		return "(try " + exp(of, around) + " with " + x + " -> " + last(of, with(around, x, "int")) + " end)"
	case 11:
		if d.below(4) == 0 {
			return "(raise " + last("int", around) + ")"
		}
	case 12, 13:
		if s := d.placed(of, place, many-1, around); s != "" {
			return s
		}
	}
	switch of {
	case "int":
		if d.below(4) == 0 {
			return "(" + exp("fun", around) + " " + last("int", around) + ")"
		}
		return "(" + exp("int", around) + d.pick(" + ", " - ", " * ", " / ", " % ") + last("int", around) + ")"
	case "bool":
		return "(" + exp("int", around) + d.pick(" = ", " < ") + last("int", around) + ")"
	case "string":
		return "(" + exp("string", around) + " ^ " + last("string", around) + ")"
	case "list":
		return "(Cons " + exp("int", around) + " " + last("list", around) + ")"
	case "var":
		return "(tvar " + last("int", around) + ")"
	case "fun":
		return "(fun " + x + " -> " + last("int", with(around, x, "int")) + ")"
	}
	return "(" + exp(some, around) + "; ())"
}

// placed is an exp that may stand in a place of an effect alone; none, if there is none of the type.
func (d *dice) placed(of, place string, many int, around []bound) string {
	switch {
	case place == "IO" && of == "unit":
		return d.pick("(print "+d.typed("string", place, many, around)+")", "(spawn "+d.typed(d.sort(), "IO", many, around)+")")
	case place == "IO":
		return "(atomically " + d.typed(of, "STM", many, around) + ")"
	case of == "unit":
		return "(write " + d.typed("var", place, many/2, around) + " " + d.typed("int", place, many/2, around) + ")"
	case of == "int" && d.below(3) > 0:
		return "(read " + d.typed("var", place, many, around) + ")"
	}
	return d.pick("(orelse "+d.typed(of, place, many/2, around)+" "+d.typed(of, place, many/2, around)+")", "retry")
}

// P11.5: a program that is right is so still, and does the same.
func TestFoldedDoesTheSame(t *testing.T) {
	d, many := dice(4), 0
	for i := range 6000 {
		s := "type list a = Nil | Cons of a, list a; "
		var around []bound
		for range d.below(5) {
			x, is := d.pick("x", "y", "f", "v", "w"), d.sort()
			if d.below(5) == 0 {
				around = with(around, x, "fun")
				s += "let rec " + x + " = fun y -> " + d.typed("int", "IO", d.below(6), with(around, "y", "int")) + "; "
				continue
			}
			s += "let " + x + " = " + d.typed(is, "IO", d.below(8), around) + "; "
			around = with(around, x, is)
		}
		n, _, e := parse.Program(s + "do " + d.typed(d.sort(), "IO", i%25, around))
		if e == api.OK && same(t, n) {
			many++
		}
	}
	if many < 5000 {
		t.Errorf("%d programs are right, and folded to other ones", many)
	}
}

// P11.5: what is general once it is folded, what has an effect, what is raised, and vars.
func TestWhatIsDoneStays(t *testing.T) {
	for _, s := range []string{
		"do print (\"a\" ^ \"b\"); (1; print \"c\"); print \"d\"", "do (print \"a\"; 1); 2", "do let x = print \"a\" in 1", "do let x = (fun y -> print y) in 1; x \"a\"", "do if 1 = 2 then print \"a\" else print \"b\"", "do (if 1 < 2 then fun x -> print x else fun x -> ()) \"a\"",
		"do try 1 / 0 with e -> e end", "do try (1 / 0; 2) with e -> e end", "do try let x = 1 % 0 in 2 with e -> e end", "do try (raise 3; 4) with e -> e + 1 end", "do 1 / 0", "do raise (2 * 3)", "do try (\"" + strings.Repeat("a", 59) + "\" ^ \"bc\"; 1) with e -> e end", "do 0 - 1 + 2", "do " + most + " + 1 + 1", "do " + most + " * " + most,
		"let f = (1; fun x -> x); do f 1", "type p a b = P of a, b; let f = if True then fun x -> x else fun y -> y; do P (f 1) (f 2)", "let v = (1; tvar 1); do atomically (write v 2); atomically (read v)", "let v = tvar 1; do let w = v in atomically (write v (1 + 1)); atomically (let x = v in read v)",
		"do atomically (orelse (1; retry) (if True then 2 else 3))", "let v = tvar 1; do spawn (1; print \"a\"); (if 1 = 1 then spawn (raise 1) else ()); spawn (atomically (retry)); print \"b\"", "do let x = (spawn (print \"a\"); 1) in 2", "do let x = tvar 1 in (tvar 2; tvar 3)",
		"do let x = 1 in let f = fun y -> x + y in let x = 2 in f x", "let x = 1; do let x = x + 1 in let y = x in let x = 5 in y", "do match (1; 2) with | 2 -> 1 + 1 | x -> x end", "do let rec f = fun x -> if x = 0 then 1 + 1 else (2; f (x - 1)) in (f; f 3)",
	} {
		n := program(t, s)
		if _, at, e := infer.Program(n); e != api.OK {
			t.Errorf("%s: %d, %v", s, at, e)
		}
		same(t, n)
		if _, ends := does(n, 20000); !ends {
			t.Errorf("%s does not end", s)
		}
	}
	// A let that is general then.
	n := program(t, "do let f = (1; fun x -> x) in (f 1; f \"a\")")
	if _, _, e := infer.Program(n); e != api.ErrType {
		t.Error(e)
	}
	if _, _, e := infer.Program(fold.Program(n)); e != api.OK {
		t.Error(e)
	}
}
