package vm_test

import (
	"slices"
	"strconv"
	"strings"
	"testing"

	"selvage/api"
	"selvage/core"
	"selvage/fold"
	"selvage/gen"
	"selvage/heap"
	"selvage/infer"
	"selvage/ints"
	"selvage/parse"
	"selvage/prims"
	"selvage/vm"
)

// What a thread does is what the functions do of which its code is: those are run as the document's beginning has them, one thread behind the other.

// value is what an exp comes to: an int (a constructor with nothing behind it is its tag), a string, a *made, a *ref, or a *closure.
type value any

type made struct {
	tag   int
	parts []value
}

type ref struct {
	number int
	is     value
}

type closure struct {
	fun  int
	kept []value
}

// shown is a value as a text.
func shown(v value) string {
	switch x := v.(type) {
	case int:
		return strconv.Itoa(x)
	case string:
		return strconv.Quote(x)
	case *ref:
		return strconv.Itoa(x.number)
	case *closure:
		return "fun " + strconv.Itoa(x.fun) + " of " + strconv.Itoa(len(x.kept))
	case *made:
		s := "(" + strconv.Itoa(x.tag)
		for _, p := range x.parts {
			s += " " + shown(p)
		}
		return s + ")"
	}
	return "nothing"
}

// world is what threads do.
type world struct {
	did  []string
	left int // how much they may do
	refs int
	lets []value
}

func (w *world) tells(words ...string) { w.did = append(w.did, strings.Join(words, " ")) }

// stops is what ends a run that takes too long.
type stops struct{}

func (w *world) takes() {
	if w.left--; w.left < 0 {
		panic(stops{})
	}
}

func (w *world) tvar(v value) value {
	w.refs++
	to := &ref{w.refs, v}
	w.tells(shown(to), "is", shown(v))
	return to
}

func (w *world) read(v value) value {
	w.tells(shown(v), "read", shown(v.(*ref).is))
	return v.(*ref).is
}

func (w *world) write(v, to value) value {
	w.tells(shown(v), "write", shown(to))
	v.(*ref).is = to
	return 0
}

func (w *world) print(v value) value {
	w.tells("print", v.(string))
	return 0
}

func (w *world) store(let int, v value) {
	for len(w.lets) <= let {
		w.lets = append(w.lets, nil)
	}
	w.lets[let] = v
	w.tells("let", strconv.Itoa(let), shown(v))
}

// summed is what comes of an operation, or an error.
func summed(sign string, a, b value) (value, int) {
	if x, is := a.(string); is {
		if len(x+b.(string)) > 60 {
			return nil, -2
		}
		return x + b.(string), 0
	}
	n, e := ints.Do(sign, a.(int), b.(int))
	if e != api.OK {
		return nil, -1
	}
	return n, 0
}

// tagged is a value's number or tag.
func tagged(v value) int {
	if m, is := v.(*made); is {
		return m.tag
	}
	return v.(int)
}

// cores runs functions.
type cores struct {
	*world
	funs []api.Fun
	tags map[string]int
}

// What ends a core ahead of its end.
type (
	raised int
	waits  struct{}
)

// part does something, and tells what ended it ahead of its end.
func part(do func() value) (v value, ends any) {
	defer func() { ends = recover() }()
	return do(), nil
}

// thread does what a thread of its own does.
func (r *cores) thread(own *closure) {
	v, ends := part(func() value { return r.enter(own, 0) })
	switch x := ends.(type) {
	case nil:
		r.tells("end", shown(v))
	case raised:
		r.tells("fault", strconv.Itoa(int(x)))
	case waits:
		r.tells("wait")
	default:
		panic(ends)
	}
}

// within is a function that was gone into.
type within struct {
	own    *closure
	locals []value
}

func (r *cores) enter(own *closure, x value) value {
	f := within{own, make([]value, 1+r.funs[own.fun].Locals)}
	f.locals[0] = x
	return r.core(r.funs[own.fun].Body, f)
}

func (r *cores) core(c api.Core, f within) value {
	r.takes()
	is := func(i int) value { return r.core(c.Kids[i], f) }
	all := func() (l []value) {
		for i := range c.Kids {
			l = append(l, is(i))
		}
		return l
	}
	switch c.Kind {
	case api.CoreInt:
		return c.Number
	case api.CoreText:
		return c.Text
	case api.CoreLocal:
		return f.locals[c.Number]
	case api.CoreKept:
		return f.own.kept[c.Number]
	case api.CoreSelf:
		return f.own
	case api.CoreName:
		return r.lets[c.Number]
	case api.CoreMake:
		return &made{c.Number, all()}
	case api.CoreFun:
		return &closure{c.Number, all()}
	case api.CoreCall:
		own, x := is(0), is(1)
		return r.enter(own.(*closure), x)
	case api.CoreLet:
		f.locals[c.Number] = is(0)
		return is(1)
	case api.CoreIf:
		if is(0).(int) != 0 {
			return is(1)
		}
		return is(2)
	case api.CoreMatch:
		f.locals[c.Number] = is(0)
		row := r.asks(c.Tree, f.locals[c.Number])
		for _, b := range c.Binds[row] {
			f.locals[b.Local] = at(f.locals[c.Number], b.Path)
		}
		return is(1 + row)
	case api.CoreOp:
		a, b := is(0), is(1)
		v, e := summed(c.Text, a, b)
		if e != 0 {
			panic(raised(e))
		}
		return v
	case api.CoreSeq:
		is(0)
		return is(1)
	case api.CoreStore:
		r.store(c.Number, is(0))
		return nil
	}
	return r.marked(c, f, is)
}

// marked is for the cores by which something may be left, or is done that others see.
func (r *cores) marked(c api.Core, f within, is func(i int) value) value {
	switch c.Kind {
	case api.CoreTry, api.CoreElse:
		v, ends := part(func() value { return is(0) })
		if ends == nil {
			return v
		}
		x, wrong := ends.(raised)
		if wrong && c.Kind == api.CoreTry {
			f.locals[c.Number] = int(x)
			return is(1)
		}
		if c.Kind == api.CoreElse && ends == (waits{}) {
			return is(1)
		}
		panic(ends)
	case api.CoreAtom:
		r.tells("begin")
		v := is(0)
		r.tells("commit")
		return v
	case api.CorePrint:
		return r.print(is(0))
	case api.CoreRaise:
		panic(raised(is(0).(int)))
	case api.CoreSpawn:
		own := is(0)
		r.tells("spawn", shown(own))
		r.thread(own.(*closure))
		return 0
	case api.CoreRetry:
		panic(waits{})
	case api.CoreTvar:
		return r.tvar(is(0))
	case api.CoreRead:
		return r.read(is(0))
	}
	v := is(0)
	return r.write(v, is(1))
}

// asks is the row that a tree tells of a value.
func (r *cores) asks(t api.Tree, v value) int {
	if len(t.Cases) == 0 {
		return t.Row
	}
	for _, c := range t.Cases {
		if n := tagged(at(v, t.Path)); c.Con == "" && c.Number == n || c.Con != "" && r.tags[c.Con] == n {
			return r.asks(c.Tree, v)
		}
	}
	return r.asks(t.Rest[0], v)
}

// at is what stands at a path in a value.
func at(v value, path []int) value {
	for _, i := range path {
		v = v.(*made).parts[i]
	}
	return v
}

// machine runs code by threads of the vm, one behind the other.
type machine struct {
	*world
	d       dice
	c       api.Code
	h       *heap.Heap
	lets    []int
	vars    []int
	threads []*vm.Thread
}

// full is what ends a run for which there is no room.
type full struct{}

// shown is a word as a text; a var is shown as its number.
func (m *machine) shown(w int) string {
	if n, is := ints.Untag(w); is {
		return strconv.Itoa(n)
	}
	switch m.h.Tag(w) {
	case api.Text:
		s, _ := prims.Str(m.h, w)
		return strconv.Quote(s)
	case api.Closure:
		fun, kept, _ := prims.Open(m.h, w)
		return "fun " + strconv.Itoa(fun) + " of " + strconv.Itoa(len(kept))
	}
	s := "(" + strconv.Itoa(m.h.Tag(w))
	for _, f := range m.h.Fields(w) {
		s += " " + m.shown(f)
	}
	return s + ")"
}

// collect copies what is reached.
func (m *machine) collect() {
	var roots []int
	for _, x := range m.threads {
		roots = append(roots, x.Roots()...)
	}
	told, e := m.h.Collect(append(append(roots, m.lets...), m.vars...))
	if e != api.OK {
		panic(e)
	}
	for _, x := range m.threads {
		many := len(x.Roots())
		x.Set(told[:many])
		told = told[many:]
	}
	copy(m.lets, told)
	copy(m.vars, told[len(m.lets):])
}

// act is a step of a thread, done once more where there was no room.
func (m *machine) act(x *vm.Thread) api.Act {
	was := slices.Clone(m.lets)
	if m.d.below(9) == 0 {
		m.collect()
		was = slices.Clone(m.lets)
	}
	a := x.Step(m.c, m.h, m.lets)
	if a.Kind == api.ActRoom {
		m.collect()
		was = slices.Clone(m.lets)
		a = x.Step(m.c, m.h, m.lets)
	}
	for let, w := range m.lets {
		if w != was[let] {
			m.tells("let", strconv.Itoa(let), m.shown(w))
		}
	}
	return a
}

// thread runs one to its end.
func (m *machine) thread(x *vm.Thread) {
	m.threads = append(m.threads, x)
	defer func() { m.threads = m.threads[:len(m.threads)-1] }()
	for {
		m.takes()
		switch a := m.act(x); a.Kind {
		case api.ActNone, api.ActElse, api.ActJoined, api.ActLeave:
		case api.ActEnd:
			m.tells("end", m.shown(a.Word))
			return
		case api.ActFault:
			m.tells("fault", strconv.Itoa(a.Number))
			return
		case api.ActRoom, api.ActDeep:
			panic(full{})
		case api.ActPrint:
			m.tells("print", a.Text)
		case api.ActSpawn:
			m.tells("spawn", m.shown(a.Word))
			m.thread(vm.Spawn(m.c, m.h, a.Word))
		case api.ActBegin:
			m.tells("begin")
		case api.ActCommit:
			m.tells("commit")
		case api.ActRetry:
			if !x.Other() {
				m.tells("wait")
				return
			}
		default:
			m.asks(x, a)
		}
	}
}

// asks does what is asked of vars.
func (m *machine) asks(x *vm.Thread, a api.Act) {
	number, _ := ints.Untag(a.Word)
	switch a.Kind {
	case api.ActTvar:
		m.vars = append(m.vars, a.Word)
		m.tells(strconv.Itoa(len(m.vars)), "is", m.shown(a.Word))
		x.Put(ints.Tag(len(m.vars)))
	case api.ActRead:
		m.tells(m.shown(a.Word), "read", m.shown(m.vars[number-1]))
		x.Put(m.vars[number-1])
	case api.ActWrite:
		m.tells(m.shown(a.Word), "write", m.shown(a.Other))
		m.vars[number-1] = a.Other
		x.Put(zero)
	default:
		panic("the code is wrong")
	}
}

// does is what something does, and how it ended: by stops or full, or nil.
func does(most int, do func(*world)) (did []string, ends any) {
	w := &world{left: most}
	defer func() {
		ends = recover()
		if ends != nil && ends != (stops{}) && ends != (full{}) {
			panic(ends)
		}
		did = w.did
	}()
	do(w)
	return nil, nil
}

// compiled is the functions of a source, and its constructors and names; false, if it is not right, or too much.
func compiled(s string, folded bool) ([]api.Fun, api.Result, bool) {
	n, _, e := parse.Program(s)
	if e != api.OK {
		return nil, api.Result{}, false
	}
	r, _, e := infer.Program(n)
	if e != api.OK {
		return nil, r, false
	}
	if folded {
		n = fold.Program(n)
	}
	f, _, e := core.Program(n, r.Cons)
	return f, r, e == api.OK
}

// same holds that a thread does what the functions do, in heaps of some sizes, and tells what that is; none, if there is no code, or it takes too long.
func same(t *testing.T, s string, halves ...int) []string {
	t.Helper()
	var all []string
	for _, folded := range []bool{false, true} {
		f, r, is := compiled(s, folded)
		if !is {
			return nil
		}
		c, at, e := gen.Code(f, r.Cons, len(r.Names))
		if e == api.ErrMany {
			return nil
		}
		if e != api.OK || at != 0 {
			t.Fatalf("%s: %d, %v", s, at, e)
		}
		tags := map[string]int{}
		for _, c := range r.Cons {
			tags[c.Name] = c.Tag
		}
		want, ends := does(20000, func(w *world) { (&cores{w, f, tags}).thread(&closure{}) })
		if ends != nil {
			return nil
		}
		for _, half := range halves {
			lets := slices.Repeat([]int{ints.Tag(-987654321)}, c.Lets) // whatever is let is another word
			got, ends := does(400000, func(w *world) {
				(&machine{world: w, d: dice(half), c: c, h: heap.New(half), lets: lets}).thread(vm.Main(c))
			})
			begins := want
			if ends == (full{}) && len(got) < len(want) {
				begins = want[:len(got)]
			}
			if ends == (stops{}) || !slices.Equal(got, begins) {
				t.Fatalf("%s does %q, and its code, in a heap of %d, %q", s, want, half, got)
			}
		}
		all = want
	}
	return all
}

// T1, P17.2: programs of some length, and what they end with.
func TestKnownPrograms(t *testing.T) {
	for s, want := range map[string]string{
		"let rec map = fun f -> fun l -> match l with | Nil -> Nil | Cons h t -> Cons (f h) (map f t) end; let rec sum = fun l -> match l with | Nil -> 0 | Cons h t -> h + sum t end; do sum (map (fun x -> x * x) (Cons 1 (Cons 2 (Cons 3 Nil))))": "end 14",
		"let rec fib = fun n -> if n < 2 then n else fib (n - 1) + fib (n - 2); do fib 10":                                                                                             "end 55",
		"let compose = fun f -> fun g -> fun x -> f (g x); let rec times = fun n -> fun f -> if n = 0 then fun x -> x else compose f (times (n - 1) f); do times 5 (fun x -> x * 2) 1": "end 32",
		"let v = tvar 0; let add = fun n -> atomically (write v (read v + n)); do spawn (add 1; add 2); (let x = 5 in spawn (add x)); add 10; atomically (read v)":                     "end 18",
		"do let x = 1 in try (let y = 2 in raise (x + y)) with e -> try raise e with x -> x * 10 + e end end":                                                                          "end 33",
		"do match Three 1 (Three 2 Two) with | Three a (Three b c) -> (match c with | Two -> let f = fun z -> a + b * z in f 10 | _ -> 0 end) | _ -> 1 end":                            "end 21",
		"do let a = 1 in let f = fun x -> let b = 2 in fun y -> let c = 3 in fun z -> a + b * 10 + c * 100 + x * 1000 + y * 10000 + z * 100000 in f 4 5 6":                             "end 654321",
		"let v = tvar 3; do atomically (orelse (write v 5; retry) (read v))":                                                                                                           "end 5", // here no write is taken back
		"do try 1 / 0 with e -> e end": "end -1",
		"do (print \"a\"; 5) + (try (print \"b\"; raise 2) with e -> (print \"c\"; e) end)": "end 7",
		"do atomically retry":                                                       "wait",
		"do 1 + (try raise 7 with e -> raise (e + 1) end)":                          "fault 8",
		"let f = fun x -> raise x; do 1 + (2 + (try 3 + f 4 with e -> e * 10 end))": "end 43",
		"let rec loop = fun n -> if n < 1 then \"done\" else (try raise n with e -> (); loop (n - 1) end); do loop 20":                                                                       "end \"done\"",
		"let r = tvar 0; do 1 + atomically (2 + orelse (3 + orelse (4 + retry) (5 + retry)) (6 + (try raise 7 with e -> e end) + read r))":                                                   "end 16",
		"let rec even = fun n -> match n with | 0 -> True | 1 -> False | m -> even (m - 2) end; do if even 100 then \"even\" else \"odd\"":                                                   "end \"even\"",
		"do match Cons (Three 5 One) (Cons Two Nil) with | Cons One _ -> 1 | Cons (Three 4 _) _ -> 2 | Cons (Three x One) (Cons Two t) -> match t with | Nil -> x | _ -> 3 end | _ -> 4 end": "end 5",
		"do let f = fun x -> fun y -> fun z -> x ^ y ^ z in f \"a\" (f \"b\" \"c\" \"d\") \"e\"":                                                                                             "end \"abcde\"",
	} {
		did := same(t, declared+s, 2000, 200)
		if len(did) == 0 || did[len(did)-1] != want {
			t.Errorf("%s: %q, not %s", s, did, want)
		}
	}
}

// declared are the types that made programs have.
const declared = "type list a = Nil | Cons of a, list a; type three = One | Two | Three of int, three; "

// bound is a name, and of which type it is.
type bound struct{ name, is string }

func with(around []bound, more ...bound) []bound {
	return append(slices.Clip(around), more...)
}

// sort is some type.
func (d *dice) sort() string {
	return d.pick("int", "int", "string", "bool", "unit", "list", "three", "fun", "fun2", "var")
}

// atom is a small exp of a type.
func (d *dice) atom(of string, around []bound) string {
	var l []string
	for i, b := range around {
		anew := slices.ContainsFunc(around[i+1:], func(c bound) bool { return c.name == b.name })
		if b.is == of && !anew {
			l = append(l, b.name)
		}
	}
	if len(l) > 0 && d.below(6) > 0 {
		return d.pick(l...)
	}
	x := d.pick("x", "y", "z")
	switch of {
	case "int":
		return d.pick("0", "1", "2", "7")
	case "string":
		return d.pick("\"\"", "\"a\"", "\"bc\"")
	case "bool":
		return d.pick("True", "False")
	case "list":
		return d.pick("Nil", "(Cons 1 Nil)")
	case "three":
		return d.pick("One", "Two", "(Three 1 Two)")
	case "var":
		return "(tvar " + d.atom("int", around) + ")"
	case "fun":
		return "(fun " + x + " -> " + d.atom("int", with(around, bound{x, "int"})) + ")"
	case "fun2":
		return "(fun " + x + " -> fun y -> " + d.atom("int", with(around, bound{x, "int"}, bound{"y", "int"})) + ")"
	}
	return "()"
}

// typed is an exp of a type with so many others in it, most often one that is right at a place of an effect.
func (d *dice) typed(of, place string, many int, around []bound) string {
	if many <= 0 {
		return d.atom(of, around)
	}
	half := d.below(many)
	x, y, some := d.pick("x", "y", "f", "v", "g"), d.pick("x", "y", "z"), d.sort()
	exp := func(of string, more ...bound) string { return d.typed(of, place, half, with(around, more...)) }
	last := func(more ...bound) string { return d.typed(of, place, many-1-half, with(around, more...)) }
	atom := func(more ...bound) string { return d.atom(of, with(around, more...)) }
	switch d.below(18) {
	case 0, 1, 2:
		return "(let " + x + " = " + exp(some) + " in " + last(bound{x, some}) + ")"
	case 3, 4:
		less := "(if " + y + " < 1 then 1 else " + exp("int", bound{x, "fun"}, bound{y, "int"}) + d.pick("", " + "+x+" ("+y+" - 1)") + ")"
		return "(let rec " + x + " = fun " + y + " -> " + less + " in " + last(bound{x, "fun"}) + ")"
	case 5:
		return "(if " + exp("bool") + " then " + last() + " else " + atom() + ")"
	case 6:
		return "(" + exp(some) + "; " + last() + ")"
	case 7, 8:
		return "(match " + exp("list") + " with | Nil -> " + atom() + " | Cons " + x + " z -> " + last(bound{x, "int"}, bound{"z", "list"}) + " end)"
	case 9:
		return "(match " + exp("three") + " with | One -> " + atom() + " | Three 1 (Three " + x + " z) -> " + last(bound{x, "int"}, bound{"z", "three"}) + " | Three _ Two -> " + atom() + " | Two -> " + atom() + " | Three " + x + " z -> " + atom(bound{x, "int"}, bound{"z", "three"}) + " end)"
	case 10:
		return "(match " + exp("int") + " with | 1 -> " + atom() + " | 0 -> " + atom() + " | " + x + " -> " + last(bound{x, "int"}) + " end)"
	case 11:
		return "(try " + exp(of) + " with " + x + " -> " + last(bound{x, "int"}) + " end)"
	case 12:
		if d.below(4) == 0 {
			return "(raise " + exp("int") + ")"
		}
	case 13, 14:
		if s := d.placed(of, place, many-1, around); s != "" {
			return s
		}
	}
	return d.plainly(of, place, half, many-1-half, around)
}

// plainly is an exp of a type that is made of that type's own forms.
func (d *dice) plainly(of, place string, half, rest int, around []bound) string {
	x := d.pick("x", "y", "z")
	exp := func(of string) string { return d.typed(of, place, half, around) }
	last := func(of string, more ...bound) string { return d.typed(of, place, rest, with(around, more...)) }
	switch of {
	case "int":
		switch d.below(4) {
		case 0:
			return "(" + exp("fun") + " " + last("int") + ")"
		case 1:
			return "(" + exp("fun2") + " " + last("int") + " " + d.atom("int", around) + ")"
		}
		return "(" + exp("int") + d.pick(" + ", " - ", " * ", " / ", " % ") + last("int") + ")"
	case "bool":
		return "(" + exp("int") + d.pick(" = ", " < ") + last("int") + ")"
	case "string":
		return "(" + exp("string") + " ^ " + last("string") + ")"
	case "list":
		return "(Cons " + exp("int") + " " + last("list") + ")"
	case "three":
		return "(Three " + exp("int") + " " + last("three") + ")"
	case "var":
		return "(tvar " + last("int") + ")"
	case "fun":
		return "(fun " + x + " -> " + last("int", bound{x, "int"}) + ")"
	case "fun2":
		return "(fun " + x + " -> " + last("fun", bound{x, "int"}) + ")"
	}
	return "(" + exp("int") + "; ())"
}

// placed is an exp that may stand in a place of an effect alone; none, if there is none of the type.
func (d *dice) placed(of, place string, many int, around []bound) string {
	half := func(of string) string { return d.typed(of, place, many/2, around) }
	switch {
	case place == "IO" && of == "unit":
		return d.pick("(print "+d.typed("string", place, many, around)+")", "(spawn "+d.typed(d.sort(), "IO", many, around)+")")
	case place == "IO":
		return "(atomically " + d.typed(of, "STM", many, around) + ")"
	case of == "unit":
		return "(write " + half("var") + " " + half("int") + ")"
	case of == "int" && d.below(3) > 0:
		return "(read " + d.typed("var", place, many, around) + ")"
	}
	return d.pick("(orelse "+half(of)+" "+half(of)+")", "retry")
}

// program is a source with so many exps, more or less, most often one that is right.
func (d *dice) program(many int) string {
	s := declared
	var around []bound
	for range d.below(5) {
		x, is := d.pick("x", "y", "f", "v", "w"), d.sort()
		if d.below(5) == 0 {
			is = "fun"
			s += "let rec " + x + " = fun y -> if y < 1 then 1 else " + d.typed("int", "IO", d.below(6), with(around, bound{x, "fun"}, bound{"y", "int"})) + "; "
		} else {
			s += "let " + x + " = " + d.typed(is, "IO", d.below(8), around) + "; "
		}
		around = with(around, bound{x, is})
	}
	return s + "do " + d.typed(d.sort(), "IO", many, around)
}

// T1, P17.2, P17.5: threads do what the functions do, of programs made at random, as they are and folded, in heaps of some sizes.
func TestThreadsDoTheSame(t *testing.T) {
	d, many, ends := dice(4), 0, map[string]int{}
	for i := range 2500 {
		if did := same(t, d.program(i%40), 1000, 64+d.below(30)); len(did) > 0 {
			many++
			word, _, _ := strings.Cut(did[len(did)-1], " ")
			ends[word]++
		}
	}
	if many < 1300 || ends["end"] < 800 || ends["fault"] < 80 || ends["wait"] < 15 {
		t.Errorf("%d programs are right, and come to their end: %v", many, ends)
	}
}

// T4, P17.5: a list of a hundred does the same, step by step, in heaps of all sizes, as far as there is room; the 60 greatest of them have it.
func TestHeapsDoNotShow(t *testing.T) {
	s := declared + "let rec list = fun n -> fun l -> if n < 1 then l else list (n - 1) (Cons n l); let rec sum = fun n -> fun l -> match l with | Nil -> n | Cons h t -> sum (n + h) t end; let l = list 100 Nil; do sum 0 l"
	f, r, _ := compiled(s, false)
	c, _, e := gen.Code(f, r.Cons, len(r.Names))
	if e != api.OK {
		t.Fatal(e)
	}
	acts := func(half int) (all []api.Act) {
		m := &machine{world: &world{}, d: dice(half), c: c, h: heap.New(half), lets: slices.Repeat([]int{zero}, c.Lets)}
		m.threads = []*vm.Thread{vm.Main(c)}
		for m.threads[0].Alive() {
			a := m.act(m.threads[0])
			if a.Kind == api.ActRoom {
				return append(all, a)
			}
			a.Word, a.Other = a.Word&1*a.Word, a.Other&1*a.Other // pointers may be others
			all = append(all, a)
		}
		return all
	}
	want := acts(4000)
	if last := want[len(want)-1]; last != (api.Act{Kind: api.ActEnd, Word: tag(5050)}) {
		t.Fatal(last)
	}
	for half := 64; half < 400; half++ {
		got := acts(half)
		begins := want
		if got[len(got)-1].Kind == api.ActRoom {
			got = got[:len(got)-1]
			begins = want[:len(got)]
		}
		if !slices.Equal(got, begins) || half >= 340 && len(got) < len(want) || half < 300 && len(got) == len(want) {
			t.Fatalf("in a heap of %d: %v", half, got[len(got)-1])
		}
	}
}
