package infer_test

import (
	"slices"
	"strings"
	"testing"

	"selvage/api"
	"selvage/infer"
	"selvage/parse"
)

// Programs made at random, and all small ones, held against the model.

// prelude are declarations that a random program may have ahead.
var prelude = []string{
	list, pair, "type opt a = None | Some of a; ", "let id = fun x -> x; ", "let k = fun x -> fun y -> x; ", "let rec map = fun f -> fun l -> match l with | Nil -> Nil | Cons h t -> Cons (f h) (map f t) end; ",
	"let dup = fun x -> Pair x x; ", "let r = tvar Nil; ", "let m = (fun x -> x) (fun x -> x); ", "let get = fun v -> read v; ", "let say = fun s -> print s; ", "let n = 1; ", "let s = \"a\"; ", "let v = tvar 1; ",
	"let e = raise 1; ", "let d = (fun z -> Pair z z) e; ", "let j = id; ",
}

// names are those that random exps have.
var names = []string{"x", "y", "f", "g", "x", "y", "f", "id", "k", "map", "dup", "r", "m", "get", "say", "n", "s", "v", "e", "d", "j"}

// wild is an exp of any form, with so many others in it.
func (d *dice) wild(many int) string {
	if many <= 0 {
		return d.pick("1", "2", "\"a\"", "()", "True", "Nil", "None", "retry", d.pick(names...), d.pick(names...), d.pick(names...), d.pick(names...))
	}
	half := d.below(many)
	a, b, all := d.wild(half), d.wild(many-1-half), d.wild(many-1)
	x := d.pick("x", "y", "f", "g")
	switch d.below(26) {
	case 0, 1, 2:
		return "(fun " + x + " -> " + all + ")"
	case 3, 4, 5, 6:
		return "(" + a + " " + b + ")"
	case 7, 8:
		return "(let " + x + " = " + a + " in " + b + ")"
	case 9:
		return "(let rec " + x + " = fun " + d.pick("x", "y") + " -> " + a + " in " + b + ")"
	case 10:
		return "(if " + d.pick("True", a) + " then " + b + " else " + d.wild(0) + ")"
	case 11, 12:
		return "(" + a + d.pick(" + ", " - ", " * ", " / ", " % ", " = ", " < ", " ^ ") + b + ")"
	case 13, 14:
		return "(" + a + "; " + b + ")"
	case 15:
		return "(match " + a + " with " + d.row(b) + "| " + d.pat(1) + " -> " + d.wild(0) + " end)"
	case 16:
		return "(match " + a + " with " + d.row(b) + "end)"
	case 17:
		return "(try " + a + " with " + x + " -> " + b + " end)"
	case 18:
		return "(Cons " + a + " " + b + ")"
	case 19:
		return "(Pair " + a + " " + b + ")"
	case 20:
		return "(" + d.pick("Some", "tvar", "tvar", "raise", "print", "spawn") + " " + all + ")"
	case 21, 22:
		return "(atomically " + all + ")"
	case 23:
		return "(read " + all + ")"
	case 24:
		return "(write " + a + " " + b + ")"
	}
	return "(orelse " + a + " " + b + ")"
}

func (d *dice) row(body string) string { return "| " + d.pat(2) + " -> " + body + " " }

// pat is a pattern.
func (d *dice) pat(deep int) string {
	if deep == 0 {
		return d.pick("_", "x", "y", "f", "g", "1", "True", "Nil", "None")
	}
	a, b := d.pat(d.below(deep)), d.pat(d.below(deep))
	return d.pick(d.pat(0), "(Cons "+a+" "+b+")", "(Pair "+a+" "+b+")", "(Some "+a+")", d.pat(0))
}

// ahead are some declarations of the prelude.
func (d *dice) ahead() string {
	var l []string
	for i, s := range prelude {
		if i < 3 || d.below(8) > 0 {
			l = append(l, s)
		}
	}
	return strings.Join(l, "")
}

// goal is a type that an exp is to be of; one without a name is any.
type goal struct {
	name string
	args []goal
}

func goalOf(name string, args ...goal) goal { return goal{name, args} }

func (g goal) same(h goal) bool {
	if g.name == "" || h.name == "" {
		return true
	}
	if g.name != h.name {
		return false
	}
	for i := range g.args {
		if !g.args[i].same(h.args[i]) {
			return false
		}
	}
	return true
}

// bound is a name, and what it is.
type bound struct {
	name string
	is   goal
}

// goal is some type, in which others stand.
func (d *dice) goal(deep int) goal {
	if deep == 0 || d.below(3) == 0 {
		return goalOf(d.pick("int", "int", "string", "bool", "unit"))
	}
	switch d.below(6) {
	case 0:
		return goalOf("list", d.goal(deep-1))
	case 1:
		return goalOf("pair", d.goal(deep-1), d.goal(deep-1))
	case 2:
		return goalOf("opt", d.goal(deep-1))
	case 3:
		return goalOf("var", d.goal(deep-1))
	}
	return goalOf("->", d.goal(deep-1), goalOf(d.pick("IO", "STM", "any", "any")), d.goal(deep-1))
}

// leaf is a small exp of a type.
func (d *dice) leaf(g goal, place string, around []bound) string {
	var known []string
	for _, b := range around {
		if b.is.same(g) {
			known = append(known, b.name)
		}
	}
	if len(known) > 0 && d.below(4) > 0 {
		return d.pick(known...)
	}
	switch g.name {
	case "int":
		return d.pick("1", "2", "0")
	case "string":
		return d.pick("\"a\"", "\"\"")
	case "bool":
		return d.pick("True", "False")
	case "unit", "":
		return "()"
	case "list":
		return "Nil"
	case "opt":
		return "None"
	case "pair":
		return "(Pair " + d.leaf(g.args[0], place, around) + " " + d.leaf(g.args[1], place, around) + ")"
	case "var":
		return "(tvar " + d.leaf(g.args[0], place, around) + ")"
	}
	x := d.pick("x", "y", "z")
	return "(fun " + x + " -> " + d.leaf(g.args[2], g.args[1].name, with(around, x, g.args[0])) + ")"
}

func with(around []bound, name string, is goal) []bound {
	return append(around[:len(around):len(around)], bound{name, is})
}

// tame is an exp of a type, or nearly so, with so many others in it.
func (d *dice) tame(g goal, place string, many int, around []bound) string {
	if d.below(150) == 0 {
		g = d.goal(2)
	}
	if many <= 0 {
		return d.leaf(g, place, around)
	}
	half := d.below(many)
	exp := func(g goal, around []bound) string { return d.tame(g, place, half, around) }
	last := func(g goal, around []bound) string { return d.tame(g, place, many-1-half, around) }
	x, y, some := d.pick("x", "y", "f", "g"), d.pick("z", "w"), d.goal(2)
	switch d.below(14) {
	case 0, 1:
		return "(let " + x + " = " + exp(some, around) + " in " + last(g, with(around, x, some)) + ")"
	case 2:
		f := goalOf("->", d.goal(1), goalOf(place), d.goal(1))
		rec := with(around, x, f)
		return "(let rec " + x + " = fun " + y + " -> " + exp(f.args[2], with(rec, y, f.args[0])) + " in " + last(g, rec) + ")"
	case 3, 4, 5:
		return "(" + exp(goalOf("->", some, goalOf(place), g), around) + " " + last(some, around) + ")"
	case 6:
		return "(if " + exp(goalOf("bool"), around) + " then " + last(g, around) + " else " + d.leaf(g, place, around) + ")"
	case 7:
		return "(" + exp(some, around) + "; " + last(g, around) + ")"
	case 8:
		l := goalOf("list", some)
		return "(match " + exp(l, around) + " with | Nil -> " + d.leaf(g, place, around) + " | Cons " + x + " " + y + " -> " + last(g, with(with(around, x, some), y, l)) + " end)"
	case 9:
		other := d.goal(1)
		return "(match " + exp(goalOf("pair", some, other), around) + " with | Pair " + x + " " + y + " -> " + last(g, with(with(around, x, some), y, other)) + " end)"
	case 10:
		return "(try " + exp(g, around) + " with " + x + " -> " + last(g, with(around, x, goalOf("int"))) + " end)"
	}
	if s := d.placed(g, place, many-1, around); s != "" {
		return s
	}
	switch g.name {
	case "int":
		return "(" + exp(g, around) + d.pick(" + ", " - ", " * ", " / ", " % ") + last(g, around) + ")"
	case "bool":
		return "(" + exp(goalOf("int"), around) + d.pick(" = ", " < ") + last(goalOf("int"), around) + ")"
	case "string":
		return "(" + exp(g, around) + " ^ " + last(g, around) + ")"
	case "list":
		return "(Cons " + exp(g.args[0], around) + " " + last(g, around) + ")"
	case "pair":
		return "(Pair " + exp(g.args[0], around) + " " + last(g.args[1], around) + ")"
	case "opt":
		return "(Some " + last(g.args[0], around) + ")"
	case "var":
		return "(tvar " + last(g.args[0], around) + ")"
	case "->":
		return "(fun " + x + " -> " + d.tame(g.args[2], g.args[1].name, many-1, with(around, x, g.args[0])) + ")"
	}
	return "(raise " + last(goalOf("int"), around) + ")"
}

// placed is an exp that may stand in a place alone; none, if it is none of an effect, or something else is to stand there.
func (d *dice) placed(g goal, place string, many int, around []bound) string {
	half := d.below(many + 1)
	switch {
	case place == "IO" && g.name == "unit" && d.below(2) == 0:
		return d.pick("(print "+d.tame(goalOf("string"), place, many, around)+")", "(spawn "+d.tame(d.goal(1), "IO", many, around)+")")
	case place == "IO" && d.below(2) == 0:
		return "(atomically " + d.tame(g, "STM", many, around) + ")"
	case place == "STM" && g.name == "unit" && d.below(2) == 0:
		some := d.goal(1)
		return "(write " + d.tame(goalOf("var", some), place, half, around) + " " + d.tame(some, place, many-half, around) + ")"
	case place == "STM" && d.below(2) == 0:
		return d.pick("(read "+d.tame(goalOf("var", g), place, many, around)+")", "(orelse "+d.tame(g, place, half, around)+" "+d.tame(g, place, many-half, around)+")", "retry")
	}
	return ""
}

// program is a source that is right, or nearly so.
func (d *dice) program(many int) string {
	s := strings.Join(prelude, "")
	any := goal{}
	around := []bound{{"n", goalOf("int")}, {"s", goalOf("string")}, {"v", goalOf("var", goalOf("int"))}, {"id", goalOf("->", any, any, any)}, {"j", goalOf("->", any, any, any)}, {"e", goalOf("int")}}
	for range d.below(4) {
		g, x := d.goal(3), d.pick("a", "b", "c", "x", "y")
		s += "let " + x + " = " + d.tame(g, "IO", d.below(many+1), around) + "; "
		around = with(around, x, g)
	}
	return s + "do " + d.tame(d.goal(2), "IO", d.below(many+1), around)
}

// told counts how often each error is told.
type counted map[api.Errno]int

func (c counted) least(t *testing.T, least counted) {
	t.Helper()
	for e, many := range least {
		if c[e] < many {
			t.Errorf("error %v is told %d times", e, c[e])
		}
	}
}

func TestWildProgramsAreAsTheModel(t *testing.T) {
	d, errors := dice(2), counted{}
	for i := range 4000 {
		s := d.ahead()
		for range d.below(3) {
			switch d.below(3) {
			case 0:
				s += "let rec " + d.pick("f", "g", "id") + " = fun " + d.pick("x", "y") + " -> " + d.wild(d.below(5)) + "; "
			default:
				s += "let " + d.pick("x", "y", "f", "g", "id") + " = " + d.wild(d.below(4)) + "; "
			}
		}
		errors[held(t, placed(t, node(t, s+"do "+d.wild(1+i%7))))]++
	}
	errors.least(t, counted{api.OK: 100, api.ErrName: 100, api.ErrType: 100, api.ErrEffect: 50, api.ErrLoop: 10, api.ErrArity: 50})
}

func TestTameProgramsAreAsTheModel(t *testing.T) {
	d, errors := dice(3), counted{}
	for i := range 2500 {
		if n, _, e := parse.Program(d.program(3 + i%20)); e == api.OK {
			errors[held(t, n)]++
		}
	}
	errors.least(t, counted{api.OK: 800, api.ErrType: 500})
}

// Each form of exp, with each in each of its parts, and what it is held against behind it.
func TestSmallProgramsAreAsTheModel(t *testing.T) {
	forms := []string{
		"(fun x -> #)", "(# #)", "(let x = # in #)", "(let rec f = fun x -> # in #)", "(if # then # else #)", "(match # with | 1 -> # | x -> # end)", "(match # with | Cons x f -> # | _ -> # end)", "(match # with | Pair True (Cons f x) -> # end)",
		"(try # with x -> # end)", "(# + #)", "(# = #)", "(# ^ #)", "(#; #)", "(Cons # #)", "(Pair # #)", "(print #)", "(raise #)", "(spawn #)", "(atomically #)", "(orelse # #)", "(tvar #)", "(read #)", "(write # #)",
	}
	leaves := []string{"1", "x", "\"a\"", "f", "Nil", "retry", "g", "True", "()"}
	// filled is a form with something in one of its parts, and leaves in the others.
	filled := func(form, in string, at, leaf int) string {
		for i := 0; strings.Contains(form, "#"); i++ {
			part := leaves[(leaf+i*(1+leaf%3))%len(leaves)]
			if i == at {
				part = in
			}
			form = strings.Replace(form, "#", part, 1)
		}
		return form
	}
	ends := []string{"do %", "let y = %; do y", "do fun f -> fun x -> %", "do atomically %", "do fun g -> (g %; g 1)"}
	errors, many := counted{}, 0
	for _, one := range forms {
		for i := range strings.Count(one, "#") {
			for _, two := range forms {
				for j := range strings.Count(two, "#") {
					for k, leaf := range leaves {
						many++
						s := filled(one, filled(two, leaf, j, k+many), i, many/len(leaves))
						errors[held(t, node(t, pair+list+"let g = fun x -> x; "+strings.Replace(ends[many%len(ends)], "%", s, 1)))]++
					}
				}
			}
		}
	}
	errors.least(t, counted{api.OK: 500, api.ErrName: 500, api.ErrType: 500, api.ErrEffect: 500, api.ErrLoop: 20})
}

// Programs in which types grow till they are too great, and what is kept, too.
func TestGrowingProgramsAreAsTheModel(t *testing.T) {
	d, errors, greats := dice(5), counted{}, 0
	for range 1500 {
		s := both + "let t = fun x -> Q x x; let a = raise 1; let b = raise 1; let c = raise 1; let d = a; let e = b; "
		for range 3 + d.below(12) {
			x, y, z := d.pick("a", "b", "c", "d", "e"), d.pick("a", "b", "c"), d.pick("d", "e")
			s += d.pick(
				"let "+z+" = t "+x+"; ", "let "+z+" = t "+x+"; ", "let "+z+" = t (t "+x+"); ", "let "+z+" = Q "+x+" "+y+"; ", "let "+z+" = fun x -> "+x+"; ", "let "+z+" = tvar "+x+"; ",
				"let u = ((if True then "+y+" else t (t (t (raise 1)))); 1); ", "let u = ((if True then "+y+" else t (t (raise 1))); 1); ", "let u = ((if True then "+y+" else t (t (t (t (raise 1))))); 1); ",
				"let u = ((if True then "+y+" else "+wide(1+d.below(99))+"); 1); ", "let u = let z = t "+x+" in let f = fun x -> x in 1; ", "let rec "+z+" = fun x -> if True then "+x+" else "+z+" x; ",
				"let u = match "+x+" with | Q x y -> ((if True then x else y); 1) | _ -> 1 end; ", "let "+z+" = "+x+"; ", "let u = ((if True then "+x+" else "+y+"); 1); ",
			)
		}
		n, _, e := parse.Program(s + "do " + d.pick("1", "a", "t b", "fun x -> d", "e"))
		if e != api.OK {
			continue
		}
		errors[held(t, n)]++
		if r, _, e := infer.Program(n); e == api.OK && slices.ContainsFunc(r.Types, func(c api.Scheme) bool { return c.Type.Name == "" && c.Type.Var == 0 }) {
			greats++
		}
	}
	errors.least(t, counted{api.OK: 400, api.ErrMany: 50, api.ErrLoop: 50})
	if greats < 5 {
		t.Errorf("of %d programs something is too great in the end", greats)
	}
}
