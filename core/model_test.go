package core_test

import (
	"reflect"
	"slices"
	"strings"
	"testing"

	"selvage/api"
	"selvage/core"
	"selvage/cover"
	"selvage/infer"
	"selvage/parse"
	"selvage/tree"
)

// A model of the chapter: each name is bound once and for all, a chain of bindings tells which one is meant, and a function's closure keeps those that
// are met in it, and in the functions within, but are bound around it.

// binding is what binds a name: a local, a let rec's own closure, or one of the program's lets.
type binding struct {
	name   string
	of     *model // the function in which it is; none for a program's let
	kind   int
	number int
	around *binding
}

// model is a function.
type model struct {
	number int
	around *model
	keeps  []*binding
	locals int
}

// modelling is a program.
type modelling struct {
	cons []api.Con
	funs []api.Fun
}

// wrong is an error, and where it is met.
type wrong struct {
	at int
	e  api.Errno
}

func must(may bool, n api.Node, e api.Errno) {
	if !may {
		panic(wrong{n.At, e})
	}
}

// local is a chain with one local more.
func (f *model) local(n api.Node, name string, around *binding) *binding {
	b := &binding{name, f, api.CoreLocal, 0, around}
	for other := around; other != nil; other = other.around {
		if other.of == f && other.kind == api.CoreLocal {
			b.number++
		}
	}
	must(b.number < 60, n, api.ErrMany)
	f.locals = max(f.locals, b.number+1)
	return b
}

// sees is a binding as a function has it.
func (f *model) sees(b *binding) api.Core {
	if b.of == nil || b.of == f {
		return api.Core{Kind: b.kind, Number: b.number}
	}
	for g := f; g != b.of; g = g.around {
		if !slices.Contains(g.keeps, b) {
			g.keeps = append(g.keeps, b)
		}
	}
	return api.Core{Kind: api.CoreKept, Number: slices.Index(f.keeps, b)}
}

// closure is that of a new function.
func (m *modelling) closure(f *model, n api.Node, self string, param string, around *binding) api.Core {
	must(len(m.funs) < 120, n, api.ErrMany)
	g := &model{number: len(m.funs), around: f}
	m.funs = append(m.funs, api.Fun{})
	if self != "" {
		around = &binding{self, g, api.CoreSelf, 0, around}
	}
	body := m.exp(g, n.Kids[0], g.local(n, param, around))
	must(len(g.keeps) < 60, n, api.ErrMany)
	m.funs[g.number] = api.Fun{Kept: len(g.keeps), Locals: g.locals, Body: body}
	c := api.Core{Kind: api.CoreFun, Number: g.number}
	for _, b := range g.keeps {
		c.Kids = append(c.Kids, f.sees(b))
	}
	return c
}

// value is a let's.
func (m *modelling) value(f *model, n api.Node, around *binding) api.Core {
	if k := n.Kids[0]; n.Kind == api.NodeRec || n.Kind == api.NodeValRec {
		return m.closure(f, k, n.Text, k.Text, around)
	}
	return m.exp(f, n.Kids[0], around)
}

func (m *modelling) exp(f *model, n api.Node, around *binding) api.Core {
	is := func(i int) api.Core { return m.exp(f, n.Kids[i], around) }
	like := func(kind int) api.Core {
		c := api.Core{Kind: kind}
		for i := range n.Kids {
			c.Kids = append(c.Kids, is(i))
		}
		return c
	}
	switch n.Kind {
	case api.NodeInt:
		return api.Core{Kind: api.CoreInt, Number: n.Number}
	case api.NodeText:
		return api.Core{Kind: api.CoreText, Text: n.Text}
	case api.NodeUnit:
		return api.Core{Kind: api.CoreInt}
	case api.NodeName:
		for b := around; b != nil; b = b.around {
			if b.name == n.Text {
				return f.sees(b)
			}
		}
		panic(wrong{n.At, api.ErrName})
	case api.NodeCon:
		at := slices.IndexFunc(m.cons, func(c api.Con) bool { return c.Name == n.Text })
		c := like(api.CoreMake)
		if c.Number = m.cons[at].Tag; len(n.Kids) == 0 {
			c.Kind = api.CoreInt
		}
		return c
	case api.NodeFun:
		return m.closure(f, n, "", n.Text, around)
	case api.NodeSpawn:
		return api.Core{Kind: api.CoreSpawn, Kids: []api.Core{m.closure(f, n, "", "", around)}}
	case api.NodeLet, api.NodeRec:
		value := m.value(f, n, around)
		b := f.local(n, n.Text, around)
		return api.Core{Kind: api.CoreLet, Number: b.number, Kids: []api.Core{value, m.exp(f, n.Kids[1], b)}}
	case api.NodeTry:
		body := is(0)
		b := f.local(n, n.Text, around)
		return api.Core{Kind: api.CoreTry, Number: b.number, Kids: []api.Core{body, m.exp(f, n.Kids[1], b)}}
	case api.NodeMatch:
		return m.match(f, n, around)
	case api.NodeOp:
		c := like(api.CoreOp)
		c.Text = n.Text
		return c
	}
	return like(map[int]int{
		api.NodeCall: api.CoreCall, api.NodeIf: api.CoreIf, api.NodeSeq: api.CoreSeq, api.NodePrint: api.CorePrint, api.NodeRaise: api.CoreRaise, api.NodeAtom: api.CoreAtom,
		api.NodeRetry: api.CoreRetry, api.NodeElse: api.CoreElse, api.NodeTvar: api.CoreTvar, api.NodeRead: api.CoreRead, api.NodeWrite: api.CoreWrite,
	}[n.Kind])
}

func (m *modelling) match(f *model, n api.Node, around *binding) api.Core {
	value := m.exp(f, n.Kids[0], around)
	var rows []api.Node
	for i := 1; i < len(n.Kids); i += 2 {
		rows = append(rows, n.Kids[i])
	}
	at, e := cover.Check(rows, m.cons)
	must(e != api.ErrUseless, rows[at], e)
	must(e != api.ErrCover, n, e)
	must(e == api.OK, n, api.ErrMany)
	t, e := tree.Build(rows, m.cons)
	must(e == api.OK, n, api.ErrMany)
	own := f.local(n, "", around)
	c := api.Core{Kind: api.CoreMatch, Number: own.number, Kids: []api.Core{value}, Tree: t}
	for i, row := range rows {
		b, binds := own, []api.Bind(nil)
		for _, p := range tree.Names(row) {
			b = f.local(n, p.Name, b)
			binds = append(binds, api.Bind{Local: b.number, Path: p.Path})
		}
		c.Binds = append(c.Binds, binds)
		c.Kids = append(c.Kids, m.exp(f, n.Kids[2*i+2], b))
	}
	return c
}

// modelProgram is what the model tells of a program.
func modelProgram(n api.Node, cons []api.Con) (funs []api.Fun, at int, e api.Errno) {
	defer func() {
		if w, is := recover().(wrong); is {
			funs, at, e = nil, w.at, w.e
		}
	}()
	f, m := &model{}, &modelling{cons: cons, funs: make([]api.Fun, 1)}
	var chain *binding
	lets := 0
	var rest func(kids []api.Node) api.Core
	rest = func(kids []api.Node) api.Core {
		switch k := kids[0]; k.Kind {
		case api.NodeType:
			return rest(kids[1:])
		case api.NodeVal, api.NodeValRec:
			store := api.Core{Kind: api.CoreStore, Number: lets, Kids: []api.Core{m.value(f, k, chain)}}
			chain = &binding{k.Text, nil, api.CoreName, lets, chain}
			lets++
			return api.Core{Kind: api.CoreSeq, Kids: []api.Core{store, rest(kids[1:])}}
		}
		return m.exp(f, kids[0], chain)
	}
	body := rest(n.Kids)
	m.funs[0] = api.Fun{Locals: f.locals, Body: body}
	return m.funs, 0, api.OK
}

// held holds a program that is right, and its constructors, against the model, and what follows (P12.2). It tells the error.
func held(t *testing.T, s string, n api.Node, cons []api.Con) api.Errno {
	t.Helper()
	want, place, fault := modelProgram(n, cons)
	funs, at, e := core.Program(n, cons)
	if !reflect.DeepEqual(plain(funs), plain(want)) || at != place || e != fault {
		t.Fatalf("%s is\n%s, %d, %v, not\n%s, %d, %v", s, strings.Join(told(funs), "\n"), at, e, strings.Join(told(want), "\n"), place, fault)
	}
	if e == api.OK {
		numbered(t, s, funs)
	}
	return e
}

// plain is functions with nil in the place of all empty lists.
func plain(funs []api.Fun) []api.Fun {
	var l []api.Fun
	for _, f := range funs {
		f.Body = plainCore(f.Body)
		l = append(l, f)
	}
	return l
}

func plainCore(c api.Core) api.Core {
	kids, all := c.Kids, c.Binds
	c.Kids, c.Binds, c.Tree = nil, nil, plainTree(c.Tree)
	for _, k := range kids {
		c.Kids = append(c.Kids, plainCore(k))
	}
	for _, binds := range all {
		var l []api.Bind
		for _, b := range binds {
			l = append(l, api.Bind{Local: b.Local, Path: append([]int(nil), b.Path...)})
		}
		c.Binds = append(c.Binds, l)
	}
	return c
}

func plainTree(t api.Tree) api.Tree {
	cases, rest := t.Cases, t.Rest
	t.Path, t.Cases, t.Rest = append([]int(nil), t.Path...), nil, nil
	for _, c := range cases {
		c.Tree = plainTree(c.Tree)
		t.Cases = append(t.Cases, c)
	}
	for _, r := range rest {
		t.Rest = append(t.Rest, plainTree(r))
	}
	return t
}

// numbered holds that each number is one that there is: of locals around, of what is kept, of functions, each named once and in their order, and of the
// program's lets ahead; and that no function has more than it needs.
func numbered(t *testing.T, s string, funs []api.Fun) {
	t.Helper()
	next, lets := 1, 0
	var goes func(f int, c api.Core, locals int, used map[int]bool) int
	goes = func(f int, c api.Core, locals int, used map[int]bool) int {
		may, most, first := true, locals, next
		switch c.Kind {
		case api.CoreLocal:
			may = c.Number >= 0 && c.Number < locals
		case api.CoreKept:
			may = c.Number >= 0 && c.Number < funs[f].Kept
			used[c.Number] = true
		case api.CoreName:
			may = c.Number >= 0 && c.Number < lets
		case api.CoreLet, api.CoreTry, api.CoreMatch:
			may = c.Number == locals
		case api.CoreFun:
			may = c.Number == first && c.Number < len(funs) && len(c.Kids) == funs[c.Number].Kept
			next++
		}
		if !may {
			t.Fatalf("%s: in function %d there is no %s", s, f, drawn(c))
		}
		for i, k := range c.Kids {
			around := locals
			if i > 0 && (c.Kind == api.CoreLet || c.Kind == api.CoreTry) {
				around++
			}
			if i > 0 && c.Kind == api.CoreMatch {
				around += 1 + len(c.Binds[i-1])
				for j, b := range c.Binds[i-1] {
					if b.Local != locals+1+j {
						t.Fatalf("%s: in function %d a name of a row is local %d", s, f, b.Local)
					}
				}
			}
			most = max(most, around, goes(f, k, around, used))
		}
		if c.Kind == api.CoreStore {
			if c.Number != lets || f != 0 {
				t.Fatalf("%s: %s in function %d is not the next let", s, drawn(c), f)
			}
			lets++
		}
		if c.Kind == api.CoreFun {
			kept := map[int]bool{}
			if is := goes(c.Number, funs[c.Number].Body, 1, kept); is != funs[c.Number].Locals || len(kept) != len(c.Kids) {
				t.Fatalf("%s: function %d needs %d locals, and keeps %d", s, c.Number, is, len(kept))
			}
		}
		return most
	}
	if is := goes(0, funs[0].Body, 0, nil); is != funs[0].Locals || next != len(funs) {
		t.Fatalf("%s: %d locals of function 0, %d functions", s, is, next)
	}
}

// dice are thrown to make programs.
type dice uint64

func (d *dice) below(n int) int {
	*d = *d*6364136223846793005 + 1442695040888963407
	return int(uint64(*d) >> 33 % uint64(n))
}

func (d *dice) pick(l ...string) string { return l[d.below(len(l))] }

// declared are the types that made programs have.
const declared = "type list a = Nil | Cons of a, list a; type three = One | Two | Three of int, three; "

// counted counts how often each error is told.
type counted map[api.Errno]int

func (c counted) least(t *testing.T, least counted) {
	t.Helper()
	for e, many := range least {
		if c[e] < many {
			t.Errorf("error %v is told %d times", e, c[e])
		}
	}
}

// tried holds a source against the model, if it is right.
func tried(t *testing.T, s string, errors counted) {
	t.Helper()
	n, _, e := parse.Program(s)
	if e != api.OK {
		return
	}
	if r, _, e := infer.Program(n); e == api.OK {
		errors[held(t, s, n, r.Cons)]++
	}
}

// Each form of exp, with each in each of its parts, where all names are of a type that stands for any.
func TestSmallProgramsAreAsTheModel(t *testing.T) {
	forms := []string{
		"(fun x -> #)", "(fun y -> #)", "(# #)", "(let x = # in #)", "(let f = # in #)", "(let rec f = fun x -> # in #)", "(let rec x = fun y -> # in #)", "(if # then # else #)", "(match # with | y -> # end)", "(match # with | Cons x f -> # | _ -> # end)", "(match # with | Nil -> # | x -> # | Cons y f -> # end)",
		"(match # with | Cons x (Cons y _) -> # | Cons f x -> # end)", "(try # with x -> # end)", "(# + #)", "(# ^ #)", "(#; #)", "(Cons # #)", "(print #)", "(raise #)", "(spawn #)", "(atomically #)", "(orelse # #)", "(tvar #)", "(read #)", "(write # #)",
	}
	leaves := []string{"x", "f", "y", "1", "\"a\"", "a", "()", "Nil"}
	filled := func(form, in string, at, leaf int) string {
		for i := 0; strings.Contains(form, "#"); i++ {
			part := leaves[(leaf+i*(1+leaf%3))%len(leaves)]
			if i == at {
				part = in
			}
			form = strings.Replace(form, "#", part, 1)
		}
		return form
	}
	// Not all are right: a node is gone through all the same.
	_, cons := right(t, declared+"do 1")
	many, errors := 0, counted{}
	for _, one := range forms {
		for i := range strings.Count(one, "#") {
			for _, two := range forms {
				for j := range strings.Count(two, "#") {
					for k, leaf := range leaves {
						many++
						s := filled(one, filled(two, leaf, j, k+many), i, many/len(leaves))
						s = declared + "let a = 1; let x = a; do let y = fun x -> 2 in fun f -> fun x -> " + s
						if n, _, e := parse.Program(s); e == api.OK {
							errors[held(t, s, n, cons)]++
						}
					}
				}
			}
		}
	}
	errors.least(t, counted{api.OK: 5000, api.ErrCover: 1000, api.ErrUseless: 1000})
}

// wild is an exp of any form, with so many others in it, and with any names.
func (d *dice) wild(many int) string {
	if many <= 0 {
		return d.pick("1", "x", "y", "f", "g", "x", "y", "f", "g", "a", "Nil", "()", "\"s\"", "retry", "z", "b", "i")
	}
	form := d.pick(
		"(fun % -> #)", "(fun % -> #)", "(fun % -> #)", "(fun % -> #)", "(# #)", "(# #)", "(let % = # in #)", "(let % = # in #)", "(let rec % = fun % -> # in #)", "(let rec % = fun h -> # in #)", "(try # with % -> # end)",
		"(match # with | Cons % _ -> # | Nil -> # end)", "(match # with | Cons x y -> # | % -> # end)", "(match # with | Cons _ (Cons % _) -> # | _ -> # end)", "(match # with | Cons (Three g h) _ -> # | % -> # end)", "(match # with | Cons 1 % -> # | Cons _ % -> # | Nil -> # end)",
		"(match # with | % -> # end)", "(match # with | 1 -> # | % -> # end)", "(# + #)", "(# = #)", "(# ^ #)", "(#; #)", "(#; #)", "(Cons # #)", "(Three # #)", "(write # #)", "(orelse # #)", "(if # then # else #)", "(spawn #)", "(spawn #)", "(print #)", "(raise #)", "(atomically #)", "(tvar #)", "(read #)",
	)
	switch d.below(100) {
	case 0:
		form = "(match # with | Cons _ _ -> # end)"
	case 1:
		form = "(match # with | Cons % _ -> # | _ -> # | Nil -> # end)"
	}
	for strings.Contains(form, "%") {
		form = strings.Replace(form, "%", d.pick("x", "y", "f", "g"), 1)
	}
	left := many - 1
	for i := strings.Count(form, "#"); i > 0; i-- {
		part := left
		if i > 1 {
			part = d.below(left + 1)
		}
		left -= part
		form = strings.Replace(form, "#", d.wild(part), 1)
	}
	return form
}

// Programs made at random, most of which are not right: they are gone through all the same.
func TestWildProgramsAreAsTheModel(t *testing.T) {
	_, cons := right(t, declared+"do 1")
	d, errors, kept := dice(1), counted{}, 0
	for i := range 5000 {
		s := declared + "let a = 1; let z = a; let g = 2; let b = 3; let x = 4; let y = x; let f = 5; let i = f; "
		for range d.below(4) {
			x := d.pick("x", "y", "f", "z")
			s += d.pick("let "+x+" = "+d.wild(d.below(5)), "let rec "+x+" = fun "+d.pick("x", "y", "f")+" -> "+d.wild(d.below(5))) + "; "
		}
		s += "do fun x -> fun y -> let f = " + d.wild(d.below(4)) + " in fun b -> fun g -> let i = 4 in " + d.wild(i%40)
		n, _, e := parse.Program(s)
		if e != api.OK {
			continue
		}
		errors[held(t, s, n, cons)]++
		if funs, _, _ := core.Program(n, cons); slices.ContainsFunc(funs, func(f api.Fun) bool { return f.Kept > 3 }) {
			kept++
		}
	}
	errors.least(t, counted{api.OK: 2500, api.ErrCover: 400, api.ErrUseless: 400})
	if kept < 500 {
		t.Errorf("in %d programs a closure keeps more than 3", kept)
	}
}

// Programs of many functions, many locals, and closures that keep much.
func TestGreatProgramsAreAsTheModel(t *testing.T) {
	d, errors := dice(2), counted{}
	level := func() string { return d.pick("a", "b", "c", "d") }
	// sum is one of some names, those of the levels a to d among them.
	sum := func(many int) string {
		l := []string{"1"}
		for range many {
			l = append(l, level()+d.pick("0", "1", "2", "3", "4", "5", "6", "7", "8", "9", "10", "11", "12", "13", "14", "15"))
		}
		return strings.Join(l, "+")
	}
	for i := range 600 {
		before, behind := "", ""
		levels := []string{"a", "b", "c", "d"}
		for j, l := range levels {
			before += "match raise 1 with | " + sixteen(l) + " -> "
			behind = " end" + behind
			if j == 1 || d.below(3) == 0 {
				before += d.pick("fun y -> ", "let x = 1 in ", "fun y -> fun z -> ", "let rec f = fun y -> 1 in ")
			}
		}
		for range d.below(14) {
			before += d.pick("let u = 1 in ", "fun w -> ", "let rec g = fun u -> u + a1 in ", "let v = fun w -> b2 in ")
		}
		more := strings.Replace(d.pick("(fun x -> #) 1", "(try 1 with e -> # end)", "(#)", "(let x = 2 in #)"), "#", sum(i%30), 1)
		s := sixteens + "do " + before + "fun x -> " + sum(i%70) + "+" + more + " + match a0 with | 0 -> 1" + d.pick("", " | x -> x", " | x -> x") + " end" + behind
		tried(t, s, errors)
	}
	many := errors[api.OK]
	// Functions within functions, some hundred in all.
	for range 300 {
		s := ""
		for range 3 {
			s += "let f = " + strings.Repeat(d.pick("fun x -> ", "fun y -> "), 35+d.below(3)) + d.pick("x", "y", "1", "2") + "; "
		}
		s += "do " + strings.Repeat("fun z -> ", 3+d.below(9)) + d.pick("z", "(z; match 1 with | 0 -> 1 end)", "spawn z", "(let rec z = fun x -> z x in z)", "fun y -> match y with | 0 -> 1 end")
		tried(t, s, errors)
	}
	errors.least(t, counted{api.OK: many + 50, api.ErrMany: 100, api.ErrCover: 30})
	if many < 100 {
		t.Errorf("%d great programs are told", many)
	}
}
