package infer_test

import (
	"slices"
	"strconv"
	"strings"
	"testing"

	"selvage/api"
	"selvage/infer"
	"selvage/parse"
	"selvage/show"
)

// A model of the chapter, without chapter 7: types are cells that are made one where they stand, names are a chain of which each link holds what is around it,
// and a scheme is what it was when it was made, with cells that are made anew each time.

// cell is a type: a name and what stands behind it, or a variable, which may be another cell since.
type cell struct {
	name string
	args []*cell
	is   *cell
}

func (c *cell) end() *cell {
	for c.is != nil {
		c = c.is
	}
	return c
}

func cells(name string, args ...*cell) *cell { return &cell{name: name, args: args} }

// fits tells whether a type may be.
func (c *cell) fits() bool {
	left := 200
	var goes func(c *cell, deep int) bool
	goes = func(c *cell, deep int) bool {
		left--
		if deep > 40 || left < 0 {
			return false
		}
		for _, arg := range c.end().args {
			if !goes(arg, deep+1) {
				return false
			}
		}
		return true
	}
	return goes(c, 1)
}

// has tells whether a variable stands in a type.
func (c *cell) has(v *cell, seen map[*cell]bool) bool {
	c = c.end()
	if c == v {
		return true
	}
	if seen[c] {
		return false
	}
	seen[c] = true
	return slices.ContainsFunc(c.args, func(arg *cell) bool { return arg.has(v, seen) })
}

// free are the variables of a type that may be, in the order of their first places.
func (c *cell) free(l []*cell) []*cell {
	c = c.end()
	if c.name == "" && !slices.Contains(l, c) {
		l = append(l, c)
	}
	for _, arg := range c.args {
		l = arg.free(l)
	}
	return l
}

// text is the written form of a type that may be.
func (c *cell) text() string {
	letters := c.free(nil)
	var write func(c *cell, inner bool) string
	write = func(c *cell, inner bool) string {
		c = c.end()
		if c.name == "" {
			n := slices.Index(letters, c)
			s := string(rune('a' + n%26))
			if n >= 26 {
				s += strconv.Itoa(n / 26)
			}
			return s
		}
		s := c.name
		for _, arg := range c.args {
			s += " " + write(arg, true)
		}
		if inner && len(c.args) > 0 {
			return "(" + s + ")"
		}
		return s
	}
	return write(c, false)
}

// wrong is what is wrong with a program, and where.
type wrong struct {
	at int
	e  api.Errno
}

func must(may bool, n api.Node, e api.Errno) {
	if !may {
		panic(wrong{n.At, e})
	}
}

// join makes two types one.
func join(n api.Node, a, b *cell) {
	must(a.fits() && b.fits(), n, api.ErrMany)
	joinParts(n, a, b, map[[2]*cell]bool{})
	must(a.fits(), n, api.ErrMany)
}

func joinParts(n api.Node, a, b *cell, seen map[[2]*cell]bool) {
	a, b = a.end(), b.end()
	if a == b || seen[[2]*cell{a, b}] {
		return
	}
	seen[[2]*cell{a, b}] = true
	if a.name != "" && b.name == "" {
		a, b = b, a
	}
	if a.name == "" {
		must(!b.has(a, map[*cell]bool{}), n, api.ErrLoop)
		a.is = b
		return
	}
	must(a.name == b.name && len(a.args) == len(b.args), n, api.ErrType)
	for i := range a.args {
		joinParts(n, a.args[i], b.args[i], seen)
	}
}

// link is what is around an exp: a name, or the effect of a place.
type link struct {
	name    string
	is      *cell
	general []*cell // the variables of which each instance has new ones; a link with a type alone is kept
	alone   bool
	around  *link
}

// snapshot is a type as it is now.
func (c *cell) snapshot() *cell {
	c = c.end()
	if c.name == "" {
		return c
	}
	s := cells(c.name)
	for _, arg := range c.args {
		s.args = append(s.args, arg.snapshot())
	}
	return s
}

// instance is a link's type with new variables.
func (l *link) instance() *cell {
	anew := map[*cell]*cell{}
	for _, v := range l.general {
		anew[v] = &cell{}
	}
	var made func(c *cell) *cell
	made = func(c *cell) *cell {
		if v := anew[c]; v != nil {
			return v
		}
		if c.name == "" {
			return c
		}
		s := cells(c.name)
		for _, arg := range c.args {
			s.args = append(s.args, made(arg))
		}
		return s
	}
	if l.alone {
		return l.is
	}
	return made(l.is)
}

// modelled is what the model knows of types and constructors.
type modelled struct {
	types map[string]int
	cons  []api.Con
	made  map[string]link
}

// typeDecl goes through a declaration of a type.
func (m *modelled) typeDecl(n api.Node) {
	_, is := m.types[n.Text]
	must(!is, n, api.ErrTwice)
	params, whole := map[string]*cell{}, cells(n.Text)
	for _, name := range n.Names {
		must(params[name] == nil, n, api.ErrTwice)
		params[name] = &cell{}
		whole.args = append(whole.args, params[name])
	}
	m.types[n.Text] = len(n.Names)
	var ty func(n api.Node) *cell
	ty = func(n api.Node) *cell {
		if v := params[n.Text]; v != nil {
			must(len(n.Kids) == 0, n, api.ErrArity)
			return v
		}
		many, is := m.types[n.Text]
		must(is, n, api.ErrName)
		must(many == len(n.Kids), n, api.ErrArity)
		c := cells(n.Text)
		for _, k := range n.Kids {
			c.args = append(c.args, ty(k))
		}
		return c
	}
	for tag, def := range n.Kids {
		_, is := m.made[def.Text]
		must(!is, def, api.ErrTwice)
		c := cells(def.Text)
		for _, k := range def.Kids {
			c.args = append(c.args, ty(k))
		}
		c.args = append(c.args, whole)
		must(c.fits(), def, api.ErrMany)
		m.made[def.Text] = link{is: c, general: whole.args}
		m.cons = append(m.cons, api.Con{Name: def.Text, Of: n.Text, Tag: tag, Arity: len(def.Kids), Many: len(n.Kids)})
	}
}

// con is an instance of a constructor, with as much behind it as stands there.
func (m *modelled) con(n api.Node) []*cell {
	l, is := m.made[n.Text]
	must(is, n, api.ErrName)
	args := l.instance().args
	must(len(args) == len(n.Kids)+1, n, api.ErrArity)
	return args
}

// let goes through a let's value, and is the chain with its name.
func (m *modelled) let(n api.Node, around *link, place *cell) *link {
	value, inner := n.Kids[0], around
	own := &cell{}
	if n.Kind == api.NodeRec || n.Kind == api.NodeValRec {
		inner = &link{name: n.Text, is: own, alone: true, around: around}
	}
	t := m.exp(value, inner, place)
	if inner != around {
		join(value, t, own)
	}
	var syntactic func(n api.Node) bool
	syntactic = func(n api.Node) bool {
		for _, k := range n.Kids {
			if n.Kind == api.NodeCon && !syntactic(k) {
				return false
			}
		}
		return slices.Contains([]int{api.NodeFun, api.NodeName, api.NodeInt, api.NodeText, api.NodeUnit, api.NodeCon}, n.Kind)
	}
	if !syntactic(value) {
		return &link{name: n.Text, is: t, alone: true, around: around}
	}
	general := t.free(nil)
	for l := around; l != nil; l = l.around {
		if l.alone {
			must(l.is.fits(), n, api.ErrMany)
			general = slices.DeleteFunc(general, func(v *cell) bool { return l.is.has(v, map[*cell]bool{}) })
		}
	}
	return &link{name: n.Text, is: t.snapshot(), general: general, around: around}
}

// exp is an exp's type.
func (m *modelled) exp(n api.Node, around *link, place *cell) *cell {
	t := m.rule(n, around, place)
	must(t.fits(), n, api.ErrMany)
	return t
}

func (m *modelled) rule(n api.Node, around *link, place *cell) *cell {
	is := func(i int) *cell { return m.exp(n.Kids[i], around, place) }
	be := func(i int, t *cell) *cell { join(n.Kids[i], is(i), t); return t }
	in := func(i int, effect string) *cell {
		return m.exp(n.Kids[i], &link{is: cells(effect), alone: true, around: around}, cells(effect))
	}
	effect := func(name string) {
		if p := place.end(); p.name == "" {
			p.is = cells(name)
		} else {
			must(p.name == name, n, api.ErrEffect)
		}
	}
	known := func(name string, t *cell) *link { return &link{name: name, is: t, alone: true, around: around} }
	switch n.Kind {
	case api.NodeInt:
		return cells("int")
	case api.NodeText:
		return cells("string")
	case api.NodeUnit:
		return cells("unit")
	case api.NodeName:
		for l := around; l != nil; l = l.around {
			if l.name == n.Text {
				return l.instance()
			}
		}
		panic(wrong{n.At, api.ErrName})
	case api.NodeCon:
		args := m.con(n)
		for i := range n.Kids {
			be(i, args[i])
		}
		return args[len(n.Kids)]
	case api.NodeFun:
		param, eff := &cell{}, &cell{}
		within := &link{is: eff, alone: true, around: known(n.Text, param)}
		return cells("->", param, eff, m.exp(n.Kids[0], within, eff))
	case api.NodeCall:
		f, x, comes := is(0), is(1), &cell{}
		join(n, f, cells("->", x, place, comes))
		return comes
	case api.NodeLet, api.NodeRec:
		return m.exp(n.Kids[1], m.let(n, around, place), place)
	case api.NodeIf:
		be(0, cells("bool"))
		return be(2, is(1))
	case api.NodeMatch:
		return m.match(n, around, place)
	case api.NodeTry:
		t := is(0)
		join(n.Kids[1], m.exp(n.Kids[1], known(n.Text, cells("int")), place), t)
		return t
	case api.NodeOp:
		of := map[string][2]string{"=": {"int", "bool"}, "<": {"int", "bool"}, "^": {"string", "string"}}[n.Text]
		if of[0] == "" {
			of = [2]string{"int", "int"}
		}
		be(0, cells(of[0]))
		be(1, cells(of[0]))
		return cells(of[1])
	case api.NodeSeq:
		is(0)
		return is(1)
	case api.NodePrint:
		be(0, cells("string"))
		effect("IO")
		return cells("unit")
	case api.NodeRaise:
		be(0, cells("int"))
		return &cell{}
	case api.NodeSpawn:
		in(0, "IO")
		effect("IO")
		return cells("unit")
	case api.NodeAtom:
		t := in(0, "STM")
		effect("IO")
		return t
	case api.NodeRetry:
		effect("STM")
		return &cell{}
	case api.NodeElse:
		a, b := in(0, "STM"), in(1, "STM")
		effect("STM")
		join(n.Kids[1], b, a)
		return a
	case api.NodeTvar:
		return cells("var", is(0))
	case api.NodeRead:
		t := &cell{}
		be(0, cells("var", t))
		effect("STM")
		return t
	case api.NodeWrite:
		a, b := is(0), is(1)
		join(n.Kids[0], a, cells("var", b))
		effect("STM")
		return cells("unit")
	}
	panic("no exp")
}

// match is a match's type.
func (m *modelled) match(n api.Node, around *link, place *cell) *cell {
	value := m.exp(n.Kids[0], around, place)
	var first *cell
	for i := 1; i < len(n.Kids); i += 2 {
		chain := around
		var names []string
		var pattern func(n api.Node, t *cell)
		pattern = func(n api.Node, t *cell) {
			switch n.Kind {
			case api.NodeName:
				must(!slices.Contains(names, n.Text), n, api.ErrTwice)
				names = append(names, n.Text)
				chain = &link{name: n.Text, is: t, alone: true, around: chain}
			case api.NodeInt:
				join(n, cells("int"), t)
			case api.NodeCon:
				args := m.con(n)
				join(n, args[len(n.Kids)], t)
				for i, k := range n.Kids {
					pattern(k, args[i])
				}
			}
		}
		pattern(n.Kids[i], value)
		t := m.exp(n.Kids[i+1], chain, place)
		if first == nil {
			first = t
		} else {
			join(n.Kids[i+1], t, first)
		}
	}
	return first
}

// program is what the model tells of a program, as told does.
func modelProgram(n api.Node) (s string, at int, e api.Errno) {
	defer func() {
		if w, is := recover().(wrong); is {
			s, at, e = "", w.at, w.e
		}
	}()
	m := &modelled{types: map[string]int{"int": 0, "string": 0, "unit": 0, "bool": 0, "var": 1}, made: map[string]link{}}
	for tag, name := range []string{"False", "True"} {
		m.made[name] = link{is: cells(name, cells("bool"))}
		m.cons = append(m.cons, api.Con{Name: name, Of: "bool", Tag: tag, Many: 2})
	}
	var chain *link
	var lets []*link
	for _, k := range n.Kids[:len(n.Kids)-1] {
		if k.Kind == api.NodeType {
			m.typeDecl(k)
		} else {
			chain = m.let(k, chain, cells("IO"))
			lets = append(lets, chain)
		}
	}
	is := m.exp(n.Kids[len(n.Kids)-1], chain, cells("IO"))
	var l []string
	for _, c := range m.cons {
		l = append(l, strings.Join([]string{c.Name, c.Of, strconv.Itoa(c.Tag), strconv.Itoa(c.Arity), strconv.Itoa(c.Many)}, " "))
	}
	great := slices.ContainsFunc(lets, func(l *link) bool { return l.alone && !l.is.fits() })
	for _, let := range lets {
		many, text := 0, ""
		if let.is.fits() {
			text = let.is.text()
			for _, v := range let.general {
				if v.is != nil {
					panic("a general variable is something")
				}
				many++
			}
		}
		if great {
			many = 0
		}
		l = append(l, let.name+": "+strconv.Itoa(many)+" "+text)
	}
	return strings.Join(append(l, is.text()), "; "), 0, api.OK
}

// held holds a program's node against the model; it tells the error.
func held(t *testing.T, n api.Node) api.Errno {
	t.Helper()
	want, place, fault := modelProgram(n)
	r, at, e := infer.Program(n)
	if told(r) != want || at != place || e != fault {
		t.Errorf("%s\nis %s, %d, %v, not\n%s, %d, %v", source(n), told(r), at, e, want, place, fault)
	}
	return e
}

// placed is a node as a source has it, with places.
func placed(t *testing.T, n api.Node) api.Node {
	t.Helper()
	s, e := show.Program(n)
	if e != api.OK {
		t.Fatalf("%+v is no program", n)
	}
	n, _, _ = parse.Program(s)
	return n
}

func TestSamplesAreAsTheModel(t *testing.T) {
	for _, s := range samples() {
		held(t, node(t, s))
	}
}

// source is a node as a source.
func source(n api.Node) string {
	s, _ := show.Program(n)
	return s
}
