package show_test

import (
	"fmt"
	"slices"
	"strconv"
	"strings"
	"testing"

	"selvage/api"
	"selvage/parse"
	"selvage/show"
)

// grammar is the chapter's (5), a way in each line: what it is a way of, the node that it makes (of an operation with its sign; `-`: that
// of the one part it has; `()`: likewise, but in brackets), and its words. NAME and CON are the node's Text, INT its Number, TEXT its Text as
// it is written, PARAM one of its Names. What stands in <> is a part, the next of the node's Kids; with marks: `!`, it is one deeper;
// `;`, a `;` may be a NodeSeq's in it. {a-b .. } stands there a to b times. A way behind `;` is one only where a `;` may be a NodeSeq's.
const grammar = `
program  prog    {0-60 <decl> } do <exp !;>
decl     type    type NAME {0-4 PARAM } = <def> {0-19 | <def> } ;
decl     val     let NAME = <exp !> ;
decl     valrec  let rec NAME = <function !> ;
def      def     CON
def      def     CON of <tyapp !> {0-3 , <tyapp !> }
tyapp    ty      NAME {0-2000 <tyatom> }
tyatom   ty      NAME
tyatom   ()      ( <tyapp !> )
exp      let     let NAME = <exp !> in <exp !>
exp      rec     let rec NAME = <function !> in <exp !>
exp      -       <function>
exp      if      if <exp !> then <exp !> else <exp !>
exp      -       <cmp>
exp      ;seq    <cmp> ; <exp !>
function fun     fun NAME -> <exp !>
cmp      -       <sum>
cmp      op:=    <sum> = <sum>
cmp      op:<    <sum> < <sum>
sum      -       <prod>
sum      op:+    <sum> + <prod>
sum      op:-    <sum> - <prod>
sum      op:^    <sum> ^ <prod>
prod     -       <app>
prod     op:*    <prod> * <app>
prod     op:/    <prod> / <app>
prod     op:%    <prod> % <app>
app      print   print <atom>
app      raise   raise <atom>
app      spawn   spawn <atom>
app      atom    atomically <atom>
app      tvar    tvar <atom>
app      read    read <atom>
app      write   write <atom> <atom>
app      else    orelse <atom> <atom>
app      con     CON {0-4 <atom> }
app      -       <calls>
calls    -       <noncon>
calls    call    <calls> <atom>
atom     -       <noncon>
atom     con     CON
noncon   int     INT
noncon   text    TEXT
noncon   name    NAME
noncon   retry   retry
noncon   unit    ( )
noncon   ()      ( <exp !;> )
noncon   match   match <exp !;> with {1-20 | <pat !> -> <exp !;> } end
noncon   try     try <exp !;> with NAME -> <exp !;> end
pat      con     CON {0-4 <patom> }
pat      -       <patom>
patom    any     _
patom    name    NAME
patom    int     INT
patom    con     CON
patom    ()      ( <pat !> )
`

// kinds are nodes' kinds by the names that the grammar has for them.
var kinds = map[string]int{
	"int": api.NodeInt, "text": api.NodeText, "unit": api.NodeUnit, "name": api.NodeName, "con": api.NodeCon, "fun": api.NodeFun,
	"call": api.NodeCall, "let": api.NodeLet, "rec": api.NodeRec, "if": api.NodeIf, "match": api.NodeMatch, "try": api.NodeTry,
	"op": api.NodeOp, "seq": api.NodeSeq, "print": api.NodePrint, "raise": api.NodeRaise, "spawn": api.NodeSpawn, "atom": api.NodeAtom,
	"retry": api.NodeRetry, "else": api.NodeElse, "tvar": api.NodeTvar, "read": api.NodeRead, "write": api.NodeWrite, "any": api.NodeAny,
	"type": api.NodeType, "def": api.NodeDef, "ty": api.NodeTy, "val": api.NodeVal, "valrec": api.NodeValRec, "prog": api.NodeProg,
}

// part is what stands in <>, and what its marks say.
type part struct {
	of            string
	deeper, joins bool
}

// group is what stands there some times: words, parts among them.
type group struct {
	least, most int
	words       []string
	parts       []part // by the word, of those that begin with <
}

// way is a line of the grammar.
type way struct {
	kind     int
	sign     string // of an operation
	through  bool   // it makes no node
	brackets bool   // likewise, with brackets round it
	joins    bool   // it is one only where a `;` may be a NodeSeq's
	groups   []group
}

// model tells texts by the grammar.
type model map[string][]way

func newModel() model {
	m := model{}
	for _, line := range strings.Split(strings.TrimSpace(grammar), "\n") {
		fields := strings.Fields(line)
		w := way{through: fields[1] == "-" || fields[1] == "()", brackets: fields[1] == "()"}
		name, joins := strings.CutPrefix(fields[1], ";")
		name, w.sign, _ = strings.Cut(name, ":")
		w.kind, w.joins = kinds[name], joins
		w.groups = []group{{least: 1, most: 1}}
		for i := 2; i < len(fields); i++ {
			g := &w.groups[len(w.groups)-1]
			switch f := fields[i]; {
			case f[0] == '{':
				a, b, _ := strings.Cut(f[1:], "-")
				g := group{}
				g.least, _ = strconv.Atoi(a)
				g.most, _ = strconv.Atoi(b)
				w.groups = append(w.groups, g)
			case f == "}":
				w.groups = append(w.groups, group{least: 1, most: 1})
			case f[0] == '<' && len(f) > 1:
				p := part{of: strings.Trim(f, "<>")}
				if !strings.HasSuffix(f, ">") {
					i++
					p.deeper, p.joins = strings.Contains(fields[i], "!"), strings.Contains(fields[i], ";")
				}
				g.words, g.parts = append(g.words, "<>"), append(g.parts, p)
			default:
				g.words, g.parts = append(g.words, f), append(g.parts, part{})
			}
		}
		m[fields[0]] = append(m[fields[0]], w)
	}
	return m
}

// times tells how often a node's groups stand there, and whether its lists are as long as they may be.
func (w way) times(n api.Node) ([]int, bool) {
	times := make([]int, len(w.groups))
	kids, names := len(n.Kids), len(n.Names)
	for i, g := range w.groups {
		if g.least == 1 && g.most == 1 {
			times[i] = 1
			kids -= g.count("<>")
		}
	}
	for i, g := range w.groups {
		switch of := g.count("<>"); {
		case times[i] == 1:
			continue
		case g.count("PARAM") == 1:
			times[i] = names
			names = 0
		case kids >= 0 && kids%of == 0:
			times[i] = kids / of
			kids = 0
		}
		if times[i] < g.least || times[i] > g.most {
			return nil, false
		}
	}
	return times, kids == 0 && names == 0
}

func (g group) count(word string) int {
	many := 0
	for _, w := range g.words {
		if w == word {
			many++
		}
	}
	return many
}

// has tells whether a word is one of the way's.
func (w way) has(word string) bool {
	for _, g := range w.groups {
		if g.count(word) > 0 {
			return true
		}
	}
	return false
}

// makes tells whether a way makes a node, as far as it is to be seen without what stands in its Kids.
func (w way) makes(n api.Node) bool {
	if _, fits := w.times(n); w.through || w.kind != n.Kind || !fits {
		return false
	}
	switch {
	case w.has("NAME"):
		return isWord(n.Text, 'a', 'z') && !slices.Contains(keys, n.Text) && n.Number == 0
	case w.has("CON"):
		return isWord(n.Text, 'A', 'Z') && n.Number == 0
	case w.has("TEXT"):
		return len(n.Text) <= 60 && n.Number == 0
	case w.has("INT"):
		return n.Text == "" && n.Number >= 0 && n.Number <= 1<<62-1
	}
	return n.Text == w.sign && n.Number == 0
}

var keys = strings.Fields("let rec in fun if then else match with end try print raise spawn atomically retry orelse tvar read write type of do")

// isWord tells whether a text is made as names are, with a letter of these ahead.
func isWord(s string, from, to byte) bool {
	if s == "" || len(s) > 16 || s[0] < from || s[0] > to {
		return false
	}
	return strings.Trim(s, "abcdefghijklmnopqrstuvwxyzABCDEFGHIJKLMNOPQRSTUVWXYZ0123456789_") == ""
}

// around is what a place tells of what stands there.
type around struct {
	deep  int
	joins bool
}

// within is what a part tells of what stands there.
func (a around) within(p part) around {
	if p.deeper {
		a.deep++
	}
	a.joins = a.joins || p.joins
	return a
}

// direct is the text of a node as something, without brackets round it; none, if it is not that.
func (m model) direct(of string, n api.Node, a around) ([]string, bool) {
	if a.deep > 40 {
		return nil, false
	}
	for _, w := range m[of] {
		if w.joins && !a.joins {
			continue
		}
		if w.through && !w.brackets {
			if l, is := m.direct(w.groups[0].parts[0].of, n, a); is {
				return l, true
			}
		}
		if w.makes(n) {
			return m.written(w, n, a)
		}
	}
	return nil, false
}

// is tells whether a node is something by itself, as far as it is to be seen without its Kids.
func (m model) is(of string, n api.Node, a around) bool {
	return slices.ContainsFunc(m[of], func(w way) bool {
		if w.joins && !a.joins {
			return false
		}
		return w.makes(n) || w.through && !w.brackets && m.is(w.groups[0].parts[0].of, n, a)
	})
}

// bracketed is what stands in brackets where something is asked for.
func (m model) bracketed(of string) (part, bool) {
	for _, w := range m[of] {
		if w.through {
			p := w.groups[0].parts[0]
			if w.brackets {
				p = w.groups[0].parts[1]
			} else {
				in, has := m.bracketed(p.of)
				if !has {
					continue
				}
				p = in
			}
			return p, true
		}
	}
	return part{}, false
}

// text is a node's text where something is asked for: in brackets, if it is not that.
func (m model) text(of string, n api.Node, a around) ([]string, bool) {
	if m.is(of, n, a) {
		return m.direct(of, n, a)
	}
	p, has := m.bracketed(of)
	if !has {
		return nil, false
	}
	l, is := m.direct(p.of, n, a.within(p))
	return append(append([]string{"("}, l...), ")"), is
}

// written are a node's words by a way.
func (m model) written(w way, n api.Node, a around) ([]string, bool) {
	var l []string
	kids, names := n.Kids, n.Names
	times, _ := w.times(n)
	for i, g := range w.groups {
		for range times[i] {
			for j, word := range g.words {
				switch word {
				case "NAME", "CON":
					l = append(l, n.Text)
				case "INT":
					l = append(l, strconv.Itoa(n.Number))
				case "TEXT":
					l = append(l, quoted(n.Text))
				case "PARAM":
					if !isWord(names[0], 'a', 'z') || slices.Contains(keys, names[0]) {
						return nil, false
					}
					l = append(l, names[0])
					names = names[1:]
				case "<>":
					k, is := m.text(g.parts[j].of, kids[0], a.within(g.parts[j]))
					if !is {
						return nil, false
					}
					l = append(l, k...)
					kids = kids[1:]
				default:
					l = append(l, word)
				}
			}
		}
	}
	return l, true
}

// quoted is a text as it is written.
func quoted(s string) string {
	w := ""
	for _, b := range []byte(s) {
		switch {
		case b == '"' || b == '\\':
			w += `\` + string(rune(b))
		case b == 10:
			w += `\n`
		case b < 32 || b > 126:
			w += fmt.Sprintf(`\x%02x`, b)
		default:
			w += string(rune(b))
		}
	}
	return `"` + w + `"`
}

// program is a program's text; none, if it is none.
func (m model) program(n api.Node) (string, api.Errno) {
	l, is := m.text("program", n, around{})
	if s := strings.Join(l, " "); is && len(s) <= 2000 {
		return s, api.OK
	}
	return "", api.ErrArg
}

// held holds that a node's text is as the model has it.
func (m model) held(t *testing.T, n api.Node) (string, api.Errno) {
	t.Helper()
	want, f := m.program(n)
	s, e := show.Program(n)
	if s != want || e != f {
		t.Fatalf("the text of %+v is\n%q, %v, not\n%q, %v", n, s, e, want, f)
	}
	return s, e
}

// leaves are nodes without Kids, one of each kind, and some that may not be.
func leaves() []api.Node {
	return []api.Node{
		{Kind: api.NodeInt, Number: 3}, {Kind: api.NodeText, Text: "a"}, {Kind: api.NodeUnit}, {Kind: api.NodeName, Text: "x"}, {Kind: api.NodeCon, Text: "A"},
		{Kind: api.NodeRetry}, {Kind: api.NodeAny}, {Kind: api.NodeTy, Text: "t"}, {Kind: api.NodeDef, Text: "D"},
	}
}

// frame is a node, to be put round others.
type frame struct {
	node api.Node
	kids int
}

// frames are nodes of each kind that has Kids, operations of each sign.
func frames() []frame {
	l := []frame{
		{api.Node{Kind: api.NodeCon, Text: "C"}, 1}, {api.Node{Kind: api.NodeCon, Text: "C"}, 2}, {api.Node{Kind: api.NodeFun, Text: "p"}, 1}, {api.Node{Kind: api.NodeCall}, 2},
		{api.Node{Kind: api.NodeLet, Text: "v"}, 2}, {api.Node{Kind: api.NodeRec, Text: "r"}, 2}, {api.Node{Kind: api.NodeIf}, 3}, {api.Node{Kind: api.NodeMatch}, 3},
		{api.Node{Kind: api.NodeTry, Text: "e"}, 2}, {api.Node{Kind: api.NodeSeq}, 2}, {api.Node{Kind: api.NodePrint}, 1}, {api.Node{Kind: api.NodeRaise}, 1},
		{api.Node{Kind: api.NodeSpawn}, 1}, {api.Node{Kind: api.NodeAtom}, 1}, {api.Node{Kind: api.NodeElse}, 2}, {api.Node{Kind: api.NodeTvar}, 1},
		{api.Node{Kind: api.NodeRead}, 1}, {api.Node{Kind: api.NodeWrite}, 2}, {api.Node{Kind: api.NodeTy, Text: "u"}, 1}, {api.Node{Kind: api.NodeDef, Text: "E"}, 1},
	}
	for _, sign := range []string{"=", "<", "+", "-", "^", "*", "/", "%"} {
		l = append(l, frame{api.Node{Kind: api.NodeOp, Text: sign}, 2})
	}
	return l
}

// round is a frame with a node at one of its places, and what is shortest at the other ones.
func (f frame) round(n api.Node, at int) api.Node {
	x := f.node
	for i := range f.kids {
		switch {
		case i == at:
			x.Kids = append(x.Kids, n)
		case x.Kind == api.NodeMatch && i%2 == 1:
			x.Kids = append(x.Kids, api.Node{Kind: api.NodeAny})
		case x.Kind == api.NodeRec && i == 0:
			x.Kids = append(x.Kids, api.Node{Kind: api.NodeFun, Text: "q", Kids: []api.Node{{Kind: api.NodeName, Text: "z"}}})
		default:
			x.Kids = append(x.Kids, api.Node{Kind: api.NodeName, Text: "y"})
		}
	}
	return x
}

// hung are nodes round each of some: each kind with each of them at each place.
func hung(l []api.Node) []api.Node {
	var all []api.Node
	for _, f := range frames() {
		for at := range f.kids {
			for _, n := range l {
				all = append(all, f.round(n, at))
			}
		}
	}
	return all
}

// programs are those in which a node stands as what is done, and as a declaration's exp.
func programs(n api.Node) []api.Node {
	z := api.Node{Kind: api.NodeName, Text: "z"}
	of := func(kind int, kids ...api.Node) api.Node {
		return api.Node{Kind: api.NodeProg, Kids: []api.Node{{Kind: kind, Text: "d", Kids: kids}, z}}
	}
	return []api.Node{
		does(n), of(api.NodeVal, n), of(api.NodeValRec, n), of(api.NodeValRec, api.Node{Kind: api.NodeFun, Text: "p", Kids: []api.Node{n}}),
		of(api.NodeType, n), of(api.NodeType, api.Node{Kind: api.NodeDef, Text: "D", Kids: []api.Node{n}}),
		does(api.Node{Kind: api.NodeMatch, Kids: []api.Node{z, n, z}}),
	}
}

// P6.1, P6.3: every node of three kinds in one another at most, at every place: its text is as the grammar has it; and no two have the same one.
func TestSmallNodesAreAsTheModel(t *testing.T) {
	m := newModel()
	texts := map[string]api.Node{}
	one := leaves()
	two := hung(one)
	told := map[api.Errno]int{}
	try := func(n api.Node) {
		for _, p := range programs(n) {
			s, e := m.held(t, p)
			told[e]++
			if other, has := texts[s]; e == api.OK && has && !parse.Same(other, p) {
				t.Fatalf("%q is the text of two", s)
			}
			texts[s] = p
		}
	}
	for _, n := range one {
		try(n)
	}
	for _, n := range two {
		try(n)
	}
	for _, n := range hung(two) {
		try(n)
	}
	if told[api.OK] < 20000 || told[api.ErrArg] < 20000 {
		t.Error(told)
	}
}

// P6.1: nodes made at random.
func TestRandomNodesAreAsTheModel(t *testing.T) {
	m, d := newModel(), dice(1)
	told := map[api.Errno]int{}
	for range 8000 {
		_, e := m.held(t, d.program())
		told[e]++
	}
	if told[api.OK] < 7500 {
		t.Error(told)
	}
}

// P6.1: nodes that differ from a program's in one thing, or some.
func TestBrokenNodesAreAsTheModel(t *testing.T) {
	m, d := newModel(), dice(2)
	told := map[api.Errno]int{}
	for range 16000 {
		n := d.program()
		for range 1 + d.below(2) {
			d.broken(&n)
		}
		_, e := m.held(t, n)
		told[e]++
	}
	if told[api.OK] < 1500 || told[api.ErrArg] < 5000 {
		t.Error(told)
	}
}

// P6.1: nodes that are deep, or long, as much as may be, and a little more.
func TestDeepAndLongNodesAreAsTheModel(t *testing.T) {
	m, d := newModel(), dice(3)
	told := map[api.Errno]int{}
	for range 2000 {
		all := frames()
		n := leaves()[d.below(7)]
		for range 15 + d.below(30) {
			f := all[d.below(len(all))]
			n = f.round(n, d.below(f.kids))
		}
		_, e := m.held(t, does(n))
		told[e]++
	}
	for i := range 2000 {
		// So that most are programs, they are hung into places of exps alone.
		n := leaves()[d.below(6)]
		for range 12 + i%40 {
			f := frames()[d.below(18)]
			at := d.below(f.kids)
			if f.node.Kind == api.NodeMatch {
				at = 2 * d.below(2)
			}
			if f.node.Kind == api.NodeRec {
				at = 1
			}
			n = f.round(n, at)
		}
		_, e := m.held(t, programs(n)[d.below(2)])
		told[e]++
	}
	for range 400 {
		x := d.exp(0)
		n := x
		for range d.below(600) {
			n = []api.Node{
				{Kind: api.NodeCall, Kids: []api.Node{n, x}}, {Kind: api.NodeOp, Text: "+", Kids: []api.Node{n, x}}, {Kind: api.NodeOp, Text: "*", Kids: []api.Node{n, x}},
			}[d.below(3)]
		}
		_, e := m.held(t, does(n))
		told[e]++
	}
	if told[api.OK] < 500 || told[api.ErrArg] < 500 {
		t.Error(told)
	}
}

// P6.1: what stands in brackets must: without any one pair of them a text is read as another node, or not at all.
func TestNoBracketsButThoseThatMustBe(t *testing.T) {
	d := dice(4)
	tried := 0
	for range 2000 {
		n := d.program()
		s, e := show.Program(n)
		if e != api.OK {
			continue
		}
		l := split(s)
		for _, p := range pairs(l) {
			tried++
			less := slices.Concat(l[:p[0]], l[p[0]+1:p[1]], l[p[1]+1:])
			if back, _, e := parse.Program(strings.Join(less, " ")); e == api.OK && parse.Same(back, n) {
				t.Fatalf("%q has brackets that need not be, as %q has none", s, strings.Join(less, " "))
			}
		}
	}
	if tried < 3000 {
		t.Error(tried)
	}
}

// split is a text's words; blanks within strings part none.
func split(s string) []string {
	var l []string
	text := false
	from := 0
	for i := range len(s) {
		switch {
		case s[i] == '"' && (!text || !escaped(s[from:i])):
			text = !text
		case s[i] == ' ' && !text:
			l = append(l, s[from:i])
			from = i + 1
		}
	}
	return append(l, s[from:])
}

// escaped tells whether what stands behind a part of a written string is made another thing by a backslash.
func escaped(s string) bool {
	many := len(s) - len(strings.TrimRight(s, `\`))
	return many%2 == 1
}

// pairs are the places of brackets that stand round something.
func pairs(l []string) [][2]int {
	var open []int
	var all [][2]int
	for i, w := range l {
		switch w {
		case "(":
			open = append(open, i)
		case ")":
			from := open[len(open)-1]
			open = open[:len(open)-1]
			if from+1 < i {
				all = append(all, [2]int{from, i})
			}
		}
	}
	return all
}

// P6.2: what is shown is read as the same, and is shown the same again.
func TestWhatIsShownIsReadAsTheSame(t *testing.T) {
	d := dice(5)
	many := 0
	for range 6000 {
		n := d.program()
		s, e := show.Program(n)
		if e != api.OK {
			continue
		}
		many++
		back, at, e := parse.Program(s)
		if at != 0 || e != api.OK || !parse.Same(back, n) || !parse.Same(n, back) {
			t.Fatalf("%q is read as another node: %d, %v", s, at, e)
		}
		if again, e := show.Program(back); again != s || e != api.OK {
			t.Fatalf("%q is shown as %q, %v", s, again, e)
		}
	}
	if many < 5000 {
		t.Error(many)
	}
}

// P6.3: two nodes have the same text just if they are the same.
func TestUnlikeNodesHaveUnlikeTexts(t *testing.T) {
	d := dice(6)
	nodes := map[string]api.Node{}
	again := 0
	for range 20000 {
		n := does(d.exp(2))
		s, e := show.Program(n)
		if e != api.OK {
			continue
		}
		if other, has := nodes[s]; has {
			again++
			if !parse.Same(n, other) {
				t.Fatalf("%q is the text of two", s)
			}
		}
		nodes[s] = n
	}
	if len(nodes) < 5000 || again < 500 {
		t.Error(len(nodes), again)
	}
	for range 8000 {
		a := d.program()
		b := copied(a)
		d.broken(&b)
		s, e := show.Program(a)
		r, f := show.Program(b)
		if e == api.OK && f == api.OK && (s == r) != parse.Same(a, b) {
			t.Fatalf("%q and %q are texts of nodes that are the same: %v", s, r, parse.Same(a, b))
		}
	}
}

// dice tells numbers, the same ones in each run.
type dice uint64

func newDice(n uint64) *dice { d := dice(n); return &d }

// below is a number from 0 to n - 1.
func (d *dice) below(n int) int {
	*d = *d*6364136223846793005 + 1442695040888963407
	return int(uint64(*d) >> 33 % uint64(n))
}

// pick is one of some texts.
func (d *dice) pick(l ...string) string { return l[d.below(len(l))] }

func (d *dice) name() string {
	return d.pick("x", "f", "list", "x1_Y", "lets", "a_", "int", "abcdefghijklmnop")
}
func (d *dice) con() string  { return d.pick("A", "Cons", "Nil", "B_1", "Let", "Abcdefghijklmnop") }
func (d *dice) sign() string { return d.pick("=", "<", "+", "-", "^", "*", "/", "%") }

// program is a program's node, if it is not too long.
func (d *dice) program() api.Node {
	n := api.Node{Kind: api.NodeProg, At: d.below(9)}
	for range d.below(4) {
		n.Kids = append(n.Kids, d.decl())
	}
	n.Kids = append(n.Kids, d.exp(d.below(7)))
	return n
}

func (d *dice) decl() api.Node {
	switch d.below(3) {
	case 0:
		return api.Node{Kind: api.NodeVal, Text: d.name(), Kids: []api.Node{d.exp(d.below(6))}}
	case 1:
		return api.Node{Kind: api.NodeValRec, Text: d.name(), Kids: []api.Node{d.fun(d.below(6))}}
	}
	n := api.Node{Kind: api.NodeType, Text: d.name()}
	for range d.below(5) {
		n.Names = append(n.Names, d.name())
	}
	for range 1 + d.below(4) {
		def := api.Node{Kind: api.NodeDef, Text: d.con()}
		for range d.below(5) {
			def.Kids = append(def.Kids, d.ty(d.below(4)))
		}
		n.Kids = append(n.Kids, def)
	}
	return n
}

func (d *dice) ty(deep int) api.Node {
	n := api.Node{Kind: api.NodeTy, Text: d.name(), At: d.below(9)}
	for range d.below(3) * min(deep, 1) {
		n.Kids = append(n.Kids, d.ty(deep-1))
	}
	return n
}

func (d *dice) fun(deep int) api.Node {
	return api.Node{Kind: api.NodeFun, Text: d.name(), Kids: []api.Node{d.exp(deep - 1)}}
}

// exp is an exp, so deep at most.
func (d *dice) exp(deep int) api.Node {
	if deep <= 0 || d.below(8) == 0 {
		return []api.Node{
			{Kind: api.NodeInt, Number: []int{0, 1, 42, api.MaxInt}[d.below(4)]}, {Kind: api.NodeText, Text: d.pick("", "a", "\"\\\n\x00", "( )", "let")}, {Kind: api.NodeUnit},
			{Kind: api.NodeName, Text: d.name()}, {Kind: api.NodeCon, Text: d.con()}, {Kind: api.NodeRetry}, {Kind: api.NodeName, Text: d.name(), At: 7},
		}[d.below(7)]
	}
	n := api.Node{Kind: []int{
		api.NodeCon, api.NodeFun, api.NodeCall, api.NodeLet, api.NodeRec, api.NodeIf, api.NodeMatch, api.NodeTry, api.NodeOp, api.NodeSeq, api.NodePrint, api.NodeRaise,
		api.NodeSpawn, api.NodeAtom, api.NodeElse, api.NodeTvar, api.NodeRead, api.NodeWrite, api.NodeOp, api.NodeOp, api.NodeSeq, api.NodeCall,
	}[d.below(22)], At: d.below(9)}
	kids := 1
	switch n.Kind {
	case api.NodeCon:
		n.Text, kids = d.con(), d.below(5)
	case api.NodeFun:
		return d.fun(deep)
	case api.NodeRec:
		n.Text = d.name()
		n.Kids = append(n.Kids, d.fun(deep-1))
	case api.NodeLet, api.NodeTry:
		n.Text, kids = d.name(), 2
	case api.NodeOp:
		n.Text, kids = d.sign(), 2
	case api.NodeCall, api.NodeSeq, api.NodeElse, api.NodeWrite:
		kids = 2
	case api.NodeIf:
		kids = 3
	case api.NodeMatch:
		n.Kids = append(n.Kids, d.exp(deep-1))
		for range 1 + d.below(3) {
			n.Kids = append(n.Kids, d.pat(d.below(4)), d.exp(deep-1))
		}
		return n
	}
	for range kids {
		n.Kids = append(n.Kids, d.exp(deep-1))
	}
	return n
}

func (d *dice) pat(deep int) api.Node {
	switch d.below(4) {
	case 0:
		return api.Node{Kind: api.NodeAny, At: 5}
	case 1:
		return api.Node{Kind: api.NodeName, Text: d.name()}
	case 2:
		return api.Node{Kind: api.NodeInt, Number: d.below(300)}
	}
	n := api.Node{Kind: api.NodeCon, Text: d.con()}
	for range d.below(5) * min(deep, 1) {
		n.Kids = append(n.Kids, d.pat(deep-1))
	}
	return n
}

// broken changes one thing in a node.
func (d *dice) broken(n *api.Node) {
	l := parts(n)
	p := l[d.below(len(l))]
	switch d.below(14) {
	case 0:
		p.Kind = d.below(32)
	case 1:
		p.Kind = []int{-1, 31, 1 << 40, -api.NodeInt, 0}[d.below(5)]
	case 2, 3:
		p.Text = d.pick("", "a", "A", "let", "end", "Let", "_", "+", "=", ";", "a b", "abcdefghijklmnopq", "Abcdefghijklmnopq", "1", "x-y", "( )", "\"a\"", "a\n", strings.Repeat("z", 61))
	case 4:
		p.Number = []int{-1, 1, 0, api.MaxInt, api.MaxInt + 1, -1 << 63, 1<<63 - 1}[d.below(7)]
	case 5:
		p.Names = append(slices.Clone(p.Names), d.pick("a", "", "let", "A", "b c", "xyz"))
	case 6:
		if len(p.Names) > 0 {
			p.Names = slices.Clone(p.Names)
			p.Names[d.below(len(p.Names))] = d.pick("b", "", "let", "B", "b c", "abcdefghijklmnopq")
		}
	case 7:
		p.Kids = append(slices.Clone(p.Kids), []api.Node{{}, {Kind: api.NodeName, Text: "x"}, {Kind: api.NodeAny}, d.exp(1)}[d.below(4)])
	case 8, 9:
		if len(p.Kids) > 0 {
			i := d.below(len(p.Kids))
			p.Kids = slices.Delete(slices.Clone(p.Kids), i, i+1)
		}
	case 10:
		if len(p.Kids) > 1 {
			p.Kids = slices.Clone(p.Kids)
			p.Kids[0], p.Kids[1] = p.Kids[1], p.Kids[0]
		}
	case 11:
		*p = copied(*l[d.below(len(l))])
	case 12:
		*p = d.exp(2)
	case 13:
		p.At += 1 + d.below(5)
	}
}
