package parse_test

import (
	"slices"
	"strconv"
	"strings"
	"testing"

	"selvage/api"
	"selvage/lex"
	"selvage/parse"
)

// grammar is the chapter's, a way in each line; behind a bare name stands nothing. What has ways itself stands in <>, with marks: `!`, it stands one deeper;
// `;`, a `;` may be a NodeSeq's in it; a number, it is a list, of so many more at most (0: of one less than the list in which it stands).
// Lines behind {} hold only where a `;` may be a NodeSeq's.
const grammar = `
program  <decls 60> do <exp ;> END
decls
decls    <decl> <decls 0>
decl     type NAME <params 4> = <cons 20> ;
decl     let NAME = <exp> ;
decl     let rec NAME = <function> ;
params
params   NAME <params 0>
cons     <con>
cons     <con> | <cons 0>
con      CON
con      CON of <tys 4>
tys      <tyapp>
tys      <tyapp> , <tys 0>
tyapp    NAME
tyapp    <tyapp> <tyatom>
tyatom   NAME
tyatom   ( <tyapp !> )
exp      let NAME = <exp !> in <exp !>
exp      let rec NAME = <function !> in <exp !>
exp      <function>
exp      if <exp !> then <exp !> else <exp !>
exp      <cmp>
exp      {} <cmp> ; <exp !>
function fun NAME -> <exp !>
cmp      <sum>
cmp      <sum> = <sum>
cmp      <sum> < <sum>
sum      <prod>
sum      <sum> + <prod>
sum      <sum> - <prod>
sum      <sum> ^ <prod>
prod     <app>
prod     <prod> * <app>
prod     <prod> / <app>
prod     <prod> % <app>
app      print <atom>
app      raise <atom>
app      spawn <atom>
app      atomically <atom>
app      tvar <atom>
app      read <atom>
app      write <atom> <atom>
app      orelse <atom> <atom>
app      CON <atoms 4>
app      <calls>
calls    <noncon>
calls    <calls> <atom>
atoms
atoms    <atom> <atoms 0>
atom     <noncon>
atom     CON
noncon   INT
noncon   TEXT
noncon   NAME
noncon   retry
noncon   ( )
noncon   ( <exp !;> )
noncon   match <exp !;> with <row ;> <rows ;19> end
noncon   try <exp !;> with NAME -> <exp !;> end
rows
rows     <row> <rows 0>
row      | <pat !> -> <exp !>
pat      CON <patoms 4>
pat      <patom>
patoms
patoms   <patom> <patoms 0>
patom    _
patom    NAME
patom    INT
patom    CON
patom    ( <pat !> )
`

// first tells what a list's next one begins with, where it is told by its first token that there is one.
var first = map[string][]string{
	"params": {"NAME"},
	"decls":  {"let", "type"},
	"atoms":  {"INT", "TEXT", "NAME", "CON", "(", "retry", "match", "try"},
	"patoms": {"_", "NAME", "INT", "CON", "("},
	"rows":   {"|"},
}

// forced are the lists in which something must stand behind a sign: there whatever stands is one too many.
var forced = []string{"cons", "tys"}

// symbol is a token's kind, or what has ways (of which it has a name in small letters, and open is set).
type symbol struct {
	name  string
	open  bool
	deep  int  // how many exps, pats, tyapps it stands in
	joins bool // whether a `;` may be a NodeSeq's
	left  int  // of a list: how many more there may be
}

// known is a symbol with its ways, which are made when they are asked first.
type known struct {
	symbol
	ways  [][]*known
	empty bool // whether it may be nothing at all
	made  bool
}

// item is a way of a symbol that began somewhere, gone through up to a dot.
type item struct {
	of              *known
	way, dot, begun int
}

// rest is what stands behind the dot.
func (x item) rest() []*known { return x.of.ways[x.way][x.dot:] }

// model holds which items there are behind each of some tokens: so it tells, token by token, whether a program may begin so.
type model struct {
	symbols map[symbol]*known
	lines   [][2]string
	sets    [][]item
}

func newModel() *model {
	m := &model{symbols: map[symbol]*known{}}
	for _, line := range strings.Split(strings.TrimSpace(grammar), "\n") {
		name, way, _ := strings.Cut(line, " ")
		m.lines = append(m.lines, [2]string{name, strings.TrimSpace(way)})
	}
	program := m.know(symbol{name: "program", open: true})
	m.make(program)
	m.add([]item{{of: program}})
	return m
}

// know is a symbol, always the same one.
func (m *model) know(s symbol) *known {
	if m.symbols[s] == nil {
		m.symbols[s] = &known{symbol: s}
	}
	return m.symbols[s]
}

// make makes a symbol's ways. (What is too deep, or one too many, has none.)
func (m *model) make(k *known) {
	if k.made {
		return
	}
	k.made = true
	for _, line := range m.lines {
		if line[0] != k.name || k.deep == 40 && slices.Contains([]string{"exp", "function", "pat", "tyapp"}, k.name) {
			continue
		}
		way, only := strings.CutPrefix(line[1], "{}")
		if only && !k.joins || isList(k.name) && k.left == 0 && (way != "" || slices.Contains(forced, k.name)) {
			continue
		}
		k.ways = append(k.ways, m.way(k.symbol, strings.TrimSpace(way)))
		k.empty = k.empty || way == ""
	}
}

func isList(name string) bool { return first[name] != nil || slices.Contains(forced, name) }

// way is a line's symbols, within another one.
func (m *model) way(s symbol, line string) []*known {
	var l []*known
	for _, w := range strings.Split(strings.ReplaceAll(strings.ReplaceAll(line, " <", "\n<"), "> ", ">\n"), "\n") {
		if !strings.HasPrefix(w, "<") || !strings.HasSuffix(w, ">") {
			for _, token := range strings.Fields(w) {
				l = append(l, m.know(symbol{name: token}))
			}
			continue
		}
		name, marks, _ := strings.Cut(w[1:len(w)-1], " ")
		x := symbol{name: name, open: true, deep: s.deep, joins: s.joins || strings.Contains(marks, ";")}
		if strings.Contains(marks, "!") {
			x.deep++
		}
		if n := strings.Trim(marks, "!;"); n == "0" {
			x.left = s.left - 1
		} else if n != "" {
			x.left, _ = strconv.Atoi(n)
		}
		l = append(l, m.know(x))
	}
	return l
}

// add adds a set of items, and all that follow from them.
func (m *model) add(set []item) {
	at := len(m.sets)
	have := make(map[item]struct{}, 2*len(set))
	for _, x := range set {
		have[x] = struct{}{}
	}
	put := func(x item) {
		if _, is := have[x]; !is {
			have[x] = struct{}{}
			set = append(set, x)
		}
	}
	for i := 0; i < len(set); i++ {
		x := set[i]
		if rest := x.rest(); len(rest) > 0 {
			if next := rest[0]; next.open {
				m.make(next)
				for j := range next.ways {
					put(item{of: next, way: j, begun: at})
				}
				if next.empty {
					x.dot++
					put(x)
				}
			}
			continue
		}
		from := set
		if x.begun < at {
			from = m.sets[x.begun]
		}
		for _, y := range from {
			if rest := y.rest(); len(rest) > 0 && rest[0] == x.of {
				y.dot++
				put(y)
			}
		}
	}
	m.sets = append(m.sets, set)
}

// next goes on by a token, or tells why it can't.
func (m *model) next(token string) api.Errno {
	var set []item
	e := api.ErrSyntax
	for _, x := range m.sets[len(m.sets)-1] {
		rest := x.rest()
		if len(rest) == 0 {
			continue
		}
		switch s := rest[0]; {
		case s.name == token && !s.open:
			x.dot++
			set = append(set, x)
		case s.open && s.deep == 40 && len(s.ways) == 0:
			e = api.ErrDeep
		case s.open && s.left == 0 && isList(s.name) && (slices.Contains(forced, s.name) || slices.Contains(first[s.name], token)):
			e = api.ErrMany
		}
	}
	if len(set) == 0 {
		return e
	}
	m.add(set)
	return api.OK
}

// back goes back by a token.
func (m *model) back() { m.sets = m.sets[:len(m.sets)-1] }

// kindOf is a token's kind, as the grammar has it.
func kindOf(t api.Token) string {
	switch t.Kind {
	case api.TokEnd:
		return "END"
	case api.TokInt:
		return "INT"
	case api.TokText:
		return "TEXT"
	case api.TokName:
		return "NAME"
	case api.TokCon:
		return "CON"
	}
	return t.Text
}

// modelled is the place and the error of a source, told by the grammar.
func (m *model) modelled(s string) (int, api.Errno) {
	tokens, at, e := lex.Tokens(s)
	if e != api.OK {
		return at, e
	}
	m.sets = m.sets[:1]
	for _, t := range tokens {
		if e := m.next(kindOf(t)); e != api.OK {
			return t.At, e
		}
	}
	return 0, api.OK
}

// held holds that a source has that place and that error.
func (m *model) held(t *testing.T, s string) api.Errno {
	t.Helper()
	want, f := m.modelled(s)
	n, at, e := parse.Program(s)
	if at != want || e != f || e != api.OK && shown(n, 0) != "0@0" || e == api.OK && n.Kind != api.NodeProg {
		t.Fatalf("Program(%q) is %.50s, %d, %v, not %d, %v", s, shown(n, 0), at, e, want, f)
	}
	return e
}

// words are a word for each kind of token.
var words = strings.Fields(`1 "a" x A let rec in fun if then else match with end try print retry write type of do -> = + * ; | ( ) , _`)

// All programs that begin with a few tokens, each with all tokens behind that: where the program can't go on so, that is told there; what may be its whole is one.
func TestShortSourcesAreAsTheModel(t *testing.T) {
	m := newModel()
	var grow func(s string, left int)
	grow = func(s string, left int) {
		for _, w := range words {
			next := s + w + " "
			place := len(s)
			kind := kindOf(tokenOf(t, w))
			e := m.next(kind)
			if e != api.OK {
				if n, at, f := parse.Program(next); at != place || f != e || n.Kind != 0 {
					t.Fatalf("Program(%q) is %.50s, %d, %v, not %d, %v", next, shown(n, 0), at, f, place, e)
				}
				continue
			}
			whole := m.next("END")
			if whole == api.OK {
				m.back()
			}
			if n, at, f := parse.Program(next); f != whole || (f == api.OK) != (n.Kind == api.NodeProg) || f == api.OK && at != 0 || f != api.OK && at != len(next) {
				t.Fatalf("Program(%q) is %.50s, %d, %v, not %v", next, shown(n, 0), at, f, whole)
			}
			if left > 1 {
				grow(next, left-1)
			}
			m.back()
		}
	}
	grow("", 5)
	for _, s := range []string{"do x ", "do A ", "do x ; ", "do match x with | ", "do match x with | x -> x ", "let x = ", "let x = ( ", "let x = x ; ", "type x = A ", "type x = A of x ", "do try x with x -> ", "do if x then x ", "do let rec x = fun x -> ", "do write ( "} {
		m.sets = m.sets[:1]
		for _, w := range strings.Fields(s) {
			if e := m.next(kindOf(tokenOf(t, w))); e != api.OK {
				t.Fatal(s, w, e)
			}
		}
		grow(s, 3)
	}
}

// tokenOf is a word as a token.
func tokenOf(t *testing.T, w string) api.Token {
	l, _, e := lex.Tokens(w)
	if e != api.OK || len(l) != 2 {
		t.Fatal(w, l, e)
	}
	return l[0]
}

// Programs with a token that is another one, too many, or missing.
func TestBrokenSourcesAreAsTheModel(t *testing.T) {
	m, d := newModel(), dice(5)
	told := map[api.Errno]int{}
	for range 1500 {
		s, _ := d.program()
		m.held(t, s)
		tokens, _, _ := lex.Tokens(s)
		for range 1 + d.below(2) {
			i := d.below(len(tokens))
			from := tokens[i].At
			to := from
			if k := i + d.below(2); k+1 < len(tokens) && k+1 > i {
				to = tokens[min(k+d.below(2), len(tokens)-1)].At
			}
			if to > len(s) || from > len(s) {
				break
			}
			w := ""
			switch d.below(8) {
			case 0, 1:
			case 2:
				w = " A " + strings.Repeat("x ", d.below(9))
			default:
				w = " " + words[d.below(len(words))] + " "
			}
			s = s[:from] + w + s[to:]
			tokens, _, _ = lex.Tokens(s)
			if len(tokens) == 0 {
				break
			}
		}
		told[m.held(t, s)]++
	}
	for _, e := range []api.Errno{api.OK, api.ErrSyntax, api.ErrMany} {
		if told[e] < 50 {
			t.Errorf("%v is told %d times", e, told[e])
		}
	}
}

// Programs whose parts are deep in one another, or many.
func TestDeepAndLongSourcesAreAsTheModel(t *testing.T) {
	m, d := newModel(), dice(6)
	told := map[api.Errno]int{}
	for range 1500 {
		var l []around
		for range 30 + d.below(20) {
			l = append(l, arounds[d.below(len(arounds))])
		}
		s, _ := nest([]string{"1", "()", "A x", "let rec f = fun x -> x in f", "match x with | A (B (_)) -> 1 end", "+", "a; b"}[d.below(7)], l...)
		h := holders[d.below(len(holders))]
		told[m.held(t, h[0]+s+h[1])]++
	}
	for range 300 {
		rows, cons, decls := d.below(24), d.below(24), d.below(70)
		told[m.held(t, strings.Repeat("let a=1;", decls/8)+"type t = "+listed("A", "|", cons)+[]string{"", "|", "|x", " of a,b,c,d,", " of a,b,c,d,e", " of a,b,c,d,("}[d.below(6)]+";do match a with "+strings.Repeat("|1->1", rows)+" end")]++
		told[m.held(t, strings.Repeat([]string{"let a=1;", "type t=A;"}[d.below(2)], decls)+[]string{"do 1", "let", "x", "", "type t a a a a a"}[d.below(5)])]++
		told[m.held(t, "type t"+strings.Repeat(" a", d.below(7))+[]string{"=A;do 1", "1", "A", ""}[d.below(4)])]++
		told[m.held(t, "do "+[]string{"A", "match a with | A"}[d.below(2)]+strings.Repeat(" x", d.below(7))+[]string{"", "->1 end", "+1", "(", "_", ")"}[d.below(6)])]++
		told[m.held(t, "type t = A of a"+strings.Repeat("(b ", 35+d.below(8))+[]string{"", "1", "c", "(", ")"}[d.below(5)])]++
		told[m.held(t, "do match x with | A"+strings.Repeat("(A ", 35+d.below(8))+[]string{"", "1", "c", "(", ")", "_"}[d.below(6)])]++
	}
	for _, e := range []api.Errno{api.OK, api.ErrSyntax, api.ErrMany, api.ErrDeep} {
		if told[e] < 50 {
			t.Errorf("%v is told %d times", e, told[e])
		}
	}
}

// Each program that is made as the grammar has it is read as what it was made for, with all places.
func TestMadeProgramsAreRead(t *testing.T) {
	d := dice(7)
	seen := map[int]int{}
	for range 6000 {
		s, want := d.program()
		n, at, e := parse.Program(s)
		if shown(n, 0) != shown(want, 0) || at != 0 || e != api.OK {
			t.Fatalf("Program(%q) is\n%s, %d, %v, not\n%s", s, shown(n, 0), at, e, shown(want, 0))
		}
		for _, p := range parts(&n) {
			seen[p.Kind]++
		}
	}
	for kind, name := range kinds {
		if seen[kind] < 300 {
			t.Errorf("%s is there %d times", name, seen[kind])
		}
	}
}

// P5.3: what stands between tokens changes nothing but places.
func TestWhatStandsBetweenDoesNotMatter(t *testing.T) {
	d := dice(8)
	told := map[api.Errno]int{}
	for i := range 6000 {
		s := whole[i%len(whole)]
		if i%2 == 0 {
			s, _ = d.program()
		}
		if i%3 == 0 { // also where there is a fault
			s += []string{" )", " in x", "; ", " 1 ( +", " A 1 2 3 4 5"}[d.below(5)]
		}
		tokens, _, e := lex.Tokens(s)
		if e != api.OK {
			t.Fatal(s, e)
		}
		wide := d.gap()
		places := map[int]int{}
		for _, x := range tokens {
			places[x.At] = len(wide)
			wide += s[x.At:behind(s, x)]
			if x.Kind != api.TokEnd {
				wide += " " + d.gap()
			}
		}
		if len(wide) > 2000 {
			continue
		}
		a, at, e := parse.Program(s)
		b, place, f := parse.Program(wide)
		told[e]++
		if e != f || e != api.OK && places[at] != place || e == api.OK && at+place != 0 || !parse.Same(a, b) {
			t.Fatalf("Program(%q) is %s, %d, %v, but Program(%q) is %s, %d, %v", s, shown(a, 0), at, e, wide, shown(b, 0), place, f)
		}
		from, to := parts(&a), parts(&b)
		for j, x := range from {
			if e == api.OK && places[x.At] != to[j].At {
				t.Fatalf("%q: what stands at %d stands at %d in %q", s, x.At, to[j].At, wide)
			}
		}
	}
	for _, e := range []api.Errno{api.OK, api.ErrSyntax, api.ErrMany} {
		if told[e] < 50 {
			t.Errorf("%v is told %d times", e, told[e])
		}
	}
}

// dice tells numbers, the same ones in each run.
type dice uint64

// below is a number from 0 to n - 1.
func (d *dice) below(n int) int {
	*d = *d*6364136223846793005 + 1442695040888963407
	return int(uint64(*d) >> 33 % uint64(n))
}

// gap is what may stand between tokens, or nothing.
func (d *dice) gap() string {
	return []string{"", "", "", " ", "\t", "\n", "  ", "# a \"1\n", "#\n ", " #( let\n\n"}[d.below(10)]
}

// maker makes a program, and what it is read as.
type maker struct {
	*dice
	s     []byte
	deep  int  // how many exps, pats, tyapps stand around
	joins bool // whether a `;` may be a NodeSeq's
	fuel  int  // how much more is made freely
}

// program is a program, and what it is read as.
func (d *dice) program() (string, api.Node) {
	for {
		if s, n := d.anyProgram(); len(s) <= 1900 {
			return s, n
		}
	}
}

// anyProgram is a program that may be too long.
func (d *dice) anyProgram() (string, api.Node) {
	m := &maker{dice: d, fuel: 5 + d.below(60)}
	n := api.Node{Kind: api.NodeProg, At: -1}
	for range d.below(4) {
		n.Kids = append(n.Kids, m.decl())
	}
	at := m.put("do")
	m.joins = true
	n.Kids = append(n.Kids, m.exp())
	if n.At = at; len(n.Kids) > 1 {
		n.At = n.Kids[0].At
	}
	m.s = append(m.s, m.gap()...)
	return string(m.s), n
}

// put writes a word, with something ahead of it, and tells its place.
func (m *maker) put(word string) int {
	m.s = append(m.s, m.gap()...)
	if k := len(m.s); k > 0 && inWord(m.s[k-1]) && inWord(word[0]) {
		m.s = append(m.s, ' ')
	}
	m.s = append(m.s, word...)
	return len(m.s) - len(word)
}

func inWord(b byte) bool {
	return b == '_' || b >= 'a' && b <= 'z' || b >= 'A' && b <= 'Z' || b >= '0' && b <= '9'
}

// begin writes a word with which a node begins.
func (m *maker) begin(kind int, word string) api.Node {
	return api.Node{Kind: kind, At: m.put(word)}
}

// name writes a name.
func (m *maker) name() string {
	s := []string{"x", "f", "list", "x1_Y", "lets", "a_", "int", "abcdefghijklmnop"}[m.below(8)]
	m.put(s)
	return s
}

// named writes a node that is a name, a constructor, or digits.
func (m *maker) named(kind int) api.Node {
	n := api.Node{Kind: kind}
	switch kind {
	case api.NodeInt:
		n.Number = []int{0, 1, 7, 42, api.MaxInt}[m.below(5)]
		n.At = m.put([]string{"0", "1", "007", "42", "4611686018427387903"}[slices.Index([]int{0, 1, 7, 42, api.MaxInt}, n.Number)])
	case api.NodeName:
		n.Text = m.name()
		n.At = len(m.s) - len(n.Text)
	case api.NodeCon:
		n.Text = []string{"A", "Cons", "Nil", "B_1", "Let"}[m.below(5)]
		n.At = m.put(n.Text)
	case api.NodeText:
		n.Text = []string{"", "a", "let", "# no", ";"}[m.below(5)]
		n.At = m.put(`"` + n.Text + `"`)
	}
	return n
}

// more tells whether there is one more, or something greater: now and then, as long as there is fuel.
func (m *maker) more(of int) bool {
	m.fuel--
	return m.fuel > 0 && m.deep < 38 && m.below(of) > 0
}

// deeper makes what is one deeper.
func (m *maker) deeper(make func() api.Node) api.Node {
	m.deep++
	n := make()
	m.deep--
	return n
}

// within makes what stands where a `;` is a NodeSeq's.
func (m *maker) within(make func() api.Node) api.Node {
	was := m.joins
	m.joins = true
	n := make()
	m.joins = was
	return n
}

func (m *maker) decl() api.Node {
	if m.below(2) == 0 {
		return m.typeDecl()
	}
	n := m.bind(api.NodeVal, api.NodeValRec, func(value func() api.Node) api.Node { return value() })
	m.put(";")
	return n
}

// bind makes a let up to its value.
func (m *maker) bind(plain, rec int, within func(func() api.Node) api.Node) api.Node {
	n := m.begin(plain, "let")
	value := m.exp
	if m.below(2) == 0 {
		m.put("rec")
		n.Kind, value = rec, m.fun
	}
	n.Text = m.name()
	m.put("=")
	n.Kids = []api.Node{within(value)}
	return n
}

func (m *maker) typeDecl() api.Node {
	n := m.begin(api.NodeType, "type")
	n.Text = m.name()
	for range m.below(5) {
		n.Names = append(n.Names, m.name())
	}
	m.put("=")
	for i := range 1 + m.below(4) {
		if i > 0 {
			m.put("|")
		}
		c := m.named(api.NodeCon)
		c.Kind = api.NodeDef
		for j := range m.below(5) {
			m.put([]string{"of", ","}[min(j, 1)])
			c.Kids = append(c.Kids, m.tyapp())
		}
		n.Kids = append(n.Kids, c)
	}
	m.put(";")
	return n
}

func (m *maker) tyapp() api.Node {
	n := m.named(api.NodeName)
	n.Kind = api.NodeTy
	for m.more(3) {
		if m.below(2) == 0 {
			k := m.named(api.NodeName)
			k.Kind = api.NodeTy
			n.Kids = append(n.Kids, k)
			continue
		}
		m.put("(")
		n.Kids = append(n.Kids, m.deeper(m.tyapp))
		m.put(")")
	}
	return n
}

func (m *maker) fun() api.Node {
	n := m.begin(api.NodeFun, "fun")
	n.Text = m.name()
	m.put("->")
	n.Kids = []api.Node{m.deeper(m.exp)}
	return n
}

func (m *maker) exp() api.Node {
	if m.more(2) {
		switch m.below(5) {
		case 0:
			n := m.bind(api.NodeLet, api.NodeRec, m.deeper)
			m.put("in")
			n.Kids = append(n.Kids, m.deeper(m.exp))
			return n
		case 1:
			return m.fun()
		case 2:
			n := m.begin(api.NodeIf, "if")
			n.Kids = append(n.Kids, m.deeper(m.exp))
			m.put("then")
			n.Kids = append(n.Kids, m.deeper(m.exp))
			m.put("else")
			n.Kids = append(n.Kids, m.deeper(m.exp))
			return n
		}
	}
	n := m.op([]string{"=", "<"}, 2, m.sum)
	if m.joins && m.more(3) {
		m.put(";")
		b := m.deeper(m.exp)
		return api.Node{Kind: api.NodeSeq, At: n.At, Kids: []api.Node{n, b}}
	}
	return n
}

// op makes operations from the left, of some signs, of so many at most.
func (m *maker) op(signs []string, most int, part func() api.Node) api.Node {
	n := part()
	for i := 1; i < most && m.below(3) == 0; i++ {
		sign := signs[m.below(len(signs))]
		m.put(sign)
		b := part()
		n = api.Node{Kind: api.NodeOp, Text: sign, At: n.At, Kids: []api.Node{n, b}}
	}
	return n
}

func (m *maker) sum() api.Node  { return m.op([]string{"+", "-", "^"}, 5, m.prod) }
func (m *maker) prod() api.Node { return m.op([]string{"*", "/", "%"}, 5, m.app) }

func (m *maker) app() api.Node {
	switch m.below(4) {
	case 0:
		k := keyed[m.below(len(keyed))]
		n := m.begin(0, k.key)
		for kind, name := range kinds {
			if name == k.kind {
				n.Kind = kind
			}
		}
		for range k.atoms {
			n.Kids = append(n.Kids, m.atom(true))
		}
		return n
	case 1:
		n := m.named(api.NodeCon)
		for range m.below(5) {
			n.Kids = append(n.Kids, m.atom(true))
		}
		return n
	}
	n := m.atom(false)
	for m.more(2) {
		x := m.atom(true)
		n = api.Node{Kind: api.NodeCall, At: n.At, Kids: []api.Node{n, x}}
	}
	return n
}

// atom makes an atom; a constructor, if that may be.
func (m *maker) atom(con bool) api.Node {
	if m.more(3) {
		switch m.below(4) {
		case 0:
			return m.match()
		case 1:
			n := m.begin(api.NodeTry, "try")
			n.Kids = append(n.Kids, m.deeper(func() api.Node { return m.within(m.exp) }))
			m.put("with")
			n.Text = m.name()
			m.put("->")
			n.Kids = append(n.Kids, m.deeper(func() api.Node { return m.within(m.exp) }))
			m.put("end")
			return n
		}
		m.put("(")
		n := m.deeper(func() api.Node { return m.within(m.exp) })
		m.put(")")
		return n
	}
	switch m.below(6) {
	case 0:
		return m.begin(api.NodeRetry, "retry")
	case 1:
		n := m.begin(api.NodeUnit, "(")
		m.put(")")
		return n
	case 2:
		return m.named(api.NodeText)
	case 3:
		return m.named(api.NodeInt)
	case 4:
		if con {
			return m.named(api.NodeCon)
		}
	}
	return m.named(api.NodeName)
}

func (m *maker) match() api.Node {
	n := m.begin(api.NodeMatch, "match")
	n.Kids = append(n.Kids, m.deeper(func() api.Node { return m.within(m.exp) }))
	m.put("with")
	for range 1 + m.below(3) {
		m.put("|")
		n.Kids = append(n.Kids, m.deeper(m.pat))
		m.put("->")
		n.Kids = append(n.Kids, m.deeper(func() api.Node { return m.within(m.exp) }))
	}
	m.put("end")
	return n
}

func (m *maker) pat() api.Node {
	if m.below(2) == 0 {
		return m.patom()
	}
	n := m.named(api.NodeCon)
	for range m.below(5) {
		n.Kids = append(n.Kids, m.patom())
	}
	return n
}

func (m *maker) patom() api.Node {
	if m.more(3) {
		m.put("(")
		n := m.deeper(m.pat)
		m.put(")")
		return n
	}
	if kind := []int{api.NodeAny, api.NodeName, api.NodeInt, api.NodeCon}[m.below(4)]; kind != api.NodeAny {
		return m.named(kind)
	}
	return m.begin(api.NodeAny, "_")
}
