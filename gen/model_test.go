package gen_test

import (
	"slices"
	"strconv"
	"strings"
	"testing"

	"selvage/api"
	"selvage/code"
	"selvage/gen"
	"selvage/verify"
)

// A model of the chapter that writes each core by a line of words, with letters for places, and finds the places at the end.

// lines tell of each kind of core what it becomes: a digit is a Kid, with ! behind it last where the core is, * each Kid; n the number, k how many Kids there are.
var lines = map[int]string{
	api.CoreInt: "Int,int", api.CoreText: "Text,text", api.CoreLocal: "Local,n", api.CoreKept: "Kept,n", api.CoreSelf: "Self", api.CoreName: "Name,n", api.CoreMake: "* Make,n,k", api.CoreFun: "* Fun,n,k", api.CoreCall: "0 1 Call", api.CoreLet: "0 Set,n 1!", api.CoreIf: "0 False,a 1! Jump,b a: 2! b:", api.CoreMatch: "0 Set,n rows",
	api.CoreTry: "Try,a 0 Done Jump,b a: Set,n 1 b:", api.CoreOp: "0 1 sum", api.CoreSeq: "0 Pop 1!", api.CorePrint: "0 Print", api.CoreRaise: "0 Raise", api.CoreSpawn: "0 Spawn", api.CoreAtom: "Begin 0 Commit", api.CoreRetry: "Retry", api.CoreElse: "Else,a 0 Joined Jump,b a: 1 b:", api.CoreTvar: "0 Tvar", api.CoreRead: "0 Read", api.CoreWrite: "0 1 Write",
}

// model writes a function.
type model struct {
	cons  []api.Con
	ints  []int
	texts []string
	out   []string // instructions, and letters of places with a colon
	many  int      // letters that there were
	huge  bool     // a Case of too great a number
}

// writes puts words behind the others, once letters and numbers are known.
func (m *model) writes(words ...string) { m.out = append(m.out, words...) }

func (m *model) letter() string {
	m.many++
	return "@" + strconv.Itoa(m.many)
}

func indexed[T comparable](l []T, x T) ([]T, string) {
	if !slices.Contains(l, x) {
		l = append(l, x)
	}
	return l, strconv.Itoa(slices.Index(l, x))
}

// sound tells whether a core has as many Kids as its line has digits.
func sound(c api.Core) bool {
	line, known := lines[c.Kind]
	if !known || c.Kind == api.CoreMake || c.Kind == api.CoreFun {
		return known
	}
	many := 0
	for _, word := range strings.Fields(line) {
		if strings.ContainsAny(word[:1], "012") {
			many++
		}
	}
	return len(c.Kids) == many || c.Kind == api.CoreMatch && len(c.Kids) > 0
}

func (m *model) core(c api.Core, last bool) {
	if !sound(c) {
		for _, k := range c.Kids {
			m.core(k, false)
		}
		m.writes("None")
		return
	}
	line := lines[c.Kind]
	if c.Kind == api.CoreSeq && c.Kids[0].Kind == api.CoreStore && len(c.Kids[0].Kids) == 1 {
		m.core(c.Kids[0].Kids[0], false)
		line = "Store," + strconv.Itoa(c.Kids[0].Number) + " 1!"
	}
	parted := last && (strings.Contains(line, "!") || c.Kind == api.CoreMatch && len(c.Kids) > 1)
	if last && c.Kind == api.CoreCall {
		line = "0 1 Tail"
	}
	letters := strings.NewReplacer(",a", ","+m.letter(), ",b", ","+m.letter(), ",n", ","+strconv.Itoa(c.Number), ",k", ","+strconv.Itoa(len(c.Kids)))
	a, b := m.many-1, m.many
	for _, word := range strings.Fields(line) {
		switch {
		case word == "*":
			for _, k := range c.Kids {
				m.core(k, false)
			}
		case strings.ContainsAny(word[:1], "012"):
			m.core(c.Kids[word[0]-'0'], last && len(word) > 1)
		case word == "Jump,b" && parted:
		case word == "a:":
			m.writes("@" + strconv.Itoa(a) + ":")
		case word == "b:":
			m.writes("@" + strconv.Itoa(b) + ":")
		case word == "rows":
			m.rows(c, last)
		default:
			m.word(c, letters.Replace(word))
		}
	}
	if last && !parted && c.Kind != api.CoreCall {
		m.writes("Return")
	}
}

// word writes an instruction.
func (m *model) word(c api.Core, word string) {
	var at string
	switch word {
	case "Int,int":
		m.ints, at = indexed(m.ints, c.Number)
		m.writes("Int," + at)
	case "Text,text":
		m.texts, at = indexed(m.texts, c.Text)
		m.writes("Text," + at)
	case "sum":
		if c.Text == "^" {
			m.writes("Join")
			return
		}
		m.writes("Sum," + strconv.Itoa(slices.Index(strings.Fields("+ - * / % = <"), c.Text)))
	default:
		m.writes(word)
	}
}

// rows writes a match's tree, and its rows.
func (m *model) rows(c api.Core, last bool) {
	var letters []string
	for range c.Kids {
		letters = append(letters, m.letter())
	}
	m.tree(c, c.Tree, letters[1:], 60)
	for i, body := range c.Kids[1:] {
		m.writes(letters[i+1] + ":")
		if i < len(c.Binds) {
			for _, b := range c.Binds[i] {
				m.path(c, b.Path)
				m.writes("Set," + strconv.Itoa(b.Local))
			}
		}
		m.core(body, last)
		if !last && i+2 < len(c.Kids) {
			m.writes("Jump," + letters[0])
		}
	}
	m.writes(letters[0] + ":")
}

func (m *model) path(c api.Core, path []int) {
	m.writes("Local," + strconv.Itoa(c.Number))
	for _, at := range path {
		m.writes("Field," + strconv.Itoa(at))
	}
}

// tree writes a tree, if there may be some more in one another.
func (m *model) tree(c api.Core, t api.Tree, letters []string, more int) {
	switch {
	case more == 0:
		return
	case len(t.Cases) == 0 && (t.Row < 0 || t.Row >= len(letters)):
		m.writes("None")
		return
	case len(t.Cases) == 0:
		m.writes("Jump," + letters[t.Row])
		return
	}
	cases := t.Cases
	var rest api.Tree
	if len(t.Rest) > 0 {
		rest = t.Rest[0]
	} else {
		rest, cases = cases[len(cases)-1].Tree, cases[:len(cases)-1]
	}
	var behind []string
	for _, k := range cases {
		n := k.Number
		if k.Con != "" {
			n = -1
			for _, con := range m.cons {
				if con.Name == k.Con {
					n = con.Tag
				}
			}
		}
		m.huge = m.huge || n > 65535
		m.path(c, t.Path)
		behind = append(behind, m.letter())
		m.writes("Case," + strconv.Itoa(n) + "," + behind[len(behind)-1])
	}
	m.tree(c, rest, letters, more-1)
	for i, k := range cases {
		m.writes(behind[i] + ":")
		m.tree(c, k.Tree, letters, more-1)
	}
}

// need is what a core needs, as the chapter has it, also of what is none.
func need(c api.Core) int {
	most := 1
	for i, k := range c.Kids {
		if slices.Contains([]int{api.CoreLet, api.CoreSeq, api.CoreIf, api.CoreMatch, api.CoreTry, api.CoreElse, api.CoreAtom}, c.Kind) {
			i = 0
		}
		most = max(most, need(k)+i)
	}
	return most
}

// body is what was written, once places are known.
func (m *model) body() []api.Instr {
	places := map[string]int{}
	at := 0
	for _, word := range m.out {
		if letter, is := strings.CutSuffix(word, ":"); is {
			places[letter] = at
		} else {
			at++
		}
	}
	var l []api.Instr
	for _, word := range m.out {
		if strings.HasSuffix(word, ":") {
			continue
		}
		parts := strings.Split(word, ",")
		operands := [2]int{}
		for i, s := range parts[1:] {
			if s[0] == '@' {
				operands[i] = places[s]
			} else {
				operands[i], _ = strconv.Atoi(s)
			}
		}
		l = append(l, api.Instr{Op: slices.Index(opNames, parts[0]), A: operands[0], B: operands[1]})
	}
	return l
}

// modelCode is what the model tells.
func modelCode(f []api.Fun, cons []api.Con, lets int) (api.Code, int, api.Errno) {
	c := api.Code{Lets: lets}
	for number, is := range f {
		m := model{cons: cons, ints: c.Ints, texts: c.Texts}
		m.core(is.Body, true)
		body := api.Body{Kept: is.Kept, Locals: is.Locals, Stack: need(is.Body), Code: m.body()}
		if c.Ints, c.Texts = m.ints, m.texts; len(body.Code) > 400 || body.Stack > 60 || m.huge || len(c.Ints) > 120 || len(c.Texts) > 120 {
			return api.Code{}, number, api.ErrMany
		}
		c.Funs = append(c.Funs, body)
	}
	if verify.Code(c) != api.OK {
		return api.Code{}, 0, api.ErrArg
	}
	return c, 0, api.OK
}

// counted counts how often each error is told.
type counted map[api.Errno]int

func (c counted) least(t *testing.T, least counted) {
	t.Helper()
	for e, many := range least {
		if c[e] < many {
			t.Errorf("error %v is told %d times", e, c[e])
		}
	}
}

// held holds functions against the model. It tells the error.
func held(t *testing.T, what string, f []api.Fun, cons []api.Con, lets int) api.Errno {
	t.Helper()
	want, place, fault := modelCode(f, cons, lets)
	c, at, e := gen.Code(f, cons, lets)
	if told(c) != told(want) || at != place || e != fault {
		t.Fatalf("%s is\n%s, %d, %v, not\n%s, %d, %v", what, told(c), at, e, told(want), place, fault)
	}
	if e == api.OK && (verify.Code(c) != api.OK || !code.May(c)) {
		t.Fatalf("%s: %s does not hold together", what, told(c))
	}
	return e
}

// Each form of core, with each in each of its Kids, where it is last and where it is not.
func TestSmallBodiesAreAsTheModel(t *testing.T) {
	forms := []string{
		"#", "(make 3 #)", "(make 3 # #)", "(fun 2 # #)", "(call # #)", "(let 1 # #)", "(if # # #)", "(try 2 # #)", "(+ # #)", "(< # #)", "(^ # #)", "(seq # #)", "(seq (store 1 #) #)", "(print #)", "(raise #)", "(spawn #)", "(atomically #)", "(orelse # #)", "(tvar #)", "(read #)", "(write # #)",
		"(match 3 # r0 (row #))", "(match 3 # (ask @ 7 r0 else r1) (row %4@1 #) (row #))", "(match 3 # (ask @ Nil r1 Cons (ask @1 Nil r1 Cons r0)) (row %4@1.0 %5@0 #) (row #))", "(match 3 # (ask @0 A r0 else (ask @1.2 True r1 False r2)) (row #) (row #) (row %4@ #))",
	}
	leaves := []string{"7", "\"a\"", "%1", "^2", "$3", "self", "retry", "8", "(call 1 2)", "(store 1 2)", "(print 9)"}
	filled := func(form, in string, at, leaf int) string {
		for i := 0; strings.Contains(form, "#"); i++ {
			part := leaves[(leaf+i)%len(leaves)]
			if i == at {
				part = in
			}
			form = strings.Replace(form, "#", part, 1)
		}
		return form
	}
	many, errors := 0, counted{}
	for _, one := range forms {
		for i := range strings.Count(one, "#") {
			for _, two := range forms {
				for j := range strings.Count(two, "#") {
					for _, three := range forms {
						many++
						s := filled(one, filled(two, filled(three, "", -1, many/7), j, many), i, many/5)
						errors[held(t, s, among(read(s)), cons(), fewLets)]++
					}
				}
			}
		}
	}
	errors.least(t, counted{api.OK: 30000, api.ErrArg: 15000})
}

// dice are thrown to make functions.
type dice uint64

func (d *dice) below(n int) int {
	*d = *d*6364136223846793005 + 1442695040888963407
	return int(uint64(*d) >> 33 % uint64(n))
}

func (d *dice) pick(l ...string) string { return l[d.below(len(l))] }

// maker makes functions.
type maker struct {
	*dice
	wild  int // of so many throws one is wrong
	ints  int // how many numbers there are
	texts int
	atom  bool // within what is atomic
}

// number is one that may be, or another one.
func (m *maker) number(limit int) int {
	if m.wild > 0 && m.below(m.wild) == 0 {
		return []int{-1, limit, limit + 1, 70000, -70000, 1 << 62}[m.below(6)]
	}
	return m.below(limit)
}

func (m *maker) leaf() api.Core {
	switch m.below(9) {
	case 0:
		return api.Core{Kind: api.CoreText, Text: strings.Repeat("a", m.below(3)) + strconv.Itoa(m.number(m.texts))}
	case 1:
		return api.Core{Kind: api.CoreLocal, Number: m.number(9)}
	case 2:
		return api.Core{Kind: api.CoreKept, Number: m.number(4)}
	case 3:
		return api.Core{Kind: api.CoreName, Number: m.number(fewLets)}
	case 4:
		return api.Core{Kind: api.CoreSelf}
	case 5:
		return api.Core{Kind: api.CoreRetry}
	}
	return api.Core{Kind: api.CoreInt, Number: m.number(m.ints)}
}

// kids are so many cores, with so many in them.
func (m *maker) kids(kids, many int) []api.Core {
	if m.wild > 0 && m.below(3*m.wild) == 0 {
		kids = m.below(5)
	}
	var l []api.Core
	for i := range kids {
		part := many
		if i < kids-1 {
			part = m.below(many + 1)
		}
		many -= part
		l = append(l, m.core(part))
	}
	return l
}

// core is one with so many others in it.
func (m *maker) core(many int) api.Core {
	if many <= 0 {
		return m.leaf()
	}
	many--
	if m.wild > 0 && m.below(20*m.wild) == 0 {
		return api.Core{Kind: m.below(30) - 2, Number: m.below(3), Text: m.pick("", "+", "?"), Kids: m.kids(m.below(4), many)}
	}
	switch kind := api.CoreMake + m.below(api.CoreWrite-api.CoreMake+1); kind {
	case api.CoreMake:
		return api.Core{Kind: kind, Number: m.number(200), Kids: m.kids(1+m.below(4), many)}
	case api.CoreFun:
		number := 1 + m.below(3)
		return api.Core{Kind: kind, Number: number, Kids: m.kids([]int{0, 4, 2, 3}[number], many)}
	case api.CoreLet, api.CoreTry:
		return api.Core{Kind: kind, Number: m.number(9), Kids: m.kids(2, many)}
	case api.CoreIf:
		return api.Core{Kind: kind, Kids: m.kids(3, many)}
	case api.CoreMatch:
		return m.match(many)
	case api.CoreOp:
		sign := m.pick("+", "-", "*", "/", "%", "=", "<", "^")
		if m.wild > 0 && m.below(m.wild) == 0 {
			sign = m.pick("", "++", ">", "^ ")
		}
		return api.Core{Kind: kind, Text: sign, Kids: m.kids(2, many)}
	case api.CorePrint, api.CoreRaise, api.CoreSpawn, api.CoreTvar, api.CoreRead:
		return api.Core{Kind: kind, Kids: m.kids(1, many)}
	case api.CoreAtom:
		if m.atom {
			return m.core(many)
		}
		m.atom = m.wild == 0 || m.below(m.wild) > 0
		defer func() { m.atom = false }()
		return api.Core{Kind: kind, Kids: m.kids(1, many)}
	case api.CoreSeq:
		c := api.Core{Kind: kind, Kids: m.kids(2, many)}
		if len(c.Kids) > 0 && m.below(3) == 0 {
			c.Kids[0] = api.Core{Kind: api.CoreStore, Number: m.number(fewLets), Kids: []api.Core{c.Kids[0]}}
		}
		return c
	case api.CoreRetry:
		return api.Core{Kind: kind}
	default:
		return api.Core{Kind: kind, Kids: m.kids(2, many)}
	}
}

func (m *maker) match(many int) api.Core {
	rows := 1 + m.below(4)
	c := api.Core{Kind: api.CoreMatch, Number: m.number(9), Kids: m.kids(1+rows, many), Tree: m.tree(rows, m.below(4))}
	for range rows {
		var binds []api.Bind
		for range m.below(3) {
			binds = append(binds, api.Bind{Local: m.number(9), Path: m.path()})
		}
		c.Binds = append(c.Binds, binds)
	}
	return c
}

func (m *maker) path() []int {
	var l []int
	for range m.below(4) {
		l = append(l, m.number(4))
	}
	return l
}

// tree is one of rows, with so many in one another at most.
func (m *maker) tree(rows, deep int) api.Tree {
	if deep == 0 || m.below(4) == 0 {
		return api.Tree{Row: m.number(rows)}
	}
	t := api.Tree{Path: m.path()}
	for range 1 + m.below(3) {
		c := api.Case{Number: m.number(65536), Tree: m.tree(rows, deep-1)}
		if m.below(2) == 0 {
			c.Con = m.pick("Nil", "Cons", "A", "B", "C", "Box", "True")
		}
		if m.wild > 0 && m.below(5*m.wild) == 0 {
			c.Con = "Nope"
		}
		t.Cases = append(t.Cases, c)
	}
	if m.below(2) == 0 {
		t.Rest = []api.Tree{m.tree(rows, deep-1)}
	}
	return t
}

// Functions made at random, sound ones and others, small ones and some about as great as may be.
func TestRandomFunctionsAreAsTheModel(t *testing.T) {
	d := dice(3)
	errors := counted{}
	for i := range 12000 {
		m := &maker{dice: &d, wild: []int{0, 0, 60, 20, 500}[i%5], ints: 1 + d.below(70), texts: 1 + d.below(70)}
		size := []int{3, 10, 40, 90, 120}[i/5%5]
		f := among(m.core(d.below(size)))
		for j := range f {
			f[j].Locals = 9
			if d.below(3) == 0 && j > 0 {
				f[j].Body = m.core(d.below(size))
			}
		}
		if i%7 == 0 {
			f[0].Body = m.core(d.below(size))
		}
		errors[held(t, "a function", f, cons(), fewLets)]++
	}
	errors.least(t, counted{api.OK: 6000, api.ErrArg: 3000, api.ErrMany: 300})
}

// Programs made at random: what comes of those that are right holds together.
func TestProgramsAreAsTheModel(t *testing.T) {
	d, errors := dice(1), counted{}
	for i := range 3000 {
		s := d.program(i % 60)
		f, r, is := compiled(s, i%2 == 0)
		if !is {
			continue
		}
		e := held(t, s, f, r.Cons, len(r.Names))
		if e == api.ErrArg {
			t.Errorf("%s does not hold together", s)
		}
		errors[e]++
	}
	errors.least(t, counted{api.OK: 1000, api.ErrMany: 20})
}
