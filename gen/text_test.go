package gen_test

import (
	"slices"
	"strconv"
	"strings"
	"testing"

	"selvage/api"
	"selvage/gen"
)

// Cores are written as texts: 1 "a" %0 ^0 $0 self retry, and in brackets what has Kids, such as (let 0 1 %0); of a match its local, its value, its tree
// and its rows: (match 0 1 (ask @ 5 r0 else r1) (row 2) (row %1@0.3 %1)).

// reader reads cores, word by word.
type reader struct{ words []string }

func (r *reader) next() string {
	word := r.words[0]
	r.words = r.words[1:]
	return word
}

// opens reads a bracket, if there is one; closes one that is shut.
func (r *reader) opens() bool  { return r.is("(") }
func (r *reader) closes() bool { return r.is(")") }

func (r *reader) is(word string) bool {
	if r.words[0] != word {
		return false
	}
	r.next()
	return true
}

func (r *reader) number() int {
	n, err := strconv.Atoi(r.next())
	if err != nil {
		panic(err)
	}
	return n
}

// read is a core that is written as a text.
func read(s string) api.Core {
	r := reader{strings.Fields(strings.NewReplacer("(", " ( ", ")", " ) ").Replace(s))}
	c := r.core()
	if len(r.words) > 0 {
		panic(s)
	}
	return c
}

// leaf is a core that is a word.
func leaf(word string) api.Core {
	number := func(s string) int {
		n, err := strconv.Atoi(s)
		if err != nil {
			panic(err)
		}
		return n
	}
	switch word[0] {
	case '"':
		s, err := strconv.Unquote(word)
		if err != nil {
			panic(err)
		}
		return api.Core{Kind: api.CoreText, Text: s}
	case '%':
		return api.Core{Kind: api.CoreLocal, Number: number(word[1:])}
	case '^':
		return api.Core{Kind: api.CoreKept, Number: number(word[1:])}
	case '$':
		return api.Core{Kind: api.CoreName, Number: number(word[1:])}
	case 's':
		return api.Core{Kind: api.CoreSelf}
	case 'r':
		return api.Core{Kind: api.CoreRetry}
	}
	return api.Core{Kind: api.CoreInt, Number: number(word)}
}

func (r *reader) core() api.Core {
	if !r.opens() {
		return leaf(r.next())
	}
	kinds := map[string]int{
		"make": api.CoreMake, "fun": api.CoreFun, "call": api.CoreCall, "let": api.CoreLet, "if": api.CoreIf, "match": api.CoreMatch, "try": api.CoreTry, "seq": api.CoreSeq, "print": api.CorePrint, "raise": api.CoreRaise, "spawn": api.CoreSpawn,
		"atomically": api.CoreAtom, "orelse": api.CoreElse, "tvar": api.CoreTvar, "read": api.CoreRead, "write": api.CoreWrite, "store": api.CoreStore,
	}
	word := r.next()
	c := api.Core{Kind: kinds[word]}
	if c.Kind == 0 {
		c.Kind, c.Text = api.CoreOp, word
	}
	if slices.Contains([]string{"make", "fun", "let", "match", "try", "store"}, word) {
		c.Number = r.number()
	}
	if c.Kind == api.CoreMatch {
		c.Kids = []api.Core{r.core()}
		c.Tree = r.tree()
	}
	for !r.closes() {
		if c.Kind == api.CoreMatch {
			r.row(&c)
		} else {
			c.Kids = append(c.Kids, r.core())
		}
	}
	return c
}

// row reads a row of a match: what it binds, and its body.
func (r *reader) row(c *api.Core) {
	r.next()
	r.next()
	var binds []api.Bind
	for strings.Contains(r.words[0], "@") {
		local, path, _ := strings.Cut(r.next(), "@")
		n, _ := strconv.Atoi(local[1:])
		binds = append(binds, api.Bind{Local: n, Path: steps(path)})
	}
	c.Binds, c.Kids = append(c.Binds, binds), append(c.Kids, r.core())
	r.next()
}

// steps are those of a path.
func steps(s string) []int {
	var l []int
	for _, step := range strings.FieldsFunc(s, func(r rune) bool { return r == '.' }) {
		n, err := strconv.Atoi(step)
		if err != nil {
			panic(err)
		}
		l = append(l, n)
	}
	return l
}

// tree reads r and a row's number; or, in brackets, ask, a path, of each case a constructor or a number and its tree, and behind else the Rest.
func (r *reader) tree() api.Tree {
	if !r.opens() {
		n, err := strconv.Atoi(r.next()[1:])
		if err != nil {
			panic(err)
		}
		return api.Tree{Row: n}
	}
	r.next()
	t := api.Tree{Path: steps(r.next()[1:])}
	for !r.closes() {
		if r.is("else") {
			t.Rest = append(t.Rest, r.tree())
			continue
		}
		head := r.next()
		n, err := strconv.Atoi(head)
		c := api.Case{Number: n}
		if err != nil {
			c = api.Case{Con: head}
		}
		c.Tree = r.tree()
		t.Cases = append(t.Cases, c)
	}
	return t
}

// opNames are those of Ops.
var opNames = strings.Fields("None Int Text Local Kept Self Name Set Store Pop Make Fun Field Call Tail Return Jump False Case Sum Join Try Done Raise Print Spawn Begin Commit Else Joined Retry Tvar Read Write")

// listed is instructions as a text: an Op, and those of its operands that it uses.
func listed(l []api.Instr) string {
	var all []string
	for _, i := range l {
		s := "Op" + strconv.Itoa(i.Op)
		if i.Op >= 0 && i.Op < len(opNames) {
			s = opNames[i.Op]
		}
		uses := 0
		switch i.Op {
		case api.OpMake, api.OpFun, api.OpCase:
			uses = 2
		case api.OpInt, api.OpText, api.OpLocal, api.OpKept, api.OpName, api.OpSet, api.OpStore, api.OpField, api.OpJump, api.OpFalse, api.OpSum, api.OpTry, api.OpElse:
			uses = 1
		}
		if uses > 0 || i.A != 0 {
			s += " " + strconv.Itoa(i.A)
		}
		if uses > 1 || i.B != 0 {
			s += " " + strconv.Itoa(i.B)
		}
		all = append(all, s)
	}
	return strings.Join(all, ", ")
}

// told is a code as a text.
func told(c api.Code) string {
	s := strconv.Itoa(c.Lets) + " lets; ints"
	for _, n := range c.Ints {
		s += " " + strconv.Itoa(n)
	}
	s += "; texts"
	for _, x := range c.Texts {
		s += " " + strconv.Quote(x)
	}
	for _, f := range c.Funs {
		s += "\n" + strconv.Itoa(f.Kept) + " " + strconv.Itoa(f.Locals) + " " + strconv.Itoa(f.Stack) + ": " + listed(f.Code)
	}
	return s
}

// cons are constructors of some types.
func cons() []api.Con {
	return []api.Con{
		{Name: "False", Of: "bool", Many: 2}, {Name: "True", Of: "bool", Tag: 1, Many: 2}, {Name: "Nil", Of: "list", Many: 2}, {Name: "Cons", Of: "list", Tag: 1, Arity: 2, Many: 2}, {Name: "A", Of: "abc", Many: 3}, {Name: "B", Of: "abc", Tag: 1, Arity: 1, Many: 3}, {Name: "C", Of: "abc", Tag: 2, Arity: 4, Many: 3}, {Name: "Box", Of: "box", Arity: 1, Many: 1},
	}
}

// retry is a function that waits.
func retry(kept int) api.Fun {
	return api.Fun{Kept: kept, Locals: 1, Body: api.Core{Kind: api.CoreRetry}}
}

// among is functions of which number 1 has a body, and much to name; the others wait, and 2 and 3 keep as much as their numbers tell.
func among(body api.Core) []api.Fun {
	return []api.Fun{retry(0), {Kept: 4, Locals: 9, Body: body}, retry(2), retry(3)}
}

const fewLets = 5

// becomes holds what a body of a function becomes.
func becomes(t *testing.T, body, want string) {
	t.Helper()
	c, at, e := gen.Code(among(read(body)), cons(), fewLets)
	if e != api.OK || at != 0 {
		t.Errorf("%s: %d, %v", body, at, e)
		return
	}
	if got := listed(c.Funs[1].Code); got != want {
		t.Errorf("%s becomes\n%s, not\n%s", body, got, want)
	}
}

// needs holds how deep a stack a body needs.
func needs(t *testing.T, want int, bodies ...string) {
	t.Helper()
	for _, body := range bodies {
		c, at, e := gen.Code(among(read(body)), cons(), fewLets)
		if e != api.OK || at != 0 {
			t.Errorf("%s: %d, %v", body, at, e)
		} else if got := c.Funs[1].Stack; got != want {
			t.Errorf("%s needs %d, not %d", body, got, want)
		}
	}
}

// refuses holds that there is no code of functions, and why.
func refuses(t *testing.T, what string, f []api.Fun, lets, number int, want api.Errno) {
	t.Helper()
	c, at, e := gen.Code(f, cons(), lets)
	if e != want || at != number || c.Lets != 0 || c.Funs != nil || c.Ints != nil || c.Texts != nil {
		t.Errorf("%.300s: %.300s, %d, %v; not %d, %v", what, told(c), at, e, number, want)
	}
}

// wrong holds that a body is of no function.
func wrong(t *testing.T, bodies ...string) {
	t.Helper()
	for _, body := range bodies {
		refuses(t, body, among(read(body)), fewLets, 0, api.ErrArg)
	}
}
