package fold_test

import (
	"math/big"
	"slices"
	"strings"
	"testing"

	"selvage/api"
	"selvage/fold"
	"selvage/parse"
)

// A model of the chapter: an exp is made another one step by step, as far out as can be, till nothing is left to do; names that are free are found
// from within.

// without is a list of names without one of them.
func without(l []string, name string) []string {
	return slices.DeleteFunc(slices.Clone(l), func(s string) bool { return s == name })
}

// meant are the names in a pattern.
func meant(p api.Node) []string {
	if p.Kind == api.NodeName {
		return []string{p.Text}
	}
	var l []string
	for _, k := range p.Kids {
		l = append(l, meant(k)...)
	}
	return l
}

// modelFree are the names free in an exp.
func modelFree(n api.Node) []string {
	var l []string
	for i, k := range n.Kids {
		if n.Kind == api.NodeMatch && i%2 == 1 {
			continue
		}
		in := modelFree(k)
		switch {
		case n.Kind == api.NodeFun, n.Kind == api.NodeRec, n.Kind == api.NodeLet && i == 1, n.Kind == api.NodeTry && i == 1:
			in = without(in, n.Text)
		case n.Kind == api.NodeMatch && i > 0:
			for _, name := range meant(n.Kids[i-1]) {
				in = without(in, name)
			}
		}
		l = append(l, in...)
	}
	if n.Kind == api.NodeName {
		l = []string{n.Text}
	}
	var once []string
	for _, name := range l {
		if !slices.Contains(once, name) {
			once = append(once, name)
		}
	}
	return once
}

// modelStill tells whether an exp is still.
func modelStill(n api.Node) bool {
	if n.Kind == api.NodeCon {
		for _, k := range n.Kids {
			if !modelStill(k) {
				return false
			}
		}
		return true
	}
	return n.Kind == api.NodeInt || n.Kind == api.NodeText || n.Kind == api.NodeUnit || n.Kind == api.NodeName || n.Kind == api.NodeFun
}

// modelSum is what comes of an operation of two digits; false, if that is not known, or has no digits.
func modelSum(sign string, x, y int) (*big.Int, bool) {
	a, b := big.NewInt(int64(x)), big.NewInt(int64(y))
	is, all := new(big.Int), new(big.Int).Lsh(big.NewInt(1), 63)
	switch sign {
	case "+":
		is.Add(a, b)
	case "-":
		is.Sub(a, b)
	case "*":
		is.Mul(a, b)
	case "/", "%":
		if b.Sign() == 0 {
			return nil, false
		}
		left := new(big.Int)
		if is.QuoRem(a, b, left); sign == "%" {
			is = left
		}
	default:
		return nil, false
	}
	is.Mod(is, all)
	if is.Cmp(big.NewInt(api.MaxInt)) > 0 {
		is.Sub(is, all)
	}
	return is, is.Sign() >= 0
}

// modelOp is what comes of an operation of two that are known.
func modelOp(n, a, b api.Node) (api.Node, bool) {
	truth := map[bool]string{true: "True", false: "False"}
	switch {
	case a.Kind == api.NodeText && b.Kind == api.NodeText && n.Text == "^" && len(a.Text+b.Text) <= 60:
		return api.Node{Kind: api.NodeText, Text: a.Text + b.Text, At: n.At}, true
	case a.Kind != api.NodeInt || b.Kind != api.NodeInt:
		return n, false
	case n.Text == "=":
		return api.Node{Kind: api.NodeCon, Text: truth[a.Number == b.Number], At: n.At}, true
	case n.Text == "<":
		return api.Node{Kind: api.NodeCon, Text: truth[a.Number < b.Number], At: n.At}, true
	}
	if is, known := modelSum(n.Text, a.Number, b.Number); known {
		return api.Node{Kind: api.NodeInt, Number: int(is.Int64()), At: n.At}, true
	}
	return n, false
}

// step does one thing of those that the chapter says; false, if there is nothing to do.
func step(n api.Node) (api.Node, bool) {
	switch {
	case n.Kind == api.NodeOp:
		if is, known := modelOp(n, n.Kids[0], n.Kids[1]); known {
			return is, true
		}
	case n.Kind == api.NodeIf && n.Kids[0].Kind == api.NodeCon && len(n.Kids[0].Kids) == 0 && n.Kids[0].Text == "True":
		return n.Kids[1], true
	case n.Kind == api.NodeIf && n.Kids[0].Kind == api.NodeCon && len(n.Kids[0].Kids) == 0 && n.Kids[0].Text == "False":
		return n.Kids[2], true
	case (n.Kind == api.NodeLet || n.Kind == api.NodeRec) && modelStill(n.Kids[0]) && !slices.Contains(modelFree(n.Kids[1]), n.Text):
		return n.Kids[1], true
	case n.Kind == api.NodeSeq && modelStill(n.Kids[0]):
		return n.Kids[1], true
	}
	for i, k := range n.Kids {
		if n.Kind == api.NodeMatch && i%2 == 1 {
			continue
		}
		if is, done := step(k); done {
			n.Kids = slices.Clone(n.Kids)
			n.Kids[i] = is
			return n, true
		}
	}
	return n, false
}

// modelFold is an exp folded.
func modelFold(n api.Node) api.Node {
	for {
		is, done := step(n)
		if !done {
			return n
		}
		n = is
	}
}

// held holds an exp against the model, and what follows (P11.3, P11.4). It tells whether it is folded to another one.
func held(t *testing.T, n api.Node) bool {
	t.Helper()
	was := shown(n)
	got, want := fold.Exp(n), modelFold(n)
	if shown(got) != shown(want) {
		t.Fatalf("%s is %s, not %s", was, shown(got), shown(want))
	}
	free := fold.Free(n)
	if want := modelFree(n); !slices.Equal(free, want) {
		t.Fatalf("free in %s: %q, not %q", was, free, want)
	}
	if twice := fold.Exp(got); shown(twice) != shown(got) {
		t.Fatalf("%s is %s, and then %s", was, shown(got), shown(twice))
	}
	for _, name := range fold.Free(got) {
		if !slices.Contains(free, name) {
			t.Fatalf("%s is free in %s, and not in %s", name, shown(got), was)
		}
	}
	if whole := fold.Program(doing(n)); shown(whole) != shown(doing(want)) {
		t.Fatalf("a program of %s is %s", was, shown(whole))
	}
	return shown(got) != was
}

// Operations of all pairs of numbers that are an edge of something.
func TestSumsAreAsTheModel(t *testing.T) {
	l := []int{0, 1, 2, 3, 7, 10, 1<<31 - 1, 1 << 31, 1<<31 + 1, 3037000499, 3037000500, 1 << 32, 1<<61 - 1, 1 << 61, 1<<61 + 1, api.MaxInt - 2, api.MaxInt - 1, api.MaxInt}
	many := 0
	for _, sign := range []string{"+", "-", "*", "/", "%", "=", "<", "^"} {
		for _, a := range l {
			for _, b := range l {
				if held(t, api.Node{Kind: api.NodeOp, Text: sign, At: 9, Kids: []api.Node{{Kind: api.NodeInt, Number: a, At: 5}, {Kind: api.NodeInt, Number: b, At: 6}}}) {
					many++
				}
			}
		}
	}
	if many < 1000 {
		t.Errorf("%d are known ahead", many)
	}
}

// Each form of exp, with each in each of its parts.
func TestSmallExpsAreAsTheModel(t *testing.T) {
	forms := []string{
		"(fun x -> #)", "(# #)", "(let x = # in #)", "(let y = # in #)", "(let rec f = fun x -> # in #)", "(if # then # else #)", "(if True then # else #)", "(if False then # else #)", "(match # with | 1 -> # | x -> # end)", "(match # with | A x f -> # | True -> # | _ -> # end)", "(match # with | A x x -> # end)", "(try # with x -> # end)",
		"(# + #)", "(# - #)", "(# * #)", "(# / #)", "(# % #)", "(# = #)", "(# < #)", "(# ^ #)", "(#; #)", "(A # #)", "(B #)", "(print #)", "(raise #)", "(spawn #)", "(atomically #)", "(orelse # #)", "(tvar #)", "(read #)", "(write # #)",
	}
	leaves := []string{"1", "x", "2", "\"a\"", "f", "Nil", "0", "retry", "True", "y", "()", "False"}
	// filled is a form with something in one of its parts, and leaves in the others.
	filled := func(form, in string, at, leaf int) string {
		for i := 0; strings.Contains(form, "#"); i++ {
			part := leaves[(leaf+i*(1+leaf%5))%len(leaves)]
			if i == at {
				part = in
			}
			form = strings.Replace(form, "#", part, 1)
		}
		return form
	}
	many, other := 0, 0
	for _, one := range forms {
		for i := range strings.Count(one, "#") {
			for _, two := range forms {
				for j := range strings.Count(two, "#") {
					for k, leaf := range leaves {
						many++
						s := filled(one, filled(two, leaf, j, k+many), i, many/len(leaves))
						if held(t, exp(t, s)) {
							other++
						}
					}
				}
			}
		}
	}
	if other < many/4 || other > many*3/4 {
		t.Errorf("of %d exps %d are folded to other ones", many, other)
	}
}

// dice are thrown to make exps.
type dice uint64

func (d *dice) below(n int) int {
	*d = *d*6364136223846793005 + 1442695040888963407
	return int(uint64(*d) >> 33 % uint64(n))
}

func (d *dice) pick(l ...string) string { return l[d.below(len(l))] }

func (d *dice) name() string { return d.pick("x", "x", "y", "z", "f") }

// leaf is an exp without Kids.
func (d *dice) leaf() api.Node {
	switch d.below(10) {
	case 0, 1:
		return api.Node{Kind: api.NodeInt, Number: d.below(3)}
	case 2:
		return api.Node{Kind: api.NodeInt, Number: []int{api.MaxInt, 1 << 61, 1 << 31, 4}[d.below(4)]}
	case 3:
		return node(api.NodeText, d.pick("", "a", strings.Repeat("b", 30), strings.Repeat("c", 59)))
	case 4:
		return node(api.NodeUnit, "")
	case 5:
		return node(api.NodeCon, d.pick("True", "False", "Nil"))
	case 6:
		return node(d.kind(api.NodeRetry, api.NodeUnit), "")
	}
	return node(api.NodeName, d.name())
}

func (d *dice) kind(l ...int) int { return l[d.below(len(l))] }

// pattern is a pattern.
func (d *dice) pattern(deep int) api.Node {
	switch {
	case d.below(3) == 0:
		return node(api.NodeName, d.name())
	case d.below(3) == 0:
		return node(api.NodeAny, "")
	case d.below(3) == 0:
		return api.Node{Kind: api.NodeInt, Number: d.below(3)}
	}
	n := node(api.NodeCon, d.pick("A", "True", "Nil"))
	for range d.below(4) {
		if deep > 0 {
			n.Kids = append(n.Kids, d.pattern(deep-1))
		}
	}
	return n
}

// parts are some exps, with so many others in them in all.
func (d *dice) parts(parts, many int) []api.Node {
	var l []api.Node
	for i := range parts {
		part := many
		if i < parts-1 {
			part = d.below(many + 1)
		}
		many -= part
		l = append(l, d.exp(part))
	}
	return l
}

// exp is an exp with so many others in it, at any places.
func (d *dice) exp(many int) api.Node {
	n := d.leaf()
	if many > 0 {
		n = d.inner(many - 1)
	}
	n.At = []int{d.below(50), d.below(50), -1, 0}[d.below(4)]
	return n
}

func (d *dice) inner(many int) api.Node {
	switch d.below(16) {
	case 0, 1, 2, 3:
		return node(api.NodeOp, d.pick("+", "-", "*", "/", "%", "=", "<", "^", "^", "+"), d.parts(2, many)...)
	case 4, 5:
		return node(api.NodeIf, "", append([]api.Node{d.truth(many / 3)}, d.parts(2, many-many/3)...)...)
	case 6, 7, 8:
		return node(api.NodeLet, d.name(), d.parts(2, many)...)
	case 9:
		l := d.parts(2, many)
		return node(api.NodeRec, d.name(), api.Node{Kind: api.NodeFun, Text: d.name(), At: d.below(50), Kids: l[:1:1]}, l[1])
	case 10, 11:
		return node(api.NodeSeq, "", d.parts(2, many)...)
	case 12:
		l := d.parts(2+d.below(3), many)
		n := node(api.NodeMatch, "", l[0])
		for _, body := range l[1:] {
			n.Kids = append(n.Kids, d.pattern(2), body)
		}
		return n
	case 13:
		return node(d.kind(api.NodeTry, api.NodeFun, api.NodeFun), d.name(), d.parts(1, many)...)
	case 14:
		return node(api.NodeCon, d.pick("A", "True"), d.parts(1+d.below(4), many)...)
	}
	switch kind := d.kind(api.NodeCall, api.NodeElse, api.NodeWrite, api.NodePrint, api.NodeRaise, api.NodeSpawn, api.NodeAtom, api.NodeTvar, api.NodeRead, api.NodeTry); kind {
	case api.NodeTry:
		return node(kind, d.name(), d.parts(2, many)...)
	case api.NodeCall, api.NodeElse, api.NodeWrite:
		return node(kind, "", d.parts(2, many)...)
	default:
		return node(kind, "", d.parts(1, many)...)
	}
}

// truth is an exp that is known to be True, or False, often.
func (d *dice) truth(many int) api.Node {
	switch d.below(3) {
	case 0:
		return node(api.NodeCon, d.pick("True", "False"))
	case 1:
		return node(api.NodeOp, d.pick("=", "<"), d.leaf(), d.leaf())
	}
	return d.exp(many)
}

// Exps made at random.
func TestRandomExpsAreAsTheModel(t *testing.T) {
	d, other := dice(1), 0
	for i := range 30000 {
		if held(t, d.exp(i%30)) {
			other++
		}
	}
	if other < 10000 {
		t.Errorf("%d are folded to other ones", other)
	}
	for i := range 300 {
		held(t, d.exp(200+i))
	}
}

// Programs made of such exps: each let's value, and what is done, is folded by itself.
func TestRandomProgramsAreAsTheModel(t *testing.T) {
	d := dice(2)
	for range 3000 {
		n, want := api.Node{Kind: api.NodeProg, At: d.below(9)}, api.Node{Kind: api.NodeProg}
		want.At = n.At
		add := func(k api.Node, folded ...api.Node) {
			k.At = d.below(50)
			n.Kids = append(n.Kids, k)
			if folded != nil {
				k.Kids = folded
			}
			want.Kids = append(want.Kids, k)
		}
		for range d.below(6) {
			v := d.exp(d.below(12))
			f := api.Node{Kind: api.NodeFun, Text: d.name(), At: d.below(50), Kids: []api.Node{v}}
			switch d.below(3) {
			case 0:
				add(node(api.NodeVal, d.name(), v), modelFold(v))
			case 1:
				add(node(api.NodeValRec, d.name(), f), modelFold(f))
			default:
				k := program(t, d.pick("type t = A; do 1", "type t a b = A of a, t b a | B | C of int, l (m a) b; do 1", "type x y = X of y; do 1")).Kids[0]
				n.Kids, want.Kids = append(n.Kids, k), append(want.Kids, k)
			}
		}
		last := d.exp(d.below(12))
		n.Kids, want.Kids = append(n.Kids, last), append(want.Kids, modelFold(last))
		if got := fold.Program(n); shown(got) != shown(want) || !parse.Same(got, want) {
			t.Fatalf("%s is %s, not %s", shown(n), shown(got), shown(want))
		}
	}
}
