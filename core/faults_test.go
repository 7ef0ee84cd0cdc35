package core_test

import (
	"slices"
	"strconv"
	"strings"
	"testing"

	"selvage/api"
	"selvage/core"
	"selvage/parse"
	"selvage/show"
)

// P12.1: what a match leaves out, and rows that nothing reaches.
func TestCover(t *testing.T) {
	for s, want := range map[string]api.Errno{
		"do @match 1 with | 0 -> 1 end": api.ErrCover, "do @match Nil with | Nil -> 0 end": api.ErrCover, "do @match Nil with | Nil -> 0 | Cons _ Nil -> 1 end": api.ErrCover, "do @match True with | True -> 1 end": api.ErrCover,
		"do match Nil with | x -> 0 | @Nil -> 1 end": api.ErrUseless, "do match 1 with | 1 -> 1 | 2 -> 2 | (@1) -> 3 | _ -> 4 end": api.ErrUseless, "do match Nil with | Nil -> 0 | Cons _ _ -> 1 | @_ -> 2 end": api.ErrUseless,
		// A row that nothing reaches comes ahead of what is left out, and the first one ahead of others.
		"do match 1 with | 1 -> 1 | @1 -> 2 end": api.ErrUseless, "do match 1 with | 1 -> 1 | @1 -> 2 | 1 -> 3 end": api.ErrUseless, "do match Nil with | Cons x Nil -> 0 | @Cons 1 Nil -> 1 end": api.ErrUseless,
		// In each part of a program, the first one from the left on.
		"let a = @match 1 with | 0 -> 1 end; let b = match 1 with | 1 -> 1 | 1 -> 2 end; do match 1 with | 0 -> 1 end": api.ErrCover, "let a = 1; let b = match 1 with | 1 -> 1 | @1 -> 2 end; do match 1 with | 0 -> 1 end": api.ErrUseless,
		"let rec f = fun x -> @match x with | 0 -> 1 end; do f": api.ErrCover, "do let rec f = fun x -> @match x with | 0 -> 1 end in f": api.ErrCover, "do let rec f = fun x -> x in @match 1 with | 0 -> 1 end": api.ErrCover,
		"do (match 1 with | _ -> 0 end) + @match 1 with | 1 -> 1 end": api.ErrCover, "do 1 + (@match 1 with | 1 -> 1 end) + match 1 with | 1 -> 1 | 1 -> 2 end": api.ErrCover, "do fun x -> @match x with | 1 -> x end": api.ErrCover,
		"do spawn (@match 1 with | 1 -> 1 end)": api.ErrCover, "do print (@match 1 with | 1 -> \"a\" end)": api.ErrCover, "do raise (@match 1 with | 1 -> 1 end)": api.ErrCover, "do tvar (@match 1 with | 1 -> 1 end)": api.ErrCover,
		"do atomically (@match 1 with | 1 -> 1 end)": api.ErrCover, "do atomically (read (@match 1 with | 1 -> tvar 1 end))": api.ErrCover, "do atomically (orelse (@match 1 with | 1 -> 1 end) 2)": api.ErrCover, "do atomically (orelse 1 (@match 1 with | 1 -> 1 end))": api.ErrCover,
		"do atomically (write (@match 1 with | 1 -> tvar 1 end) 1)": api.ErrCover, "do atomically (write (tvar 1) (@match 1 with | 1 -> 1 end))": api.ErrCover, "do Cons 1 (@match 1 with | 1 -> Nil end)": api.ErrCover, "do (@match 1 with | 1 -> 1 end); 2": api.ErrCover, "do 1; @match 1 with | 1 -> 1 end": api.ErrCover,
		"do if @match 1 with | 1 -> True end then 1 else 2": api.ErrCover, "do if True then @match 1 with | 1 -> 1 end else 2": api.ErrCover, "do if True then 1 else @match 1 with | 1 -> 1 end": api.ErrCover, "do (@match 1 with | 1 -> fun x -> x end) 1": api.ErrCover, "do (fun x -> x) (@match 1 with | 1 -> 1 end)": api.ErrCover,
		"do let x = @match 1 with | 1 -> 1 end in x": api.ErrCover, "do let x = 1 in @match x with | 1 -> 1 end": api.ErrCover, "do try @match 1 with | 1 -> 1 end with e -> e end": api.ErrCover, "do try 1 with e -> @match e with | 1 -> 1 end end": api.ErrCover,
		// A match's value is done ahead of its rows, and these ahead of their bodies.
		"do match @match 1 with | 0 -> 1 end with | 0 -> 1 | 0 -> 2 end": api.ErrCover, "do @match 1 with | 0 -> match 1 with | 1 -> 1 | 1 -> 2 end end": api.ErrCover, "do match 1 with | 0 -> @match 1 with | 1 -> 1 end | _ -> match 1 with | 1 -> 1 | 1 -> 2 end end": api.ErrCover,
		"do match 1 with | 0 -> 1 | _ -> match 1 with | 1 -> 1 | @1 -> 2 end end": api.ErrUseless,
	} {
		fails(t, list+s, want)
	}
}

// P12.1: a row with more than thirty patterns.
func TestManyPatterns(t *testing.T) {
	types := "type q = Q of int, int, int, int; type r = R of q, q, q, q; type s = S of r, r; "
	full := "(R (Q _ _ _ _) (Q _ _ _ _) (Q _ _ _ _) (Q _ _ _ _))"
	row := func(some string) string { return "match raise 1 with | S " + full + " " + some + " -> 1 end" }
	for s, patterns := range map[string]int{row("_"): 23, row("(R _ _ _ _)"): 27, row("(R _ (Q 1 2 3 4) _ _)"): 31, row(full): 43} {
		if patterns > 30 {
			fails(t, types+"do 1 + @"+s, api.ErrMany)
		} else {
			passes(t, types+"do 1 + "+s)
		}
	}
	// 21 of them behind a B, and behind some C.
	box := "type b = B of r | C of b; "
	for many := 1; many < 12; many++ {
		p := full
		for range many {
			p = "(C " + p + ")"
		}
		p = strings.Replace(p, "(R", "(B (R", 1) + ")"
		s := "match raise 1 with | " + p + " -> 1 | _ -> 2 end"
		if 22+many > 30 {
			fails(t, types+box+"do @"+s, api.ErrMany)
			fails(t, types+box+"do @match raise 1 with | C (B _) -> 2 | C (B _) -> 4 | "+p+" -> 1 | _ -> 2 end", api.ErrMany)
		} else {
			passes(t, types+box+"do "+s)
		}
	}
}

// passes are the functions of a source that is right.
func passes(t *testing.T, s string) []api.Fun {
	t.Helper()
	n, cons := right(t, s)
	funs, at, e := core.Program(n, cons)
	if e != api.OK || at != 0 || len(funs) == 0 {
		t.Errorf("%.400s: %d, %v", s, at, e)
		return make([]api.Fun, 1)
	}
	return funs
}

// stairs is a match with so many rows that ask of all four parts, of the third one, and of the last one, and with an end.
func stairs(all, third, last int, end string) string {
	s := "match raise 1 with"
	row := func(i int, form string) { s += strings.ReplaceAll(" | B ("+form+") -> 1", "#", strconv.Itoa(i)) }
	for i := range all {
		row(i, "F # # # #")
	}
	for i := range third {
		row(all+i, "F _ _ # _")
	}
	for i := range last {
		row(all+i, "F _ _ _ #")
	}
	return s + end
}

// many is how many trees there are in one, itself among them.
func many(t api.Tree) int {
	n := 1
	for _, c := range t.Cases {
		n += many(c.Tree)
	}
	for _, r := range t.Rest {
		n += many(r)
	}
	return n
}

// P12.1: a tree that is too great: of more than 300 trees.
func TestGreatTrees(t *testing.T) {
	types := "type f = F of int, int, int, int; type b = B of f; "
	greatest := stairs(6, 2, 11, " | _ -> 2 end")
	if got := many(passes(t, types+"do "+strings.NewReplacer("B (", "", ")", "").Replace(greatest))[0].Body.Tree); got != 300 {
		t.Errorf("%d trees", got)
	}
	// One more stands around it.
	fails(t, types+"do 1 + @"+greatest, api.ErrMany)
	fails(t, types+"do 1 + @"+stairs(6, 2, 11, " | _ -> match 1 with | 0 -> 1 end end"), api.ErrMany)
	fails(t, types+"do 1 + @"+stairs(8, 2, 8, " | _ -> 2 end"), api.ErrMany)
	// What is left out, and a row that nothing reaches, comes ahead.
	fails(t, types+"do 1 + @"+stairs(8, 2, 8, " end"), api.ErrCover)
	fails(t, types+"do 1 + "+stairs(8, 2, 8, " | _ -> 2 | @_ -> 3 end"), api.ErrUseless)
	fails(t, types+"do "+strings.Replace(greatest, "raise 1", "(@match 1 with | 0 -> 1 end; raise 1)", 1), api.ErrCover)
}

// P12.1: as many functions as may be.
func TestManyFunctions(t *testing.T) {
	nested := func(funs int) string { return strings.Repeat("fun x -> ", funs) }
	decls := ""
	for range 3 {
		decls += "let a = " + nested(37) + "1; "
	}
	// 111 of the lets, and 8 or 9 more.
	if l := passes(t, decls+"do "+nested(8)+"1"); len(l) != 120 || l[119].Body.Kind != api.CoreInt || l[0].Body.Kids[1].Kids[1].Kids[1].Number != 112 {
		t.Errorf("%d functions", len(l))
	}
	fails(t, decls+"do "+nested(8)+"@fun x -> 1", api.ErrMany)
	fails(t, decls+"do "+nested(8)+"@fun x -> fun x -> 1", api.ErrMany)
	fails(t, decls+"do "+nested(8)+"@fun x -> match x with | 0 -> 1 end", api.ErrMany)
	fails(t, decls+"let b = "+nested(8)+"1; let c = @fun x -> 2; do c", api.ErrMany)
	fails(t, decls+"let b = "+nested(8)+"1; let rec c = @fun x -> 2; do c", api.ErrMany)
	fails(t, decls+"let b = "+nested(8)+"1; do let rec c = @fun x -> 2 in c", api.ErrMany)
	fails(t, decls+"let b = "+nested(8)+"1; do @spawn (match 1 with | 0 -> 1 end)", api.ErrMany)
	fails(t, decls+"do ("+nested(8)+"1; @spawn 1; spawn 1)", api.ErrMany)
	// What is met ahead of it.
	fails(t, decls+"let b = "+nested(8)+"1; do (@match 1 with | 0 -> 1 end) + (fun x -> x) 2", api.ErrCover)
	fails(t, decls+"let b = "+nested(8)+"1; do (@fun x -> x) (match 1 with | 0 -> 1 end)", api.ErrMany)
	fails(t, decls+"let b = "+nested(7)+"1; do (fun x -> @match x with | 0 -> 1 end) 1 + (fun x -> x) 2", api.ErrCover)
	fails(t, decls+"let b = "+nested(7)+"1; do (fun x -> x) 1 + (@fun x -> x) (match 2 with | 0 -> 1 end)", api.ErrMany)
	passes(t, decls+"let b = "+nested(6)+"1; do (spawn 1; let rec f = fun x -> 1 in f)")
}

// ahead is what stands ahead of a place in a function at which it has so many locals more, and behind it. Names of a level are its letter and a number.
func ahead(locals int) (string, string) {
	before, behind := "", ""
	for level := 'a'; locals >= 17; level++ {
		before += "match raise 1 with | " + sixteen(string(level)) + " -> "
		behind += " end"
		locals -= 17
	}
	return before + strings.Repeat("let u = 1 in ", locals), behind
}

const sixteens = "type q = Q of int, int, int, int; type r = R of q, q, q, q; "

// sixteen is a pattern of sixteen names.
func sixteen(letter string) string {
	s := "R"
	for i := range 16 {
		if i%4 == 0 {
			s += " (Q"
		}
		s += " " + letter + strconv.Itoa(i)
		if i%4 == 3 {
			s += ")"
		}
	}
	return s
}

// full is an exp at whose # a function has so many locals.
func full(locals int) string {
	before, behind := ahead(locals)
	return before + "#" + behind
}

// P12.1: as many locals as may be.
func TestManyLocals(t *testing.T) {
	// Exps, and how many locals they need; an @ stands where one too many is told.
	exps := map[string]int{
		"@let x = 1 in x": 1, "@let rec f = fun x -> x in 2": 1, "@try 1 with e -> e end": 1, "@match 1 with | _ -> 2 end": 1, "@match 1 with | 3 -> 4 | x -> x end": 2, "@match raise 1 with | Q x _ y _ -> x end": 3, "@match raise 1 with | R _ (Q x y z w) _ v -> x end": 6,
		"let x = 1 in @let x = 2 in x": 2, "let rec f = fun x -> x in @try 1 with e -> e end": 2, "try 1 with e -> @match 1 with | _ -> 2 end end": 2, "match 1 with | 2 -> 3 | x -> @let y = 4 in y end": 3, "match 1 with | _ -> @let y = 4 in y end": 2,
	}
	within := map[string]int{"do #": 0, "let v = #; do 1": 0, "let v = 1; do fun x -> #": 1, "let rec f = fun x -> #; do 1": 1, "do spawn (#)": 1, "do let rec f = fun x -> # in f": 1, "do let x = 1 in let y = 2 in (fun x -> #)": 1}
	for exp, needs := range exps {
		for in, has := range within {
			for left := needs - 1; left <= needs+1; left++ {
				s := sixteens + strings.Replace(in, "#", "("+strings.Replace(full(60-has-left), "#", exp, 1)+")", 1)
				if left < needs {
					fails(t, s, api.ErrMany)
					continue
				}
				most := 0
				for _, f := range passes(t, strings.Replace(s, "@", "", 1)) {
					most = max(most, f.Locals)
				}
				if most != 60-left+needs {
					t.Errorf("%s needs %d locals", s, most)
				}
			}
		}
	}
}

// P12.1: which error is met first, where there are too many locals.
func TestManyLocalsAndOthers(t *testing.T) {
	at := func(locals int, s string) string {
		return sixteens + "do " + strings.Replace(full(locals), "#", s, 1)
	}
	for s, want := range map[string]api.Errno{
		"let x = @match 1 with | 0 -> 1 end in x": api.ErrCover, "@let x = 1 in match 1 with | 0 -> 1 end": api.ErrMany, "try @match 1 with | 0 -> 1 end with e -> e end": api.ErrCover, "@try 1 with e -> match 1 with | 0 -> 1 end end": api.ErrMany,
		"let rec f = fun x -> @match 1 with | 0 -> 1 end in f": api.ErrCover, "@let rec f = fun x -> x in match 1 with | 0 -> 1 end": api.ErrMany, "@match 1 with | 0 -> 1 end": api.ErrCover, "match 1 with | _ -> 1 | @0 -> 2 end": api.ErrUseless, "match @match 1 with | 0 -> 1 end with | _ -> 1 end": api.ErrCover,
		"@match 1 with | _ -> match 1 with | 0 -> 1 end end": api.ErrMany, "@match 1 with | 0 -> match 1 with | 0 -> 1 end | x -> x end": api.ErrMany, "(@let x = 1 in x) + match 1 with | 0 -> 1 end": api.ErrMany, "(@match 1 with | 0 -> 1 end) + (let x = 1 in x)": api.ErrCover,
		"(@let x = 1 in x) + (let x = 1 in x)": api.ErrMany, "(fun x -> let y = x in y) 1 + (@let x = 1 in x)": api.ErrMany,
	} {
		fails(t, at(60, s), want)
	}
	for s, want := range map[string]api.Errno{
		// A row's names come behind the bodies of the rows ahead, and ahead of its own.
		"match 1 with | 0 -> @match 1 with | 0 -> 1 end | x -> x end": api.ErrCover, "@match 1 with | 0 -> 1 | x -> match 1 with | 0 -> 1 end end": api.ErrMany, "match 1 with | x -> 1 | @0 -> 2 end": api.ErrUseless, "@match raise 1 with | Q x y 3 z -> 1 end": api.ErrCover,
		"(let x = 1 in 2) + (let x = 3 in 4) + @match 1 with | x -> x end": api.ErrMany,
	} {
		fails(t, at(59, s), want)
	}
	passes(t, at(59, "(let x = 1 in 2) + (let x = let y = 3 in y in 4) + (try 5 with e -> 6 end) + (match 7 with | _ -> 8 end)"))
	passes(t, at(60, "1 + (fun x -> x) 2"))
	// Another function's locals are its own.
	passes(t, at(60, strings.Replace("(fun x -> #) 1", "#", strings.Replace(full(17), "#", "a0 + x", 1), 1)))
}

// some are so many of the names of some levels, from a place on, as a sum.
func some(levels string, from, many int) string {
	var l []string
	for _, level := range levels {
		for i := range 16 {
			l = append(l, string(level)+strconv.Itoa(i))
		}
	}
	return strings.Join(l[from:from+many], "+")
}

// around is a function with 32 names around one with 32 names more, in which something stands.
func around(s string) string {
	return sixteens + "do match raise 1 with | " + sixteen("a") + " -> match raise 1 with | " + sixteen("b") + " -> fun y -> match raise 1 with | " + sixteen("c") + " -> match raise 1 with | " + sixteen("d") + " -> " + s + " end end end end"
}

// P12.1: as much as may be kept.
func TestManyKept(t *testing.T) {
	for many := 57; many <= 62; many++ {
		sum := some("abcd", 1, many)
		for s, kept := range map[string]int{
			"@fun z -> #": many, "@fun z -> # + #": many, "@fun z -> z + (let w = # in w)": many, "@spawn (#)": many, "let rec f = @fun z -> # in 1": many, "let rec f = @fun z -> # + f z in 1": many, "@fun z -> y + #": many + 1, "let rec f = fun u -> @fun z -> (f; #) in 1": many + 1,
			"@fun z -> # + a0": many + 1, "@fun z -> (# + a0; fun x -> a0)": many + 1, "@fun z -> (#; fun x -> a0)": many + 1, "@fun z -> (#; fun z -> z)": many,
		} {
			s := around(strings.ReplaceAll(s, "#", sum))
			if len(s) > api.MaxSource {
				t.Fatal(len(s), s)
			}
			inner := strings.Contains(s, "fun u")
			if kept > 59 {
				fails(t, s, api.ErrMany)
				continue
			}
			l := passes(t, strings.Replace(s, "@", "", 1))
			at := 2
			if inner {
				at = 3
			}
			if l[at].Kept != kept {
				t.Errorf("%s: %d are kept", s, l[at].Kept)
			}
		}
	}
	// It is met behind all of a body, and ahead of what stands behind the fun.
	all := some("abcd", 0, 60)
	fails(t, around("fun z -> "+all+" + @match 1 with | 0 -> 1 end"), api.ErrCover)
	fails(t, around("((@fun z -> "+all+"); match 1 with | 0 -> 1 end)"), api.ErrMany)
	fails(t, around("fun z -> (z; @fun w -> "+all+")"), api.ErrMany)
	fails(t, around("let x = @fun z -> "+all+" in match 1 with | 0 -> 1 end"), api.ErrMany)
	// Of what a function around keeps, too.
	fails(t, around("@fun z -> (("+some("abcd", 0, 30)+"); fun w -> "+some("abcd", 30, 30)+")"), api.ErrMany)
	passes(t, around("fun z -> (("+some("abcd", 0, 30)+"); fun w -> "+some("abcd", 29, 30)+")"))
	fails(t, around("fun z -> (("+some("abcd", 0, 30)+"); fun w -> ("+some("abcd", 30, 30)+" + @match 1 with | 0 -> 1 end))"), api.ErrCover)
}

// parts are all nodes in a node, itself the first one.
func parts(n *api.Node) []*api.Node {
	l := []*api.Node{n}
	for i := range n.Kids {
		l = append(l, parts(&n.Kids[i])...)
	}
	return l
}

// copied is a node with lists of its own.
func copied(n api.Node) api.Node {
	n.Names, n.Kids = slices.Clone(n.Names), slices.Clone(n.Kids)
	for i, k := range n.Kids {
		n.Kids[i] = copied(k)
	}
	return n
}

// each is a source with each kind of node.
var each = []string{
	"do 1", "do \"a\"", "do ()", "do x", "do A", "do A 1 x () B", "do fun x -> y", "do f x (g y) z", "do let x = 1 in y", "do let rec f = fun x -> y in z", "do if a then b else c", "do retry", "do a; b; c", "do match a with | x -> b end", "do match a with | 1 -> b | A x _ -> c | A (B y) C -> d | _ -> e end",
	"do try a with x -> b end", "do a + b * c - d", "do (a = b) = (c < d)", "do print a", "do raise a", "do spawn a", "do atomically a", "do tvar a", "do read a", "do write a b", "do orelse a b", "do f (fun x -> x; y)", "type t a b = A of a, t a b | B | C of list (pair a (b c)) d; do 1", "let x = 1; do x", "let rec f = fun x -> y; do f",
	"let x = (a; b); do x", "let x = if a then (b; c) else (d; e); do x", "let x = try a; b with c -> d; e end; do x",
}

// P12.1: what is no node that a source has. Show tells which these are.
func TestNodesOfNoSource(t *testing.T) {
	leaf := api.Node{Kind: api.NodeName, Text: "x"}
	wide := api.Node{Kind: api.NodeLet, Text: "x", Kids: []api.Node{{Kind: api.NodeInt}, {Kind: api.NodeUnit}}}
	changes := map[string]func(n *api.Node){
		"nothing": func(n *api.Node) { *n = api.Node{} }, "no Kids": func(n *api.Node) { n.Kids = nil }, "a Kid less": func(n *api.Node) { n.Kids = n.Kids[:max(0, len(n.Kids)-1)] },
		"a Kid more": func(n *api.Node) { n.Kids = append(n.Kids, leaf) }, "two Kids more": func(n *api.Node) { n.Kids = append(n.Kids, leaf, leaf) }, "other Kids": func(n *api.Node) { slices.Reverse(n.Kids) },
		"itself as Kid": func(n *api.Node) { n.Kids = []api.Node{copied(*n)} }, "a name": func(n *api.Node) { n.Names = append(n.Names, "z") }, "another node": func(n *api.Node) { *n = wide },
		"a seq": func(n *api.Node) { *n = api.Node{Kind: api.NodeSeq, Kids: []api.Node{copied(*n), leaf}} }, "a program": func(n *api.Node) { *n = api.Node{Kind: api.NodeProg, Kids: []api.Node{copied(*n)}} },
		"number -1": func(n *api.Node) { n.Number = -1 }, "number 1": func(n *api.Node) { n.Number = 1 }, "a great number": func(n *api.Node) { n.Number = api.MaxInt + 1 }, "a place": func(n *api.Node) { n.At += 7 },
	}
	for _, text := range []string{"", "x", "X", "_", "let", "x y", "1", "+", "\"", strings.Repeat("x", 17), strings.Repeat("x", 61)} {
		changes["text "+text] = func(n *api.Node) { n.Text = text }
	}
	for kind := -1; kind < 32; kind++ {
		changes["kind "+strconv.Itoa(kind)] = func(n *api.Node) { n.Kind = kind }
	}
	_, cons := right(t, "type l = A of int, l | B | C; do 1")
	refused := 0
	for _, s := range each {
		whole := node(t, s)
		for i := range parts(&whole) {
			for what, change := range changes {
				n := copied(whole)
				change(parts(&n)[i])
				_, none := show.Program(n)
				funs, at, e := core.Program(n, cons)
				if (e == api.ErrArg) != (none != api.OK) || e == api.ErrArg && at != 0 || e != api.OK && len(funs) > 0 {
					t.Errorf("%s in %s: %d, %v", what, s, at, e)
				}
				if e == api.ErrArg {
					refused++
				}
			}
		}
	}
	if refused < 3000 {
		t.Errorf("%d changed nodes are none of a source", refused)
	}
}

// P12.1: a source has what may be written in 2000 bytes, by whatever blanks.
func TestLongSources(t *testing.T) {
	for s, more := range map[string]string{
		"do 1" + strings.Repeat("+1", 998): "+1", "do 11" + strings.Repeat("+(fun x->1)0", 119) + strings.Repeat("*1", 283): "*1", "do 1;" + strings.Repeat("print\"\";", 36) + "11" + strings.Repeat("=1;1", 1) + strings.Repeat("+1", 850): "",
	} {
		n, at, e := parse.Program(s)
		if e != api.OK {
			t.Fatalf("%s: %d, %v", s, at, e)
		}
		funs, at, e := core.Program(n, nil)
		if e != api.OK || at != 0 || len(funs) == 0 {
			t.Errorf("%s: %d, %v", s, at, e)
		}
		if more == "" {
			continue
		}
		if len(s)+len(more) <= api.MaxSource {
			t.Errorf("%d bytes", len(s))
		}
		// One more of them.
		last := len(n.Kids) - 1
		n.Kids[last] = api.Node{Kind: api.NodeOp, Text: more[:1], Kids: []api.Node{n.Kids[last], {Kind: api.NodeInt, Number: 1}}}
		if funs, at, e := core.Program(n, nil); e != api.ErrArg || at != 0 || len(funs) != 0 {
			t.Errorf("%s, and %s: %d, %v", s, more, at, e)
		}
	}
}
