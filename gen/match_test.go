package gen_test

import (
	"strconv"
	"strings"
	"testing"

	"selvage/api"
	"selvage/gen"
)

// P15.1: a match that asks nothing.
func TestMatchesThatAskNothing(t *testing.T) {
	becomes(t, "(match 3 %1 r0 (row %2))", "Local 1, Set 3, Jump 3, Local 2, Return")
	becomes(t, "(match 3 (call %1 %2) r0 (row (call %3 %4)))", "Local 1, Local 2, Call, Set 3, Jump 5, Local 3, Local 4, Tail")
	becomes(t, "(match 3 %1 r0 (row %4@ %4))", "Local 1, Set 3, Jump 3, Local 3, Set 4, Local 4, Return")
	becomes(t, "(match 3 %1 r0 (row %4@0 %5@3.2.1.0 %6@ (call %4 %5)))", "Local 1, Set 3, Jump 3, Local 3, Field 0, Set 4, Local 3, Field 3, Field 2, Field 1, Field 0, Set 5, Local 3, Set 6, Local 4, Local 5, Tail")
	becomes(t, "(print (match 3 %1 r0 (row %2)))", "Local 1, Set 3, Jump 3, Local 2, Print, Return")
	// Rows that nothing goes to are there all the same.
	becomes(t, "(match 3 %1 r1 (row %2) (row %4@ %4))", "Local 1, Set 3, Jump 5, Local 2, Return, Local 3, Set 4, Local 4, Return")
	becomes(t, "(print (match 3 %1 r1 (row %2) (row %4) (row %5)))", "Local 1, Set 3, Jump 5, Local 2, Jump 8, Local 4, Jump 8, Local 5, Print, Return")
}

// P15.1: a tree with a Rest asks for each of its Cases.
func TestTreesWithRest(t *testing.T) {
	becomes(t, "(match 3 %1 (ask @ 7 r0 else r1) (row %2) (row %4))", "Local 1, Set 3, Local 3, Case 7 5, Jump 8, Jump 6, Local 2, Return, Local 4, Return")
	becomes(t, "(print (match 3 %1 (ask @ 7 r0 else r1) (row %2) (row %4)))", "Local 1, Set 3, Local 3, Case 7 5, Jump 8, Jump 6, Local 2, Jump 9, Local 4, Print, Return")
	becomes(t, "(match 3 %1 (ask @1.2 7 r0 0 r1 65535 r2 else r1) (row %2) (row %4) (row %5))",
		"Local 1, Set 3, Local 3, Field 1, Field 2, Case 7 15, Local 3, Field 1, Field 2, Case 0 16, Local 3, Field 1, Field 2, Case 65535 17, Jump 20, Jump 18, Jump 20, Jump 22, Local 2, Return, Local 4, Return, Local 5, Return")
	becomes(t, "(match 3 %1 (ask @ C r0 A r1 else r2) (row %2) (row %4) (row %5))", "Local 1, Set 3, Local 3, Case 2 7, Local 3, Case 0 8, Jump 13, Jump 9, Jump 11, Local 2, Return, Local 4, Return, Local 5, Return")
}

// P15.1: a tree without a Rest does not ask for its last Case.
func TestTreesWithoutRest(t *testing.T) {
	becomes(t, "(match 3 %1 (ask @ Nil r0 Cons r1) (row %2) (row %4@0 %4))", "Local 1, Set 3, Local 3, Case 0 5, Jump 8, Jump 6, Local 2, Return, Local 3, Field 0, Set 4, Local 4, Return")
	becomes(t, "(match 3 %1 (ask @ False r1 True r0) (row %2) (row %4))", "Local 1, Set 3, Local 3, Case 0 5, Jump 6, Jump 8, Local 2, Return, Local 4, Return")
	becomes(t, "(match 3 %1 (ask @0 A r0 B r1 C r2) (row %2) (row %4) (row %5))", "Local 1, Set 3, Local 3, Field 0, Case 0 9, Local 3, Field 0, Case 1 10, Jump 15, Jump 11, Jump 13, Local 2, Return, Local 4, Return, Local 5, Return")
	// Of one Case nothing is asked.
	becomes(t, "(match 3 %1 (ask @ Box r0) (row %4@0 %4))", "Local 1, Set 3, Jump 3, Local 3, Field 0, Set 4, Local 4, Return")
	becomes(t, "(match 3 %1 (ask @ Box (ask @0 Box (ask @0.0 Nil r0 Cons r1))) (row %2) (row %4))", "Local 1, Set 3, Local 3, Field 0, Field 0, Case 0 7, Jump 10, Jump 8, Local 2, Return, Local 4, Return")
	becomes(t, "(match 3 %1 (ask @ 7 r0) (row %2))", "Local 1, Set 3, Jump 3, Local 2, Return")
}

// P15.1: trees in one another: ahead the questions, then the Rest's tree, then those of the Cases.
func TestTreesInOneAnother(t *testing.T) {
	becomes(t, "(match 3 %1 (ask @ Cons (ask @1 Cons r0 else r1) else r2) (row %2) (row %4) (row %5))",
		"Local 1, Set 3, Local 3, Case 1 5, Jump 14, Local 3, Field 1, Case 1 9, Jump 12, Jump 10, Local 2, Return, Local 4, Return, Local 5, Return")
	becomes(t, "(match 3 %1 (ask @ Nil (ask @0 1 r0 2 r1 else r2) Cons (ask @1 Nil r1 Cons r2)) (row %2) (row %4) (row %5))",
		"Local 1, Set 3, Local 3, Case 0 9, Local 3, Field 1, Case 0 8, Jump 22, Jump 20, Local 3, Field 0, Case 1 16, Local 3, Field 0, Case 2 17, Jump 22, Jump 18, Jump 20, Local 2, Return, Local 4, Return, Local 5, Return")
	becomes(t, "(match 3 %1 (ask @ 1 (ask @0 1 r0 else r1) 2 (ask @1 2 r0 else r1) else (ask @2 3 r0 else r1)) (row %2) (row %4))",
		"Local 1, Set 3, Local 3, Case 1 11, Local 3, Case 2 16, Local 3, Field 2, Case 3 10, Jump 23, Jump 21, Local 3, Field 0, Case 1 15, Jump 23, Jump 21, Local 3, Field 1, Case 2 20, Jump 23, Jump 21, Local 2, Return, Local 4, Return")
}

// P15.1: matches in one another: in the value, and in rows.
func TestMatchesInOneAnother(t *testing.T) {
	becomes(t, "(match 3 (match 4 %1 (ask @ 7 r0 else r1) (row %2) (row %5)) (ask @ 8 r1 else r0) (row %6) (row %7))",
		"Local 1, Set 4, Local 4, Case 7 5, Jump 8, Jump 6, Local 2, Jump 9, Local 5, Set 3, Local 3, Case 8 13, Jump 14, Jump 16, Local 6, Return, Local 7, Return")
	becomes(t, "(match 3 %1 (ask @ 7 r0 else r1) (row (match 4 %2 r0 (row %5@1 (call %5 %5)))) (row (print (match 4 %2 (ask @ 8 r1 else r0) (row %6) (row %7)))))",
		"Local 1, Set 3, Local 3, Case 7 5, Jump 15, Jump 6, Local 2, Set 4, Jump 9, Local 4, Field 1, Set 5, Local 5, Local 5, Tail, Local 2, Set 4, Local 4, Case 8 20, Jump 21, Jump 23, Local 6, Jump 24, Local 7, Print, Return")
}

// P15.1: a Case of a constructor is by its tag, whatever its number, also where numbers stand among constructors.
func TestTagsOfCases(t *testing.T) {
	list := []api.Con{{Name: "x"}, {Name: "K", Tag: 65535}, {Name: "L", Tag: 7}, {Name: "", Tag: 9}}
	body := read("(match 0 1 r0 (row 1))")
	body.Tree = api.Tree{Cases: []api.Case{{Con: "K", Number: 3}, {Con: "L", Number: 70000}, {Number: 5}, {Con: "x", Number: -1}}, Rest: []api.Tree{{}}}
	c, at, e := gen.Code([]api.Fun{{Locals: 1, Body: body}}, list, 0)
	if got := listed(c.Funs[0].Code); e != api.OK || at != 0 || !strings.HasPrefix(got, "Int 0, Set 0, Local 0, Case 65535 11, Local 0, Case 7 12, Local 0, Case 5 13, Local 0, Case 0 14, Jump 15,") {
		t.Errorf("%s, %d, %v", got, at, e)
	}
}

// chain is so many trees in one another, each in a Case (or in the Rest, or in the last Case of two) of the one around it; the innermost one tells row 0, else it is row 1.
func chain(many int, where string) api.Tree {
	if many == 1 {
		return api.Tree{}
	}
	inner, other := chain(many-1, where), api.Tree{Row: 1}
	switch where {
	case "case":
		return api.Tree{Cases: []api.Case{{Number: many, Tree: inner}}, Rest: []api.Tree{other}}
	case "rest":
		return api.Tree{Cases: []api.Case{{Number: many, Tree: other}}, Rest: []api.Tree{inner}}
	case "last":
		return api.Tree{Cases: []api.Case{{Number: many, Tree: other}, {Con: "Nope", Tree: inner}}}
	}
	return api.Tree{Cases: []api.Case{{Con: "Nope", Tree: inner}}}
}

// P15.1: at most 60 trees in one another; behind that there is nothing, in a Case as in a Rest.
func TestSixtyTreesInOneAnother(t *testing.T) {
	for _, where := range []string{"case", "rest", "last", "only"} {
		for _, many := range []int{1, 2, 58, 59, 60, 61, 62, 100} {
			body := read("(match 0 1 r0 (row 2) (row 3))")
			body.Tree = chain(many, where)
			c, at, e := gen.Code([]api.Fun{{Locals: 1, Body: body}}, nil, 0)
			if e != api.OK || at != 0 {
				t.Errorf("%s %d: %d, %v", where, many, at, e)
				continue
			}
			// Each tree but the innermost one asks, and has a jump to row 1 beside it; the innermost one is a jump to row 0. Where that would be
			// the 61st, the 60th asks, but neither jump is there.
			want := 3*(many-1) + 1
			if many > 60 {
				want = 3*60 - 1
			}
			if where == "only" {
				want = 1
				if many > 60 {
					want = 0
				}
			}
			l := listed(c.Funs[0].Code)
			if got := len(c.Funs[0].Code) - 6; got != want || !strings.HasPrefix(l, "Int 0, Set 0, ") || !strings.HasSuffix(l, ", Int 1, Return, Int 2, Return") {
				t.Errorf("%s %d becomes %d, not %d: %.400s", where, many, got, want, l)
			}
		}
	}
}

// P15.1: where trees that would be the 61st in one another are left out, what stands behind them is next.
func TestWhatIsBehindSixtyTrees(t *testing.T) {
	body := read("(match 0 1 r0 (row 2) (row 3))")
	body.Tree = chain(61, "case")
	want := "Int 0, Set 0, "
	const row0 = 2 + 3*60 - 1
	for i := range 59 {
		want += "Local 0, Case " + strconv.Itoa(61-i) + " " + strconv.Itoa(2+3*i+3) + ", Jump " + strconv.Itoa(row0+2) + ", "
	}
	want += "Local 0, Case 2 " + strconv.Itoa(row0) + ", Int 1, Return, Int 2, Return"
	if c, at, e := gen.Code([]api.Fun{{Locals: 1, Body: body}}, nil, 0); e != api.OK || at != 0 || listed(c.Funs[0].Code) != want {
		t.Errorf("%s, %d, %v", told(c), at, e)
	}
	for many, want := range map[int]string{60: "Int 0, Set 0, Jump 5, Int 1, Return, Int 2, Return", 61: "Int 0, Set 0, Int 1, Return, Int 2, Return"} {
		s := "(match 0 1 " + strings.Repeat("(ask @ Box ", many-1) + "r1" + strings.Repeat(")", many-1) + " (row 2) (row 3))"
		if c, at, e := gen.Code([]api.Fun{{Locals: 1, Body: read(s)}}, cons(), 0); e != api.OK || at != 0 || listed(c.Funs[0].Code) != want {
			t.Errorf("%d: %s, %d, %v", many, told(c), at, e)
		}
	}
}

// P15.2: also where trees of a program are more than 60 in one another its code holds together.
func TestProgramsOfMoreThanSixtyTreesInOneAnother(t *testing.T) {
	boxes := func(many int, s string) string { return strings.Repeat("(Box ", many) + s + strings.Repeat(")", many) }
	for _, many := range []int{10, 18, 19, 24} {
		v, five := boxes(many, "1"), boxes(many, "5")
		f, r, is := compiled("type box a = Box of a; type t a = T of a, a, a, int; let v = "+v+"; do match T v v v 0 with | T "+five+" _ _ _ -> 0 | T _ "+five+" _ _ -> 1 | T _ _ "+five+" _ -> 2 | _ -> 3 end", false)
		deep, tree := 1, f[0].Body.Kids[1].Tree
		for len(tree.Cases) > 0 {
			if deep++; len(tree.Rest) > 0 {
				tree = tree.Rest[0]
			} else {
				tree = tree.Cases[0].Tree
			}
		}
		if want := 3*(many+1) + 2; !is || deep != want {
			t.Fatalf("%d trees in one another, not %d", deep, want)
		}
		if e := held(t, "boxes", f, r.Cons, len(r.Names)); e != api.OK {
			t.Errorf("%d: %v", many, e)
		}
	}
}

// P15.1: programs that are right, but too much, and some that just may be.
func TestProgramsThatAreTooMuch(t *testing.T) {
	for s, want := range map[string]int{
		"do match 65535 with | 65535 -> 1 | _ -> 2 end":                                        -1,
		"do match 1 with | 65536 -> 1 | _ -> 2 end":                                            0,
		"do fun x -> fun y -> match y with | 4611686018427387903 -> 1 | _ -> 2 end":            2,
		"let f = fun x -> x" + strings.Repeat("; let f = fun x -> f x", 40) + "; do f 1":       -1,
		"do fun x -> 1 " + strings.Repeat("+ 2 ", 200):                                         1,
		"do fun x -> 1 " + strings.Repeat("+ 2 ", 199):                                         -1,
		"do 1 " + strings.Repeat("+ (1 ", 37) + strings.Repeat(")", 37):                        -1,
		"do spawn (" + strings.Repeat("print \"\"; ", 30) + strings.Repeat("1 + ", 160) + "1)": 1,
	} {
		f, r, is := compiled(s, false)
		c, at, e := gen.Code(f, r.Cons, len(r.Names))
		if want < 0 && (e != api.OK || at != 0) || want >= 0 && (e != api.ErrMany || at != want || c.Funs != nil) || !is {
			t.Errorf("%s: %v, %d, %v", s, is, at, e)
		}
	}
}

// P15.1: a match without rows that is last is left by a Return.
func TestMatchesWithoutRows(t *testing.T) {
	deep := chain(61, "only")
	for _, s := range []string{"(match 0 (raise 1) r0)", "(print (match 0 (raise 1) r0))"} {
		wrong(t, s)
		body := read(s)
		m := &body
		if body.Kind == api.CorePrint {
			m = &body.Kids[0]
		}
		m.Tree = deep
		want := "Int 0, Raise, Set 0, Return"
		if m != &body {
			want = "Int 0, Raise, Set 0, Print, Return"
		}
		c, at, e := gen.Code([]api.Fun{{Locals: 1, Body: body}}, nil, 0)
		if e != api.OK || at != 0 || listed(c.Funs[0].Code) != want {
			t.Errorf("%s: %s, %d, %v", s, told(c), at, e)
		}
		m.Kids = []api.Core{read("1")}
		refuses(t, s, []api.Fun{{Locals: 1, Body: body}}, 0, 0, api.ErrArg)
	}
}
