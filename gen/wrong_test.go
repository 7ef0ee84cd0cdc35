package gen_test

import (
	"math"
	"slices"
	"strconv"
	"strings"
	"testing"

	"selvage/api"
	"selvage/gen"
	"selvage/verify"
)

// seqs is a core with so many others done ahead of it: two instructions more for each.
func seqs(many int, ahead, last string) string {
	return strings.Repeat("(seq "+ahead+" ", many) + last + strings.Repeat(")", many)
}

// prints is a core that is printed so many times: an instruction more for each.
func prints(many int, s string) string {
	return strings.Repeat("(print ", many) + s + strings.Repeat(")", many)
}

// long are bodies in which a print more is an instruction more, where # stands.
func long() []string {
	return []string{
		"#", "(call 1 #)", "(call (call 1 2) #)", seqs(100, "1", "#"), seqs(100, "(store 0 1)", "#"), seqs(130, "(store 0 1)", "(call 1 #)"), "(seq # " + seqs(80, "(seq 1 2)", "(call 1 2)") + ")", "(if 1 # 2)", "(if # (call 1 2) (call 3 4))", "(if 1 2 (call 1 #))", "(print (if 1 2 #))", "(let 0 # (call 1 2))",
		"(try 0 # 1)", "(try 0 1 #)", "(orelse # 1)", "(print (orelse 1 #))", "(atomically #)", "(match 0 # r0 (row 1))", "(match 0 1 r0 (row %1@0.0.0 %2@1 #) (row 2))", "(print (match 0 1 (ask @0.1.2.3 7 r0 Cons r1 else (ask @3.2 Nil r1 Cons r2)) (row %1@0.0.0 1) (row 2) (row #)))",
		"(match 0 # r0 (row %1@" + strings.Repeat("0.", 150) + "0 %2@ 1))", "(match 0 # (ask @" + strings.Repeat("0.", 70) + "0 5 r0 7 r1 else r0) (row 1) (row 2))", "(seq # (make 1 1 2 3 4))", "(seq \"a\" (+ 1 #))", "(fun 2 1 #)",
	}
}

// P15.1: ErrMany of a function that has more than 400 instructions.
func TestInstructionsThatMayBe(t *testing.T) {
	for _, s := range long() {
		length := func(many int) int {
			c, at, e := gen.Code(among(read(strings.Replace(s, "#", prints(many, "7"), 1))), cons(), fewLets)
			if e != api.OK || at != 0 {
				t.Errorf("%d in %.200s: %d, %v", many, s, at, e)
				return 0
			}
			return len(c.Funs[1].Code)
		}
		least := length(0)
		for _, many := range []int{1, 398 - least, 399 - least, 400 - least} {
			if length(many) != least+many {
				t.Errorf("%.200s: %d", s, many)
			}
		}
		for _, many := range []int{401 - least, 402 - least, 500} {
			refuses(t, s, among(read(strings.Replace(s, "#", prints(many, "7"), 1))), fewLets, 1, api.ErrMany)
		}
	}
}

// deep is a core in the last Kid of so many others, which each need a place more.
func deep(many int, around, s string) string {
	before, behind, _ := strings.Cut(around, "#")
	return strings.Repeat(before, many) + s + strings.Repeat(behind, many)
}

// P15.1: ErrMany of a function that needs more than 60.
func TestStackThatMayBe(t *testing.T) {
	for around, each := range map[string]int{"(+ 1 #)": 1, "(call %1 #)": 1, "(write 1 #)": 1, "(make 3 1 #)": 1, "(make 3 1 2 #)": 2, "(make 3 1 2 3 #)": 3, "(fun 3 1 2 #)": 2, "(+ 1 (let 0 2 #))": 1, "(make 3 1 2 3 (try 0 # 2))": 3, "(make 3 1 2 3 (try 0 2 #))": 3, "(^ 1 (orelse 1 #))": 1, "(+ 1 (match 0 # r0 (row 1)))": 1, "(+ 1 (match 0 1 r0 (row #)))": 1, "(+ 1 (seq (store 0 #) 1))": 1, "(+ 1 (if 1 # 2))": 1, "(+ 1 (if # 1 2))": 1} {
		for many := 60/each - 2; many <= 60/each+1; many++ {
			for _, inner := range []struct {
				s    string
				need int
			}{{"1", 1}, {"(+ 1 2)", 2}, {"(make 0 1 2 3)", 3}, {"(fun 3 1 2 3)", 3}, {"retry", 1}, {"(print 1)", 1}} {
				s := deep(many, around, inner.s)
				if need := many*each + inner.need; need > 60 {
					refuses(t, s, among(read(s)), fewLets, 1, api.ErrMany)
				} else {
					needs(t, need, s)
				}
			}
		}
	}
	// A closure that keeps as much as may be.
	for _, many := range []int{58, 59, 60, 61, 70} {
		f := []api.Fun{{Body: read("(fun 1" + strings.Repeat(" 1", many) + ")")}, retry(many)}
		if many > 60 {
			refuses(t, "a closure", f, 0, 0, api.ErrMany)
		} else if many > 59 {
			refuses(t, "a closure", f, 0, 0, api.ErrArg)
		} else if c, at, e := gen.Code(f, nil, 0); e != api.OK || at != 0 || c.Funs[0].Stack != many {
			t.Errorf("%d: %s, %d, %v", many, told(c), at, e)
		}
	}
}

// P15.1: ErrMany of a function that has a Case of a number above 65535.
func TestCasesThatMayBe(t *testing.T) {
	for n, want := range map[int]api.Errno{0: api.OK, 65535: api.OK, 65536: api.ErrMany, 1 << 40: api.ErrMany, math.MaxInt: api.ErrMany, -1: api.ErrArg, -65536: api.ErrArg, math.MinInt: api.ErrArg} {
		number := strconv.Itoa(n)
		for _, s := range []string{"(match 0 1 (ask @ " + number + " r0 else r1) (row 1) (row 2))", "(match 0 1 (ask @ 1 r0 " + number + " r0 2 r1) (row 1) (row 2))", "(match 0 1 (ask @ Nil (ask @0 " + number + " r0 else r1) Cons r1) (row 1) (row 2))", "(print (match 0 1 (ask @ 7 r0 else (ask @0 " + number + " r0 else r1)) (row 1) (row 2)))"} {
			if want == api.OK {
				if c, at, e := gen.Code(among(read(s)), cons(), fewLets); e != want || at != 0 || !strings.Contains(listed(c.Funs[1].Code), "Case "+number+" ") {
					t.Errorf("%s: %s, %d, %v", s, told(c), at, e)
				}
			} else if want == api.ErrMany {
				refuses(t, s, among(read(s)), fewLets, 1, want)
			} else {
				wrong(t, s)
			}
		}
		// What is not asked for may be any.
		becomes(t, "(match 0 1 (ask @ 7 r0 "+number+" r1) (row 1) (row 2))", "Int 0, Set 0, Local 0, Case 7 5, Jump 8, Jump 6, Int 0, Return, Int 1, Return")
		becomes(t, "(match 0 1 (ask @ "+number+" r0) (row 1))", "Int 0, Set 0, Jump 3, Int 0, Return")
		body := read("(match 0 1 r0 (row 1))")
		body.Tree = chain(61, "only")
		inner := &body.Tree
		for len(inner.Cases) > 0 {
			inner = &inner.Cases[0].Tree
		}
		*inner = api.Tree{Cases: []api.Case{{Number: n}}, Rest: []api.Tree{{}}}
		if c, at, e := gen.Code(among(body), nil, 0); e != api.OK || at != 0 || listed(c.Funs[1].Code) != "Int 0, Set 0, Int 0, Return" {
			t.Errorf("%d: %s, %d, %v", n, told(c), at, e)
		}
		// A constructor's tag is a Case's number, too.
		f := []api.Fun{{Locals: 1, Body: read("(match 0 1 (ask @ K r0 else r1) (row 1) (row 2))")}}
		number1 := []api.Con{{Name: "K", Of: "k", Tag: n}}
		if c, at, e := gen.Code(f, number1, 0); e != want || at != 0 || e == api.OK && c.Funs[0].Code[3].A != n {
			t.Errorf("tag %d: %s, %d, %v", n, told(c), at, e)
		}
	}
}

// numbered is a body with so many numbers, from one on, or texts of them.
func numbered(from, many int, text bool) string {
	s := "retry"
	for n := from + many - 1; n >= from; n-- {
		is := strconv.Itoa(n)
		if text {
			is = "\"" + is + "\""
		}
		s = "(seq " + is + " " + s + ")"
	}
	return s
}

// P15.1: ErrMany of the function by which there are more than 120 constants, or texts.
func TestConstantsThatMayBe(t *testing.T) {
	for _, text := range []bool{false, true} {
		bodies := func(l ...string) []api.Fun {
			var f []api.Fun
			for _, s := range l {
				f = append(f, api.Fun{Body: read(s)})
			}
			return f
		}
		fine := [][]api.Fun{bodies(numbered(0, 120, text)), bodies(numbered(0, 60, text), numbered(30, 90, text), numbered(0, 120, text)), bodies(numbered(0, 120, text), numbered(0, 120, !text)), bodies(numbered(0, 119, text), "retry", numbered(119, 1, text))}
		for i, f := range fine {
			c, at, e := gen.Code(f, nil, 0)
			if many := max(len(c.Ints), len(c.Texts)); e != api.OK || at != 0 || many != 120 {
				t.Errorf("%d: %d, %v, %d", i, at, e, many)
			}
		}
		refuses(t, "121", bodies(numbered(0, 121, text)), 0, 0, api.ErrMany)
		refuses(t, "121 behind", bodies("retry", numbered(0, 121, text)), 0, 1, api.ErrMany)
		refuses(t, "60 and 61", bodies(numbered(0, 60, text), numbered(60, 61, text)), 0, 1, api.ErrMany)
		refuses(t, "120 and 1", bodies(numbered(0, 120, text), numbered(0, 120, text), numbered(120, 1, text), numbered(0, 130, text)), 0, 2, api.ErrMany)
		refuses(t, "120 of both and 1", bodies(numbered(0, 120, text), numbered(0, 120, !text), numbered(40, 80, text), numbered(5, 116, text)), 0, 3, api.ErrMany)
	}
}

// R2: what is too much is told ahead of what is wrong, and of more functions the first one.
func TestWhatIsToldFirst(t *testing.T) {
	much := []string{prints(400, "1"), deep(60, "(+ 1 #)", "1"), "(match 0 1 (ask @ 65536 r0 else r1) (row 1) (row 2))", numbered(0, 121, false), numbered(0, 121, true)}
	bad := []string{"%70", "(print)", "(store 0 1)", "(call 1)", "4611686018427387904", "\"" + strings.Repeat("a", 61) + "\"", "(match 0 1 r7 (row 1))", "(? 1 2)"}
	fun := func(s string) api.Fun { return api.Fun{Locals: 1, Body: read(s)} }
	for _, m := range much {
		for _, b := range bad {
			refuses(t, b+" and "+m, []api.Fun{fun(b), fun(m)}, 0, 1, api.ErrMany)
			refuses(t, m+" and "+b, []api.Fun{fun(m), fun(b)}, 0, 0, api.ErrMany)
			refuses(t, "both of "+m+" and "+b, []api.Fun{retry(0), fun("(seq " + b + " (seq " + m + " " + b + "))")}, 0, 1, api.ErrMany)
			refuses(t, b, []api.Fun{retry(0), fun(b)}, 0, 0, api.ErrArg)
		}
		for _, n := range much {
			refuses(t, m+" and "+n, []api.Fun{retry(0), fun(m), fun(n)}, -5, 1, api.ErrMany)
		}
		refuses(t, m, []api.Fun{{Kept: -1, Locals: 900, Body: read(m)}}, 0, 0, api.ErrMany)
	}
	f := make([]api.Fun, 200)
	for i := range f {
		f[i] = retry(0)
	}
	refuses(t, "200 functions", f, 0, 0, api.ErrArg)
	for _, number := range []int{119, 120, 121, 150, 199} {
		f[number] = fun(much[0])
		refuses(t, "200 functions", f, 0, number, api.ErrMany)
		f[number] = retry(0)
	}
}

// P15.1: ErrArg, if there are no functions, or more than may be, or lets, or if one keeps or has too much.
func TestCodesThatMayNotBe(t *testing.T) {
	refuses(t, "none", nil, 0, 0, api.ErrArg)
	refuses(t, "none", []api.Fun{}, 5, 0, api.ErrArg)
	refuses(t, "zero", []api.Fun{{}}, 0, 0, api.ErrArg)
	var f []api.Fun
	for many := 1; many < 125; many++ {
		f = append(f, api.Fun{Body: read("1")})
		if many > 120 {
			refuses(t, strconv.Itoa(many), f, 0, 0, api.ErrArg)
		} else if c, at, e := gen.Code(f, nil, 0); e != api.OK || at != 0 || len(c.Funs) != many {
			t.Errorf("%d: %d, %v", many, at, e)
		}
	}
	for _, lets := range []int{0, 1, 59, 60, 61, -1, 1 << 20, math.MinInt, math.MaxInt} {
		if lets < 0 || lets > 60 {
			refuses(t, "lets", f[:1], lets, 0, api.ErrArg)
		} else if c, at, e := gen.Code(f[:1], nil, lets); e != api.OK || at != 0 || c.Lets != lets {
			t.Errorf("%d: %s, %d, %v", lets, told(c), at, e)
		}
		for _, is := range []api.Fun{{Kept: lets}, {Locals: lets}} {
			is.Body = read("\"a\"")
			if lets < 0 || lets > 60 || is.Kept > 59 {
				refuses(t, "a function", []api.Fun{is}, 0, 0, api.ErrArg)
			} else if c, at, e := gen.Code([]api.Fun{is}, nil, 0); e != api.OK || at != 0 || c.Funs[0].Kept != is.Kept || c.Funs[0].Locals != is.Locals {
				t.Errorf("%s, %d, %v", told(c), at, e)
			}
		}
	}
}

// P15.1: ErrArg of what comes to code that does not hold together.
func TestCodesThatDoNotHoldTogether(t *testing.T) {
	wrong(t, "%9", "%-1", "^4", "^-1", "$5", "$-1", "%65536", "4611686018427387904", "-4611686018427387905", "9223372036854775807", "\""+strings.Repeat("a", 61)+"\"",
		"(make 200 1)", "(make -1 1)", "(make 1)", "(make 1 1 2 3 4 5)", "(fun 0)", "(fun 4)", "(fun -1)", "(fun 65536)", "(fun 2)", "(fun 2 1)", "(fun 2 1 2 3)", "(fun 1 1 2 3)",
		"(let 9 1 2)", "(let -1 1 2)", "(try 9 1 2)", "(try -1 1 2)", "(match 9 1 r0 (row 1))", "(match -1 1 r0 (row 1))", "(seq (store 5 1) 2)", "(seq (store -1 1) 2)",
		"(match 0 1 r1 (row 1))", "(match 0 1 r-1 (row 1))", "(match 0 1 r2 (row 1) (row 2))", "(match 0 1 r0)", "(match 0 1 (ask @ 7 r0 else r1) (row 1))", "(match 0 1 (ask @ 7 r1 else r0) (row 1))",
		"(match 0 1 (ask @4 7 r0 else r0) (row 1))", "(match 0 1 (ask @-1 7 r0 else r0) (row 1))", "(match 0 1 r0 (row %1@4 1))", "(match 0 1 r0 (row %9@ 1))", "(match 0 1 r0 (row %1@0.-1 1))",
		"(match 0 1 (ask @ Nope r0 else r0) (row 1))", "(match 0 1 (ask @ nil r0 Nil r0 else r0) (row 1))", "(match 0 1 (ask @ 7 r0 else (ask @ Nope r0 Nil r0)) (row 1))",
		"(atomically (atomically 1))", "(atomically (orelse 1 (try 0 2 (atomically 3))))", "(atomically (let 0 1 (print (atomically 3))))")
	fun := []api.Fun{{Locals: 1, Body: read("self")}}
	refuses(t, "self in function 0", fun, 0, 0, api.ErrArg)
	fun[0].Body = read("(fun 0)")
	refuses(t, "function 0 as a closure", fun, 0, 0, api.ErrArg)
	fun[0].Body = read("%0")
	if c, at, e := gen.Code(fun, nil, 0); e != api.OK || at != 0 {
		t.Errorf("%s, %d, %v", told(c), at, e)
	}
}

// P15.1: what nothing reaches may be any code that may be.
func TestWhatNothingReaches(t *testing.T) {
	becomes(t, "(seq (raise 1) %70)", "Int 0, Raise, Pop, Local 70, Return")
	becomes(t, "(seq retry (make 7000 1 2 3 4 5))", "Retry, Pop, Int 0, Int 1, Int 2, Int 3, Int 4, Make 7000 5, Return")
	becomes(t, "(let 500 retry (seq (store 700 %900) (make 5)))", "Retry, Set 500, Local 900, Store 700, Make 5 0, Return")
	becomes(t, "(atomically (seq retry (atomically ^60)))", "Begin, Retry, Pop, Begin, Kept 60, Commit, Commit, Return")
	wrong(t, "(seq retry %65536)", "(seq retry %-1)", "(seq retry (print))", "(seq retry (? 1 2))", "(seq retry (match 0 1 r1 (row 2)))", "(seq retry (match 0 1 (ask @ Nope r0 else r0) (row 2)))", "(seq retry (store 0 1))", "(seq retry 4611686018427387904)")
}

// P15.1: of what is no core there comes no code: of no kind, with too few or too many Kids, of no operation, or a store that does not stand ahead in a seq.
func TestWhatIsNoCore(t *testing.T) {
	kids := map[int]int{
		api.CoreInt: 0, api.CoreText: 0, api.CoreLocal: 0, api.CoreKept: 0, api.CoreSelf: 0, api.CoreName: 0, api.CoreCall: 2, api.CoreLet: 2, api.CoreIf: 3, api.CoreTry: 2, api.CoreOp: 2, api.CoreSeq: 2, api.CorePrint: 1,
		api.CoreRaise: 1, api.CoreSpawn: 1, api.CoreAtom: 1, api.CoreRetry: 0, api.CoreElse: 2, api.CoreTvar: 1, api.CoreRead: 1, api.CoreWrite: 2,
	}
	one := read("1")
	arounds := []string{"#", "(seq # 1)", "(seq 1 #)", "(print #)", "(let 0 # 1)", "(let 0 1 #)", "(if # 1 2)", "(if 1 # 2)", "(+ 1 #)", "(try 0 # 1)", "(match 0 # r0 (row 1))", "(match 0 1 r0 (row #))", "(seq (store 0 #) 1)", "(seq (raise 1) #)"}
	put := func(around string, c api.Core) api.Core {
		var goes func(api.Core) api.Core
		goes = func(in api.Core) api.Core {
			if in.Kind == api.CoreText && in.Text == "#" {
				return c
			}
			for i, k := range in.Kids {
				in.Kids[i] = goes(k)
			}
			return in
		}
		return goes(read(strings.Replace(around, "#", "\"#\"", 1)))
	}
	for kind := -2; kind < 30; kind++ {
		for many := range 6 {
			c := api.Core{Kind: kind, Text: "+"}
			for range many {
				c.Kids = append(c.Kids, one)
			}
			fine, known := kids[kind]
			mayBe := known && many == fine || kind == api.CoreMake && many > 0 && many < 5 || kind == api.CoreMatch && many > 1
			if kind == api.CoreFun {
				c.Number, mayBe = 2, many == 2
			}
			for _, around := range arounds {
				if kind == api.CoreStore && many == 1 && around == "(seq # 1)" {
					continue
				}
				if around == "(seq (raise 1) #)" && (kind == api.CoreMake || kind == api.CoreFun) {
					continue
				}
				f := among(put(around, c))
				if !mayBe {
					refuses(t, around+" "+strconv.Itoa(kind)+" of "+strconv.Itoa(many), f, fewLets, 0, api.ErrArg)
				} else if c, at, e := gen.Code(f, cons(), fewLets); e != api.OK || at != 0 || verify.Code(c) != api.OK {
					t.Errorf("%s %d of %d: %d, %v", around, kind, many, at, e)
				}
			}
		}
	}
	for _, sign := range []string{"", "+-", "+ ", "==", "?", "^^", "<=", ">", "\xff", "-*"} {
		for _, around := range arounds {
			c := api.Core{Kind: api.CoreOp, Text: sign, Kids: []api.Core{one, one}}
			refuses(t, around+" "+sign, among(put(around, c)), fewLets, 0, api.ErrArg)
		}
	}
	for _, kind := range []int{math.MinInt, math.MaxInt, 1 << 40} {
		refuses(t, strconv.Itoa(kind), among(api.Core{Kind: kind}), fewLets, 0, api.ErrArg)
	}
}

// R2: what a core needs is told of what is none, too, so ErrMany comes ahead.
func TestWhatIsNoCoreNeedsMuch(t *testing.T) {
	parted := []int{api.CoreLet, api.CoreSeq, api.CoreIf, api.CoreTry, api.CoreElse, api.CoreAtom}
	for kind := -2; kind < 30; kind++ {
		if kind == api.CoreMatch {
			continue
		}
		for _, many := range []int{10, 60, 61, 100} {
			c := api.Core{Kind: kind, Text: "+", Kids: make([]api.Core, many)}
			for i := range c.Kids {
				c.Kids[i] = read("1")
			}
			what := strconv.Itoa(many) + " in " + strconv.Itoa(kind)
			if many > 60 && !slices.Contains(parted, kind) {
				refuses(t, what, among(c), fewLets, 1, api.ErrMany)
				continue
			}
			refuses(t, what, among(c), fewLets, 0, api.ErrArg)
			// The last one is a sum, which needs one more.
			c.Kids[many-1] = read("(+ 1 2)")
			if many == 60 && !slices.Contains(parted, kind) {
				refuses(t, what, among(c), fewLets, 1, api.ErrMany)
			} else {
				refuses(t, what, among(c), fewLets, 0, api.ErrArg)
			}
		}
	}
}

// R2: likewise of what parts its Kids, but has too few or too many: it needs the most that one of them does.
func TestWhatIsNoCoreNeedsTheMost(t *testing.T) {
	for kind, many := range map[int]int{api.CoreLet: 3, api.CoreSeq: 3, api.CoreIf: 2, api.CoreTry: 3, api.CoreElse: 3, api.CoreAtom: 3} {
		for at := range many {
			for plus, want := range map[int]api.Errno{59: api.ErrArg, 60: api.ErrMany} {
				c := api.Core{Kind: kind}
				for range many {
					c.Kids = append(c.Kids, read("1"))
				}
				c.Kids[at] = read(deep(plus, "(+ 1 #)", "1"))
				number := 0
				if want == api.ErrMany {
					number = 1
				}
				refuses(t, strconv.Itoa(kind), among(c), fewLets, number, want)
			}
		}
	}
}

// Fields that are not a core's do not count; nor do rows' binds that there are not.
func TestFieldsThatDoNotCount(t *testing.T) {
	var goes func(c api.Core) api.Core
	goes = func(c api.Core) api.Core {
		if c.Kind != api.CoreText && c.Kind != api.CoreOp {
			c.Text = "other"
		}
		switch c.Kind {
		case api.CoreInt, api.CoreLocal, api.CoreKept, api.CoreName, api.CoreMake, api.CoreFun, api.CoreLet, api.CoreMatch, api.CoreTry, api.CoreStore:
		default:
			c.Number = 7
		}
		if c.Kind != api.CoreMatch {
			c.Tree, c.Binds = chain(5, "rest"), [][]api.Bind{{{Local: 1}}}
		} else {
			c.Binds = append(c.Binds, []api.Bind{{Local: 70}})
		}
		for i, k := range c.Kids {
			c.Kids[i] = goes(k)
		}
		return c
	}
	for _, s := range everything() {
		want, _, e := gen.Code(among(read(s)), cons(), fewLets)
		if e != api.OK {
			t.Fatalf("%s: %v", s, e)
		}
		if c, at, e := gen.Code(among(goes(read(s))), cons(), fewLets); e != api.OK || at != 0 || told(c) != told(want) {
			t.Errorf("%s: %s, %d, %v", s, told(c), at, e)
		}
	}
	body := read("(match 0 1 (ask @ 7 r0 else r1) (row %1@ 2) (row 3))")
	body.Binds = body.Binds[:1]
	want, _, _ := gen.Code(among(read("(match 0 1 (ask @ 7 r0 else r1) (row %1@ 2) (row 3))")), nil, 0)
	if c, at, e := gen.Code(among(body), nil, 0); e != api.OK || at != 0 || told(c) != told(want) {
		t.Errorf("%s, %d, %v", told(c), at, e)
	}
}

// everything are bodies with each kind of core among them, and each kind of tree.
func everything() []string {
	return []string{
		"(if (< %0 ^1) (call self $1) (make 3 1 \"a\" (fun 2 %1 7)))", "(try 2 (raise (let 1 5 (- %1 1))) (seq (print (^ \"a\" \"b\")) (spawn (fun 3 %2 %2 %2))))", "(seq (store 0 (tvar 1)) (seq (store 1 (fun 2 1 2)) (atomically (orelse (seq (write $0 (+ (read $0) 1)) retry) (match 3 (read $0) r0 (row %4@ %4))))))",
		"(match 0 (make 1 1 0) (ask @ Nil r0 Cons (ask @1 Nil r1 Cons (ask @0 5 r2 7 r3 else r2))) (row 1) (row %1@0 %1) (row %1@1.0 (call %1 %1)) (row %1@ %2@0.0.0.0 (+ %1 %2)))", "(print (match 0 1 (ask @ 5 r1 else r0) (row (if 1 2 3)) (row (try 1 2 3))))",
		"(+ 1 (call %1 (raise (read %2))))", "(+ (* 1 2) (/ (% 3 4) (= 5 (match 0 (orelse 1 2) r1 (row 7) (row 8)))))", "(seq (match 1 1 (ask @ 1 r0 2 r1 3 r2 else (ask @1 9 r2 else r0)) (row 5) (row 6) (row 7)) (match 1 1 (ask @ Box (ask @0 A r0 B r1 C r0)) (row 5) (row (seq (store 3 6) (call 8 9)))))",
	}
}
