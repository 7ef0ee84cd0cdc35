package verify_test

import (
	"fmt"
	"math"
	"slices"
	"strings"
	"testing"

	"selvage/api"
	"selvage/verify"
)

// in is an instruction; its operands are A and B.
func in(op int, operands ...int) api.Instr {
	i := api.Instr{Op: op}
	for at, n := range operands {
		if at == 0 {
			i.A = n
		} else {
			i.B = n
		}
	}
	return i
}

// many is a list of a thing so many times.
func many[T any](n int, thing T) []T {
	l := make([]T, n)
	for i := range l {
		l[i] = thing
	}
	return l
}

// put is so many things put on the stack.
func put(n int) []api.Instr { return many(n, in(api.OpInt)) }

// plus is instructions one behind the other.
func plus(lists ...[]api.Instr) []api.Instr { return slices.Concat(lists...) }

// of are the instructions themselves.
func of(l ...api.Instr) []api.Instr { return l }

// ret and stay end a function: a thing is returned, or nothing goes on.
func ret() api.Instr  { return in(api.OpReturn) }
func stay() api.Instr { return in(api.OpRetry) }

// fine is what a function that holds together consists of.
func fine() []api.Instr { return of(in(api.OpInt), ret()) }

// whole is a code of three functions that hold together, with 5 constants, 6 texts, 7 lets; each function keeps and has locals of its own number.
func whole() api.Code {
	return api.Code{Lets: 7, Ints: make([]int, 5), Texts: make([]string, 6), Funs: []api.Body{
		{Kept: 2, Locals: 3, Stack: 60, Code: fine()},
		{Kept: 0, Locals: 9, Stack: 60, Code: fine()},
		{Kept: 4, Locals: 8, Stack: 60, Code: fine()},
	}}
}

// with is the whole code, one of whose functions consists of other instructions.
func with(f int, l []api.Instr) api.Code {
	c := whole()
	c.Funs[f].Code = l
	return c
}

// holds holds that a code holds together, and which depths a function has.
func holds(t *testing.T, what string, c api.Code, f int, want ...int) {
	t.Helper()
	if e := verify.Code(c); e != api.OK {
		t.Errorf("%s: %v, of %v", what, e, c.Funs[f].Code)
	}
	if d := verify.Depths(c, f); !slices.Equal(d, want) {
		t.Errorf("%s: %v, not %v, of %v", what, d, want, c.Funs[f].Code)
	}
}

// wrong holds that a code does not hold together for a function's sake.
func wrong(t *testing.T, what string, c api.Code, f int) {
	t.Helper()
	if e := verify.Code(c); e != api.ErrCode {
		t.Errorf("%s: %v, of %v", what, e, c.Funs[f].Code)
	}
	if d := verify.Depths(c, f); d != nil {
		t.Errorf("%s: %v, of %v", what, d, c.Funs[f].Code)
	}
}

// is holds that a function's instructions hold together, or not.
func is(t *testing.T, ok bool, what string, c api.Code, f int, want ...int) {
	t.Helper()
	if ok {
		holds(t, what, c, f, want...)
	} else {
		wrong(t, what, c, f)
	}
}

// The chapter's examples.
func TestTheExamples(t *testing.T) {
	holds(t, "Int 0, Return", with(0, of(in(api.OpInt, 0), ret())), 0, 0, 1)
	wrong(t, "Pop", with(0, of(in(api.OpPop))), 0)
	holds(t, "Jump 0", with(0, of(in(api.OpJump, 0))), 0, 0)
	holds(t, "Try 2, Jump 1, Return", with(0, of(in(api.OpTry, 2), in(api.OpJump, 1), ret())), 0, 0, 0, 1)
}

// P14.1: what A must be of the Ops that have but one operand that tells no instruction.
func TestOperands(t *testing.T) {
	for f, body := range whole().Funs {
		for _, x := range []struct {
			what                    string
			op, below, depth, after int
		}{
			{what: "Int", op: api.OpInt, below: 5, after: 1},
			{what: "Text", op: api.OpText, below: 6, after: 1},
			{what: "Local", op: api.OpLocal, below: body.Locals, after: 1},
			{what: "Kept", op: api.OpKept, below: body.Kept, after: 1},
			{what: "Name", op: api.OpName, below: 7, after: 1},
			{what: "Set", op: api.OpSet, below: body.Locals, depth: 1},
			{what: "Store", op: api.OpStore, below: 7, depth: 1},
			{what: "Field", op: api.OpField, below: 4, depth: 1, after: 1},
			{what: "Sum", op: api.OpSum, below: 7, depth: 2, after: 1},
		} {
			for _, a := range []int{0, 1, 2, 3, 4, 5, 6, 7, 8, 9, 10, 60, 255, 256, 65535} {
				l := plus(put(x.depth), of(in(x.op, a), stay()))
				is(t, a < x.below, fmt.Sprint(x.what, " ", a, " in ", f), with(f, l), f, append(counted(x.depth+1), x.after)...)
			}
		}
	}
}

// P14.1: of nothing there is no place.
func TestOperandsOfNothing(t *testing.T) {
	c := api.Code{Funs: []api.Body{{Stack: 3}, {Stack: 3}}}
	for _, i := range of(in(api.OpInt), in(api.OpText), in(api.OpLocal), in(api.OpKept), in(api.OpName)) {
		c.Funs[0].Code, c.Funs[1].Code = of(stay()), of(i, stay())
		wrong(t, "nothing to put", c, 1)
	}
	for _, i := range of(in(api.OpSet), in(api.OpStore)) {
		c.Funs[1].Code = of(in(api.OpSelf), i, stay())
		wrong(t, "nowhere to put it", c, 1)
	}
}

// P14.1: Self, Make and Fun.
func TestSelfMakeFun(t *testing.T) {
	for f := range 3 {
		is(t, f > 0, "Self", with(f, of(in(api.OpSelf), ret())), f, 0, 1)
		for _, a := range []int{0, 1, 198, 199, 200, 201, 255, 65535} {
			for b := range 7 {
				l := plus(put(6), of(in(api.OpMake, a, b), stay()))
				is(t, a <= 199 && b >= 1 && b <= 4, "Make", with(f, l), f, 0, 1, 2, 3, 4, 5, 6, 7-b)
			}
			wrong(t, "Make", with(f, plus(put(6), of(in(api.OpMake, a, 65535), stay()))), f)
		}
		for a := range 5 {
			for b := range 7 {
				l := plus(put(6), of(in(api.OpFun, a, b), stay()))
				is(t, a == 1 && b == 0 || a == 2 && b == 4, "Fun", with(f, l), f, 0, 1, 2, 3, 4, 5, 6, 7-b)
			}
		}
		wrong(t, "Fun", with(f, plus(put(6), of(in(api.OpFun, 65535, 0), stay()))), f)
	}
	c := whole()
	c.Funs[2].Kept = 59
	for b := range 62 {
		c.Funs[0].Code = plus(put(60), of(in(api.OpFun, 2, b), in(api.OpPop), stay()))
		if is := verify.Code(c) == api.OK; is != (b == 59) {
			t.Errorf("Fun 2 %d: %v", b, is)
		}
	}
	alone := api.Code{Ints: []int{1}, Funs: []api.Body{{Stack: 3, Code: of(in(api.OpFun), stay())}}}
	wrong(t, "no function but 0", alone, 0)
}

// moves are all Ops that go on to the next instruction, with operands that are right in each function of the whole code, and how many things they take and put.
func moves() []struct {
	i           api.Instr
	takes, puts int
} {
	return []struct {
		i           api.Instr
		takes, puts int
	}{
		{in(api.OpInt, 4), 0, 1}, {in(api.OpText, 5), 0, 1}, {in(api.OpLocal, 2), 0, 1}, {in(api.OpKept, 1), 0, 1}, {in(api.OpSelf), 0, 1}, {in(api.OpName, 6), 0, 1},
		{in(api.OpSet, 2), 1, 0}, {in(api.OpStore, 6), 1, 0}, {in(api.OpPop), 1, 0},
		{in(api.OpMake, 9, 1), 1, 1}, {in(api.OpMake, 9, 2), 2, 1}, {in(api.OpMake, 9, 3), 3, 1}, {in(api.OpMake, 9, 4), 4, 1},
		{in(api.OpFun, 1, 0), 0, 1}, {in(api.OpFun, 2, 4), 4, 1}, {in(api.OpField, 3), 1, 1},
		{in(api.OpCall), 2, 1}, {in(api.OpSum, 6), 2, 1}, {in(api.OpJoin), 2, 1}, {in(api.OpWrite), 2, 1},
		{in(api.OpPrint), 1, 1}, {in(api.OpSpawn), 1, 1}, {in(api.OpTvar), 1, 1}, {in(api.OpRead), 1, 1},
		{in(api.OpBegin), 0, 0},
	}
}

// P14.1, P14.2: what an Op takes must be above the base; what it leaves is as the chapter says.
func TestTakesAndPuts(t *testing.T) {
	for _, m := range moves() {
		for _, mark := range []int{0, api.OpTry, api.OpElse, api.OpBegin} {
			if mark == m.i.Op {
				continue
			}
			for beneath := range 4 {
				for above := range 7 {
					l := put(beneath)
					depth := counted(beneath + 1)
					if mark > 0 { // what is beneath the mark is not to be had
						l = append(l, in(mark, 0))
						depth = append(depth, beneath)
					}
					for d := range above {
						l = append(l, in(api.OpInt))
						depth = append(depth, beneath+d+1)
					}
					l = append(l, m.i, stay())
					depth = append(depth, beneath+above-m.takes+m.puts)
					free := above
					if mark == 0 {
						free += beneath
					}
					l, depth = catch(l, depth, mark, beneath)
					c := with(2, l)
					c.Funs[2].Kept = 4
					is(t, free >= m.takes, fmt.Sprint(m.i, " on ", beneath, ", mark ", mark, ", on ", above), c, 2, depth...)
				}
			}
		}
	}
}

// counted are the numbers from 0 on, so many.
func counted(n int) []int {
	l := make([]int, n)
	for i := range l {
		l[i] = i
	}
	return l
}

// catch puts, behind all, an instruction to which the mark's Op goes when it doesn't go on.
func catch(l []api.Instr, depth []int, mark, beneath int) ([]api.Instr, []int) {
	if mark == api.OpTry || mark == api.OpElse {
		l[beneath].A = len(l)
		l = append(l, stay())
		if mark == api.OpTry {
			beneath++
		}
		depth = append(depth, beneath)
	}
	return l, depth
}

// P14.1: what goes nowhere takes what it takes, too; Tail and Return want no marks.
func TestEnds(t *testing.T) {
	for op, takes := range map[int]int{api.OpTail: 2, api.OpReturn: 1, api.OpRaise: 1, api.OpRetry: 0} {
		leaves := op == api.OpTail || op == api.OpReturn
		for n := range 5 {
			l := append(put(n), in(op), in(api.OpPop)) // nothing goes to what is behind
			is(t, n >= takes, fmt.Sprint(op, " on ", n), with(1, l), 1, append(counted(n+1), -1)...)
			is(t, n >= takes, fmt.Sprint(op, " on ", n, " at the end"), with(1, l[:n+1]), 1, counted(n+1)...)
			for _, mark := range []int{api.OpTry, api.OpElse, api.OpBegin} {
				for beneath := range 3 {
					l := plus(put(beneath), of(in(mark, 0)), put(n), of(in(op)))
					depth := append(counted(beneath+1), counted(beneath + n + 1)[beneath:]...)
					l, depth = catch(l, depth, mark, beneath)
					is(t, n >= takes && !leaves, fmt.Sprint(op, " on ", n, " behind ", mark), with(1, l), 1, depth...)
				}
			}
		}
	}
}

// P14.1, P14.2: Jump, False and Case: where they go, and with what.
func TestJumps(t *testing.T) {
	for _, x := range []struct {
		i     api.Instr
		takes int
		next  bool
	}{{in(api.OpJump), 0, false}, {in(api.OpFalse), 1, true}, {in(api.OpCase, 0), 1, true}, {in(api.OpCase, 65535), 1, true}} {
		for n := range 3 {
			// The instructions: n things, the jump, five things that stay.
			for to := range n + 9 {
				i := x.i
				if i.Op == api.OpCase {
					i.B = to
				} else {
					i.A = to
				}
				l := plus(put(n), of(i), many(5, stay()))
				depth := append(counted(n+1), -1, -1, -1, -1, -1)
				after := n - x.takes
				ok := n >= x.takes && to < len(l)
				if x.next {
					depth[n+1] = after
				}
				if to > n && to < len(l) {
					depth[to] = after
				}
				if to <= n && to != after { // it is come to there with another depth
					ok = false
				}
				is(t, ok, fmt.Sprint(i, " on ", n), with(0, l), 0, depth...)
			}
		}
		far := x.i
		far.A, far.B = 65535, 0
		if x.i.Op == api.OpCase {
			far.A, far.B = 0, 65535
		}
		wrong(t, "to where nothing is", with(0, of(in(api.OpInt), far, stay())), 0)
	}
}

// P14.1: nothing goes behind the last instruction.
func TestBehindTheLast(t *testing.T) {
	for _, m := range moves() {
		wrong(t, "the end", with(2, append(put(m.takes), m.i)), 2)
		holds(t, "not the end", with(2, append(put(m.takes), m.i, stay())), 2, append(counted(m.takes+1), m.puts)...)
	}
	for _, op := range []int{api.OpTry, api.OpElse} {
		wrong(t, "the end", with(2, of(in(api.OpInt), in(api.OpJump, 3), stay(), in(op, 2))), 2)
	}
	for _, i := range of(in(api.OpFalse, 2), in(api.OpCase, 0, 2)) {
		wrong(t, "the end", with(2, of(in(api.OpInt), in(api.OpJump, 3), stay(), i)), 2)
		holds(t, "not the end", with(2, of(in(api.OpInt), in(api.OpJump, 3), stay(), i, stay())), 2, 0, 1, 0, 1, 0)
	}
	for begin, end := range map[api.Instr]int{in(api.OpTry, 2): api.OpDone, in(api.OpBegin): api.OpCommit, in(api.OpElse, 2): api.OpJoined} {
		l := of(begin, in(api.OpJump, 3), stay(), in(end))
		wrong(t, "the end", with(2, l), 2)
		if c := with(2, append(l, stay())); verify.Code(c) != api.OK {
			t.Errorf("%v is wrong", c.Funs[2].Code)
		}
	}
}

// P14.1, P14.2: Try and Else go on with a mark, and to A without it; Begin goes on with one.
func TestMarks(t *testing.T) {
	for n := range 4 {
		for _, x := range []struct{ begin, end, more int }{{api.OpTry, api.OpDone, 1}, {api.OpElse, api.OpJoined, 0}} {
			for above := range 3 {
				l := plus(put(n), of(in(x.begin, n+above+4)), put(above), of(in(x.end), in(api.OpJump, n+above+2), stay(), stay()))
				depth := append(counted(n+1), counted(n + above + 1)[n:]...)
				depth = append(depth, n+above, -1, n+x.more)
				holds(t, "a mark", with(0, l), 0, depth...)
			}
			for to := range n + 1 { // back to what is ahead, or to itself
				l := plus(put(n), of(in(x.begin, to), stay()))
				is(t, x.more == 0 && to == n, "back", with(0, l), 0, append(counted(n+1), n)...)
			}
			l := plus(put(n), of(in(x.begin, n+1), stay()))
			wrong(t, "with a mark and without one", with(0, l), 0)
			for _, to := range []int{n + 2, n + 3, 400, 65535} {
				wrong(t, "to where nothing is", with(0, plus(put(n), of(in(x.begin, to), stay()))), 0)
			}
			// Behind the mark, what is returned or called last is not looked for; at A it is.
			holds(t, "no mark at A", with(0, plus(put(n), of(in(x.begin, n+2), stay(), in(api.OpInt), ret()))), 0, append(counted(n+1), n, n+x.more, n+x.more+1)...)
		}
		l := plus(put(n), of(in(api.OpBegin), in(api.OpInt), in(api.OpCommit), stay()))
		holds(t, "begin", with(0, l), 0, append(counted(n+1), n, n+1, n+1)...)
	}
}

// P14.1: at A of a Try, or an Else, the base is that of what is around it, and the marks that are there stay.
func TestMarksAround(t *testing.T) {
	for _, around := range []struct{ begin, end int }{{api.OpTry, api.OpDone}, {api.OpElse, api.OpJoined}, {api.OpBegin, api.OpCommit}} {
		for _, begin := range []int{api.OpTry, api.OpElse} {
			more := 0
			if begin == api.OpTry {
				more = 1
			}
			for pops := range 4 {
				head := of(in(api.OpInt), in(around.begin, 0), in(api.OpInt), in(begin, 5), stay())
				l := plus(head, many(pops, in(api.OpPop)), of(in(around.end), stay()))
				depth := []int{0, 1, 1, 2, 2, 2 + more}
				for n := range pops {
					depth = append(depth, 1+more-n)
				}
				depth = append(depth, depth[len(depth)-1])
				l, depth = catch(l, depth, around.begin, 1)
				is(t, pops <= 1+more, fmt.Sprint(around.begin, " around ", begin, ", pops ", pops), with(0, l), 0, depth...)
				other := plus(head, of(ret()))
				other, _ = catch(other, nil, around.begin, 1)
				wrong(t, "a mark is left", with(0, other), 0)
			}
		}
	}
}

// P14.1: each mark is over by the Op of its own kind alone, the last one first; Begin wants no mark begin.
func TestMarksInOneAnother(t *testing.T) {
	kinds := []int{api.OpTry, api.OpBegin, api.OpElse, api.OpDone, api.OpCommit, api.OpJoined}
	ends := map[int]int{api.OpDone: api.OpTry, api.OpCommit: api.OpBegin, api.OpJoined: api.OpElse}
	for n := range 6 {
		total := 1
		for range n {
			total *= len(kinds)
		}
		for k := range total {
			var l []api.Instr
			var open []int
			ok := true
			for range n {
				op := kinds[k%len(kinds)]
				k /= len(kinds)
				l = append(l, in(op))
				if begun := ends[op]; begun > 0 {
					ok = ok && len(open) > 0 && open[len(open)-1] == begun
					if ok {
						open = open[:len(open)-1]
					}
				} else {
					ok = ok && !(op == api.OpBegin && slices.Contains(open, op))
					open = append(open, op)
				}
			}
			c := with(1, landed(append(l, stay())))
			if e := verify.Code(c); (e == api.OK) != ok || (verify.Depths(c, 1) != nil) != ok {
				t.Fatalf("%v: %v, not %v", l, e, ok)
			}
			if c = with(1, landed(append(l, in(api.OpInt), ret()))); (verify.Code(c) == api.OK) != (ok && len(open) == 0) {
				t.Fatalf("%v and back", l)
			}
		}
	}
}

// landed gives each Try and Else an instruction of its own to go to.
func landed(l []api.Instr) []api.Instr {
	l = slices.Clone(l)
	for at := range len(l) {
		if op := l[at].Op; op == api.OpTry || op == api.OpElse {
			l[at].A = len(l)
			l = append(l, stay())
		}
	}
	return l
}

// P14.1: an instruction is reached with one state alone: depths, and marks' number, kinds and depths.
func TestOneStateAlone(t *testing.T) {
	// Both ways come to the last instruction; one by a jump, the other by going on.
	for _, x := range []struct {
		what     string
		ok       bool
		one, two []api.Instr
	}{
		{"nothing", true, nil, nil},
		{"as much", true, put(2), of(in(api.OpInt), in(api.OpInt), in(api.OpInt), in(api.OpPop))},
		{"another depth", false, put(1), nil},
		{"another depth", false, put(2), put(1)},
		{"another depth", false, put(1), put(2)},
		{"a mark", true, of(in(api.OpTry)), of(in(api.OpTry))},
		{"a mark", true, of(in(api.OpElse)), of(in(api.OpElse))},
		{"a mark", true, of(in(api.OpBegin)), of(in(api.OpBegin))},
		{"a mark or none", false, of(in(api.OpTry)), nil},
		{"a mark or none", false, nil, of(in(api.OpElse))},
		{"a mark or none", false, nil, of(in(api.OpBegin))},
		{"another kind", false, of(in(api.OpTry)), of(in(api.OpElse))},
		{"another kind", false, of(in(api.OpElse)), of(in(api.OpBegin))},
		{"another kind", false, of(in(api.OpBegin)), of(in(api.OpTry))},
		{"another mark's depth", false, of(in(api.OpTry), in(api.OpInt)), of(in(api.OpInt), in(api.OpTry))},
		{"another mark's depth", false, of(in(api.OpInt), in(api.OpElse)), of(in(api.OpElse), in(api.OpInt))},
		{"another mark's depth", false, of(in(api.OpInt), in(api.OpBegin)), of(in(api.OpBegin), in(api.OpInt))},
		{"the first mark's depth", false, of(in(api.OpInt), in(api.OpElse), in(api.OpElse)), of(in(api.OpElse), in(api.OpInt), in(api.OpElse))},
		{"the first mark's kind", false, of(in(api.OpTry), in(api.OpElse)), of(in(api.OpElse), in(api.OpElse))},
		{"the order of marks", false, of(in(api.OpTry), in(api.OpElse)), of(in(api.OpElse), in(api.OpTry))},
		{"more marks", false, of(in(api.OpTry), in(api.OpTry)), of(in(api.OpTry))},
		{"as many marks", true, of(in(api.OpTry), in(api.OpElse), in(api.OpBegin)), of(in(api.OpTry), in(api.OpElse), in(api.OpBegin))},
		{"marks that are over", true, of(in(api.OpTry), in(api.OpInt), in(api.OpDone)), of(in(api.OpBegin), in(api.OpInt), in(api.OpCommit))},
		{"one that is over", false, of(in(api.OpTry), in(api.OpElse), in(api.OpJoined)), of(in(api.OpElse), in(api.OpTry), in(api.OpDone))},
		{"one that is over", true, of(in(api.OpTry), in(api.OpElse), in(api.OpJoined)), of(in(api.OpTry), in(api.OpTry), in(api.OpDone))},
	} {
		for _, way := range of(in(api.OpFalse), in(api.OpCase, 1)) {
			for _, ways := range [][2][]api.Instr{{x.one, x.two}, {x.two, x.one}} {
				to := 3 + len(ways[0])
				end := to + len(ways[1])
				if way.Op == api.OpCase {
					way.B = to
				} else {
					way.A = to
				}
				l := plus(of(in(api.OpInt), way), ways[0], of(in(api.OpJump, end)), ways[1], of(stay()))
				c := with(0, landed(l))
				if is := verify.Code(c) == api.OK; is != x.ok || (verify.Depths(c, 0) != nil) != x.ok {
					t.Errorf("%s: %v is %v", x.what, l, is)
				}
			}
		}
	}
}

// P14.1: what goes back comes with the state that is there.
func TestBack(t *testing.T) {
	for _, x := range []struct {
		ok   bool
		l    []api.Instr
		want []int
	}{
		{true, of(in(api.OpJump, 1), in(api.OpJump, 0)), []int{0, 0}},
		{true, of(in(api.OpInt), in(api.OpPop), in(api.OpJump, 0)), []int{0, 1, 0}},
		{false, of(in(api.OpInt), in(api.OpJump, 0)), nil},
		{true, of(in(api.OpInt), in(api.OpFalse, 0), in(api.OpJump, 0)), []int{0, 1, 0}},
		{false, of(in(api.OpInt), in(api.OpInt), in(api.OpFalse, 0), stay()), nil},
		{true, of(in(api.OpBegin), in(api.OpCommit), in(api.OpJump, 0)), []int{0, 0, 0}},
		{false, of(in(api.OpBegin), in(api.OpJump, 0)), nil},
		{false, of(in(api.OpElse, 2), in(api.OpJump, 0), stay()), nil},
		{true, of(in(api.OpElse, 0), in(api.OpJoined), in(api.OpJump, 0)), []int{0, 0, 0}},
		{true, of(in(api.OpTry, 3), in(api.OpDone), in(api.OpJump, 0), in(api.OpPop), in(api.OpJump, 0)), []int{0, 0, 0, 1, 0}},
		{false, of(in(api.OpTry, 3), in(api.OpDone), in(api.OpJump, 0), in(api.OpJump, 0)), nil},
	} {
		is(t, x.ok, "back", with(1, x.l), 1, x.want...)
	}
}

// P14.1: no depth is above Stack.
func TestStack(t *testing.T) {
	for _, stack := range []int{1, 2, 3, 59, 60} {
		for n := range 63 {
			c := with(1, append(put(n), stay()))
			c.Funs[1].Stack = stack
			is(t, n <= stack, "put", c, 1, counted(n+1)...)
			c.Funs[1].Code = append(put(n), in(api.OpTry, n+2), stay(), stay())
			is(t, n+1 <= stack, "caught", c, 1, append(counted(n+1), n, n+1)...)
			c.Funs[1].Code = append(put(n), in(api.OpElse, n+2), stay(), stay())
			is(t, n <= stack, "the other part", c, 1, append(counted(n+1), n, n)...)
			if n > 1 { // what takes and puts is no deeper between
				c.Funs[1].Code = append(put(n), in(api.OpCall), in(api.OpTvar), in(api.OpInt), stay())
				is(t, n <= stack, "taken and put", c, 1, append(counted(n+1), n-1, n-1, n)...)
			}
		}
	}
	c := whole() // each function has a stack of its own
	for f := range c.Funs {
		c.Funs[f].Stack = 2 + f
		c.Funs[f].Code = append(put(2+f), stay())
	}
	holds(t, "its own stack", c, 1, 0, 1, 2, 3)
	c.Funs[1].Stack = 2
	wrong(t, "its own stack", c, 1)
}

// P14.1: ErrArg comes first, whatever else is wrong.
func TestMayComesFirst(t *testing.T) {
	for what, spoil := range map[string]func(*api.Code){
		"no function":    func(c *api.Code) { c.Funs = nil },
		"functions":      func(c *api.Code) { c.Funs = many(121, c.Funs[0]) },
		"lets":           func(c *api.Code) { c.Lets = 61 },
		"fewer lets":     func(c *api.Code) { c.Lets = -1 },
		"constants":      func(c *api.Code) { c.Ints = make([]int, 121) },
		"an integer":     func(c *api.Code) { c.Ints[4] = api.MaxInt + 1 },
		"texts":          func(c *api.Code) { c.Texts = make([]string, 121) },
		"a text":         func(c *api.Code) { c.Texts[5] = strings.Repeat("a", 61) },
		"kept":           func(c *api.Code) { c.Funs[2].Kept = 60 },
		"locals":         func(c *api.Code) { c.Funs[2].Locals = 61 },
		"no stack":       func(c *api.Code) { c.Funs[2].Stack = 0 },
		"a stack":        func(c *api.Code) { c.Funs[2].Stack = 61 },
		"no code":        func(c *api.Code) { c.Funs[2].Code = nil },
		"code":           func(c *api.Code) { c.Funs[2].Code = many(401, stay()) },
		"no Op":          func(c *api.Code) { c.Funs[2].Code[1].Op = 0 },
		"no such Op":     func(c *api.Code) { c.Funs[2].Code[1].Op = 34 },
		"A of none":      func(c *api.Code) { c.Funs[2].Code[1].A = 1 },
		"B of none":      func(c *api.Code) { c.Funs[2].Code[0].B = 1 },
		"A":              func(c *api.Code) { c.Funs[2].Code[0].A = 65536 },
		"A below 0":      func(c *api.Code) { c.Funs[2].Code[0].A = -1 },
		"what is behind": func(c *api.Code) { c.Funs[2].Code = append(c.Funs[2].Code, in(40)) },
		"B below 0":      func(c *api.Code) { c.Funs[2].Code[0] = in(api.OpMake, 1, -1) },
	} {
		for _, l := range [][]api.Instr{fine(), of(in(api.OpPop))} {
			c := with(0, l)
			spoil(&c)
			if e := verify.Code(c); e != api.ErrArg {
				t.Errorf("%s: %v", what, e)
			}
			for f := range 3 {
				if d := verify.Depths(c, f); d != nil {
					t.Errorf("%s: %v", what, d)
				}
			}
		}
	}
	if e := verify.Code(api.Code{}); e != api.ErrArg {
		t.Error(e)
	}
}

// P14.1, P14.2: each function must hold together; the depths of one hang on itself alone.
func TestEachFunction(t *testing.T) {
	for f := range 3 {
		c := with(f, of(in(api.OpPop)))
		wrong(t, "one of three", c, f)
		for other := range 3 {
			if d := verify.Depths(c, other); other != f && !slices.Equal(d, []int{0, 1}) {
				t.Errorf("%d beside %d: %v", other, f, d)
			}
		}
	}
	c := whole()
	c.Funs = many(120, c.Funs[0])
	holds(t, "as many as may be", c, 119, 0, 1)
	c.Funs[119].Code = of(in(api.OpInt), in(api.OpFun, 118, 2), in(api.OpFun, 119, 2), ret())
	wrong(t, "the last one", c, 119)
	c.Funs[119].Code = of(in(api.OpInt), in(api.OpInt), in(api.OpFun, 119, 2), ret())
	holds(t, "the last one", c, 119, 0, 1, 2, 1)
}

// P14.2: there are no depths of a function that there is not.
func TestNoSuchFunction(t *testing.T) {
	for _, f := range []int{-1, 3, 4, 120, math.MinInt, math.MaxInt} {
		for _, c := range []api.Code{whole(), {}, with(0, of(in(api.OpPop)))} {
			if d := verify.Depths(c, f); d != nil {
				t.Errorf("of %d: %v", f, d)
			}
		}
	}
}

// P14.2, P14.3: what is not reached is -1, and may be anything that may be.
func TestNotReached(t *testing.T) {
	for _, i := range append(oddities(), of(in(api.OpPop), in(api.OpInt, 65535), in(api.OpSelf), in(api.OpReturn), in(api.OpBegin), in(api.OpDone))...) {
		holds(t, "behind a Jump", with(0, of(in(api.OpInt), in(api.OpJump, 4), i, i, ret(), i)), 0, 0, 1, -1, -1, 1, -1)
		holds(t, "behind a Return", with(0, of(in(api.OpInt), ret(), i)), 0, 0, 1, -1)
		holds(t, "behind a Raise", with(0, of(in(api.OpInt), in(api.OpRaise), i)), 0, 0, 1, -1)
		holds(t, "behind a Retry", with(0, of(in(api.OpRetry), i)), 0, 0, -1)
		holds(t, "behind a Tail", with(0, of(in(api.OpInt), in(api.OpInt), in(api.OpTail), i)), 0, 0, 1, 2, -1)
		wrong(t, "ahead of what is not reached", with(0, of(in(api.OpPop), in(api.OpRetry), i)), 0)
	}
}

// oddities are instructions that would be wrong, or go astray, wherever they were reached.
func oddities() []api.Instr {
	return of(in(api.OpJump, 65535), in(api.OpFalse, 300), in(api.OpCase, 65535, 65535), in(api.OpTry, 77), in(api.OpElse, 65535), in(api.OpFun, 0, 0), in(api.OpFun, 9, 65535), in(api.OpMake, 200, 0), in(api.OpSum, 7), in(api.OpField, 4), in(api.OpStore, 7), in(api.OpSet, 60))
}

// P14.1: functions as long as may be, with as many marks in one another.
func TestGreatOnes(t *testing.T) {
	for _, op := range []int{api.OpElse, api.OpTry} {
		l := append(many(398, in(op, 399)), stay(), stay())
		for at := range 398 {
			if at > 0 {
				l[at].A = at - 1
			}
		}
		wrong(t, "each goes to another place", with(0, l), 0)
		// Each one goes to itself, which only an Else may.
		for at := range 399 {
			l[at] = in(op, at)
		}
		l[399] = stay()
		is(t, op == api.OpElse, "marks", with(0, l), 0, many(400, 0)...)
	}
	l := plus(many(199, in(api.OpElse, 0)), many(199, in(api.OpJoined)), fine())
	for at := range 199 {
		l[at].A = at
	}
	holds(t, "in and out", with(0, l), 0, append(many(399, 0), 1)...)
	l[198] = in(api.OpTry, 198)
	wrong(t, "in and out", with(0, l), 0)
}
