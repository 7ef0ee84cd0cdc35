package code_test

import (
	"go/ast"
	"go/parser"
	"go/token"
	"math"
	"reflect"
	"strings"
	"testing"

	"selvage/api"
	"selvage/code"
)

// body is a function that may be.
func body(l ...api.Instr) api.Body { return api.Body{Locals: 1, Stack: 1, Code: l} }

// small is a code that may be, of one function of one instruction.
func small() api.Code { return api.Code{Funs: []api.Body{body(api.Instr{Op: api.OpReturn})}} }

// many is a list of a thing so many times.
func many[T any](n int, thing T) []T {
	l := make([]T, n)
	for i := range l {
		l[i] = thing
	}
	return l
}

// ops are all Ops, and how many of A and B they use.
func ops() map[int]int {
	return map[int]int{
		api.OpInt: 1, api.OpText: 1, api.OpLocal: 1, api.OpKept: 1, api.OpSelf: 0, api.OpName: 1, api.OpSet: 1, api.OpStore: 1, api.OpPop: 0, api.OpMake: 2, api.OpFun: 2,
		api.OpField: 1, api.OpCall: 0, api.OpTail: 0, api.OpReturn: 0, api.OpJump: 1, api.OpFalse: 1, api.OpCase: 2, api.OpSum: 1, api.OpJoin: 0, api.OpTry: 1, api.OpDone: 0,
		api.OpRaise: 0, api.OpPrint: 0, api.OpSpawn: 0, api.OpBegin: 0, api.OpCommit: 0, api.OpElse: 1, api.OpJoined: 0, api.OpRetry: 0, api.OpTvar: 0, api.OpRead: 0, api.OpWrite: 0,
	}
}

// P13.2
func TestUses(t *testing.T) {
	all := ops()
	if len(all) != 33 {
		t.Fatalf("%d Ops", len(all))
	}
	for op := -1000; op <= 1000; op++ {
		want, ok := all[op]
		if !ok {
			want = -1
		}
		if is := code.Uses(op); is != want {
			t.Errorf("Uses(%d) is %d, not %d", op, is, want)
		}
	}
	for _, op := range []int{math.MinInt, math.MinInt + 1, math.MaxInt, 1 << 32, 1<<32 + 1, 1<<8 + 1, 1<<16 + 1} {
		if is := code.Uses(op); is != -1 {
			t.Errorf("Uses(%d) is %d", op, is)
		}
	}
}

// P13.2: what an Op uses is what api says of it.
func TestUsesIsWhatApiSays(t *testing.T) {
	file, err := parser.ParseFile(token.NewFileSet(), "../api/api.go", nil, parser.ParseComments)
	if err != nil {
		t.Fatal(err)
	}
	op := 0
	ast.Inspect(file, func(n ast.Node) bool {
		s, ok := n.(*ast.ValueSpec)
		if !ok || !strings.HasPrefix(s.Names[0].Name, "Op") {
			return true
		}
		op++
		want, says := 0, s.Comment.Text()
		if strings.Contains(says, "A:") {
			want++
		}
		if strings.Contains(says, "B:") {
			want++
		}
		if is := code.Uses(op); is != want {
			t.Errorf("Uses(%s) is %d, but api says: %s", s.Names[0].Name, is, says)
		}
		return true
	})
	if op != api.OpWrite {
		t.Errorf("api has %d Ops", op)
	}
}

// taken holds that a code may be, and has bytes, which are its own.
func taken(t *testing.T, what string, c api.Code) {
	t.Helper()
	b, e := code.Encode(c)
	if !code.May(c) || e != api.OK || len(b) == 0 {
		t.Errorf("%s: May is %v, Encode %d bytes, %v", what, code.May(c), len(b), e)
	}
	if d, e := code.Decode(b); e != api.OK || !same(d, c) {
		t.Errorf("%s: Decode is %v, %v", what, d, e)
	}
}

// refused holds that a code may not be, and has no bytes.
func refused(t *testing.T, what string, c api.Code) {
	t.Helper()
	if b, e := code.Encode(c); code.May(c) || e != api.ErrArg || b != nil {
		t.Errorf("%s: May is %v, Encode %d bytes, %v", what, code.May(c), len(b), e)
	}
}

// plain is a code whose empty lists are all nil.
func plain(c api.Code) api.Code {
	p := api.Code{Lets: c.Lets, Ints: append([]int(nil), c.Ints...), Texts: append([]string(nil), c.Texts...), Funs: append([]api.Body(nil), c.Funs...)}
	for i, f := range p.Funs {
		p.Funs[i].Code = append([]api.Instr(nil), f.Code...)
	}
	return p
}

func same(x, y api.Code) bool { return reflect.DeepEqual(plain(x), plain(y)) }

// P13.1: numbers of which there is a least and a greatest one.
func TestMayBetweenLeastAndGreatest(t *testing.T) {
	for _, x := range []struct {
		what            string
		least, greatest int
		set             func(*api.Code, int)
	}{
		{"Lets", 0, 60, func(c *api.Code, n int) { c.Lets = n }},
		{"Kept", 0, 59, func(c *api.Code, n int) { c.Funs[0].Kept = n }},
		{"Locals", 0, 60, func(c *api.Code, n int) { c.Funs[0].Locals = n }},
		{"Stack", 1, 60, func(c *api.Code, n int) { c.Funs[0].Stack = n }},
		{"Kept of the last one", 0, 59, func(c *api.Code, n int) { c.Funs[2].Kept = n }},
		{"Locals of the last one", 0, 60, func(c *api.Code, n int) { c.Funs[2].Locals = n }},
		{"Stack of the last one", 1, 60, func(c *api.Code, n int) { c.Funs[2].Stack = n }},
		{"a constant", -1 << 62, 1<<62 - 1, func(c *api.Code, n int) { c.Ints[0] = n }},
		{"the last constant", -1 << 62, 1<<62 - 1, func(c *api.Code, n int) { c.Ints[2] = n }},
		{"A", 0, 65535, func(c *api.Code, n int) { c.Funs[0].Code[0] = api.Instr{Op: api.OpMake, A: n, B: 7} }},
		{"B", 0, 65535, func(c *api.Code, n int) { c.Funs[0].Code[0] = api.Instr{Op: api.OpMake, A: 7, B: n} }},
		{"A of the last one", 0, 65535, func(c *api.Code, n int) { c.Funs[2].Code[2] = api.Instr{Op: api.OpInt, A: n} }},
		{"B of the last one", 0, 65535, func(c *api.Code, n int) { c.Funs[2].Code[2] = api.Instr{Op: api.OpCase, B: n} }},
		{"an Op", 1, 33, func(c *api.Code, n int) { c.Funs[0].Code[0] = api.Instr{Op: n} }},
		{"the last Op", 1, 33, func(c *api.Code, n int) { c.Funs[2].Code[2] = api.Instr{Op: n} }},
	} {
		numbers := []int{x.least, x.least + 1, (x.least + x.greatest) / 2, x.greatest - 1, x.greatest, x.least - 1, x.greatest + 1, x.least - 256, x.greatest + 256, math.MinInt, math.MaxInt, 1 << 16, 1<<16 + 1, 1<<32 + 1, 1 << 63 >> 1, -1}
		for _, n := range numbers {
			c := three()
			x.set(&c, n)
			if x.least <= n && n <= x.greatest {
				taken(t, x.what, c)
			} else {
				refused(t, x.what, c)
			}
		}
	}
}

// three is a code that may be, of three functions, constants and texts each.
func three() api.Code {
	c := api.Code{Ints: many(3, 5), Texts: many(3, "ab"), Lets: 2}
	for range 3 {
		c.Funs = append(c.Funs, body(many(3, api.Instr{Op: api.OpReturn})...))
	}
	return c
}

// P13.1: lists of which there is a greatest length, and some a least one.
func TestMayOfLists(t *testing.T) {
	for _, x := range []struct {
		what            string
		least, greatest int
		set             func(*api.Code, int)
	}{
		{"functions", 1, 120, func(c *api.Code, n int) { c.Funs = many(n, c.Funs[0]) }},
		{"constants", 0, 120, func(c *api.Code, n int) { c.Ints = many(n, -3) }},
		{"texts", 0, 120, func(c *api.Code, n int) { c.Texts = many(n, "x") }},
		{"empty texts", 0, 120, func(c *api.Code, n int) { c.Texts = many(n, "") }},
		{"a text's bytes", 0, 60, func(c *api.Code, n int) { c.Texts[0] = strings.Repeat("\xff", n) }},
		{"the last text's bytes", 0, 60, func(c *api.Code, n int) { c.Texts[2] = strings.Repeat("\x00", n) }},
		{"instructions", 1, 400, func(c *api.Code, n int) { c.Funs[0].Code = many(n, api.Instr{Op: api.OpPop}) }},
		{"the last one's instructions", 1, 400, func(c *api.Code, n int) { c.Funs[2].Code = many(n, api.Instr{Op: api.OpPop}) }},
	} {
		for _, n := range []int{0, 1, 2, x.greatest - 1, x.greatest, x.greatest + 1, 255, 256, 257, 300, 399, 401, 1 << 16, 1<<16 + 1} {
			c := three()
			x.set(&c, n)
			if x.least <= n && n <= x.greatest {
				taken(t, x.what, c)
			} else {
				refused(t, x.what, c)
			}
		}
	}
	refused(t, "nothing at all", api.Code{})
	taken(t, "the least one", small())
	taken(t, "two bytes of a letter above 127", api.Code{Texts: []string{strings.Repeat("\u00e9", 30)}, Funs: small().Funs})
	refused(t, "fewer runes than bytes", api.Code{Texts: []string{strings.Repeat("\u00e9", 31)}, Funs: small().Funs})
}

// P13.1: A and B of each Op.
func TestMayOfAAndB(t *testing.T) {
	for op, uses := range ops() {
		for _, n := range []int{1, 255, 256, 65535} {
			for used, i := range []api.Instr{{Op: op}, {Op: op, A: n}, {Op: op, B: n}, {Op: op, A: n, B: n}} {
				c := three()
				c.Funs[1].Code[1] = i
				if need := []int{0, 1, 2, 2}[used]; need <= uses {
					taken(t, "A and B", c)
				} else {
					refused(t, "A and B", c)
				}
			}
		}
		for _, i := range []api.Instr{{Op: op, A: -1}, {Op: op, B: -1}, {Op: op, A: 65536}, {Op: op, B: 65536}, {Op: op, A: math.MinInt, B: math.MaxInt}} {
			c := three()
			c.Funs[1].Code[1] = i
			refused(t, "A and B", c)
		}
	}
	for _, op := range []int{0, 34, -1, 255, 257, math.MinInt} {
		refused(t, "no Op", api.Code{Funs: []api.Body{body(api.Instr{Op: api.OpPop}, api.Instr{Op: op})}})
	}
}

// The chapter's example.
func TestTheExample(t *testing.T) {
	c := api.Code{Ints: []int{5}, Funs: []api.Body{{Locals: 1, Stack: 1, Code: []api.Instr{{Op: api.OpInt}, {Op: api.OpReturn}}}}}
	encodes(t, c, "SM1\x00\x01\x05\x00\x00\x00\x00\x00\x00\x00\x00\x01\x00\x01\x01\x02\x00\x01\x00\x00\x00\x00\x0f\x00\x00\x00\x00")
}

// encodes holds that a code has these bytes, and they this code.
func encodes(t *testing.T, c api.Code, want string) {
	t.Helper()
	if b, e := code.Encode(c); string(b) != want || e != api.OK {
		t.Errorf("Encode is %q, %v; not %q", b, e, want)
	}
	if d, e := code.Decode([]byte(want)); e != api.OK || !same(d, c) {
		t.Errorf("Decode of %q is %v, %v", want, d, e)
	}
}

// P13.1: what stands where.
func TestBytes(t *testing.T) {
	back := "\x01\x00\x00\x01\x01\x00\x0f\x00\x00\x00\x00"
	only := []api.Body{{Stack: 1, Code: []api.Instr{{Op: api.OpReturn}}}}
	encodes(t, api.Code{Funs: only}, "SM1\x00\x00\x00"+back)
	encodes(t, api.Code{Funs: only, Lets: 60}, "SM1\x3c\x00\x00"+back)
	for n, want := range map[int]string{
		0: "\x00\x00\x00\x00\x00\x00\x00\x00", 1: "\x01\x00\x00\x00\x00\x00\x00\x00", -1: "\xff\xff\xff\xff\xff\xff\xff\xff", -2: "\xfe\xff\xff\xff\xff\xff\xff\xff",
		0x0102030405060708: "\x08\x07\x06\x05\x04\x03\x02\x01", 1<<62 - 1: "\xff\xff\xff\xff\xff\xff\xff\x3f", -1 << 62: "\x00\x00\x00\x00\x00\x00\x00\xc0",
		255: "\xff\x00\x00\x00\x00\x00\x00\x00", 256: "\x00\x01\x00\x00\x00\x00\x00\x00", -256: "\x00\xff\xff\xff\xff\xff\xff\xff", 1 << 31: "\x00\x00\x00\x80\x00\x00\x00\x00", -1 << 31: "\x00\x00\x00\x80\xff\xff\xff\xff",
	} {
		encodes(t, api.Code{Ints: []int{n}, Funs: only}, "SM1\x00\x01"+want+"\x00"+back)
		encodes(t, api.Code{Ints: []int{n, 9, n}, Funs: only}, "SM1\x00\x03"+want+"\x09\x00\x00\x00\x00\x00\x00\x00"+want+"\x00"+back)
	}
	encodes(t, api.Code{Texts: []string{"", "\x00", "ab\xff", ""}, Funs: only}, "SM1\x00\x00\x04\x00\x01\x00\x03ab\xff\x00"+back)
	long := strings.Repeat("xyz", 20)
	encodes(t, api.Code{Texts: []string{long}, Funs: only, Lets: 7}, "SM1\x07\x00\x01\x3c"+long+back)
	encodes(t, api.Code{Funs: []api.Body{
		{Kept: 59, Locals: 58, Stack: 57, Code: []api.Instr{{Op: api.OpMake, A: 0x1234, B: 0xfedc}, {Op: api.OpJump, A: 65535}}}, {Kept: 1, Locals: 2, Stack: 3, Code: []api.Instr{{Op: api.OpWrite}}},
	}}, "SM1\x00\x00\x00\x02\x3b\x3a\x39\x02\x00\x0a\x34\x12\xdc\xfe\x10\xff\xff\x00\x00\x01\x02\x03\x01\x00\x21\x00\x00\x00\x00")
	encodes(t, api.Code{Funs: []api.Body{body(many(400, api.Instr{Op: api.OpPop})...)}}, "SM1\x00\x00\x00\x01\x00\x01\x01\x90\x01"+strings.Repeat("\x09\x00\x00\x00\x00", 400))
	encodes(t, api.Code{Funs: many(120, only[0])}, "SM1\x00\x00\x00\x78"+strings.Repeat(back[1:], 120))
	encodes(t, api.Code{Ints: many(120, 1), Texts: many(120, "q"), Funs: only}, "SM1\x00\x78"+strings.Repeat("\x01\x00\x00\x00\x00\x00\x00\x00", 120)+"\x78"+strings.Repeat("\x01q", 120)+back)
}
