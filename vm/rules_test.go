package vm_test

import (
	"go/ast"
	"go/parser"
	"go/token"
	"path/filepath"
	"runtime"
	"slices"
	"strings"
	"testing"

	"selvage/api"
	"selvage/heap"
	"selvage/vm"
)

// any is a number at random, most often one that is small, or at the edge of something.
func (d *dice) any() int {
	edges := []int{0, 1, -1, 59, 60, 61, 199, 200, 201, 65535, 1 << 31, 1<<31 - 1, 1 << 62, -1 << 62, 1<<63 - 1, -1 << 63}
	switch d.below(8) {
	case 0:
		return edges[d.below(len(edges))]
	case 1:
		return d.number()
	}
	return d.below(8)
}

// wild is a code of anything.
func (d *dice) wild() api.Code {
	c := api.Code{Lets: d.any()}
	for range d.below(6) {
		c.Ints = append(c.Ints, d.number()>>d.below(64))
	}
	for range d.below(6) {
		c.Texts = append(c.Texts, strings.Repeat("x", d.below(90)))
	}
	for range d.below(6) {
		b := api.Body{Kept: d.any(), Locals: d.any(), Stack: d.any()}
		for range d.below(30) {
			i := api.Instr{Op: 1 + d.below(33), A: d.any(), B: d.below(4)}
			switch d.below(20) {
			case 0:
				i.Op = d.any()
			case 1:
				i.B = d.any()
			}
			b.Code = append(b.Code, i)
		}
		c.Funs = append(c.Funs, b)
	}
	return c
}

// R1: each call ends, and none panics, whatever the code, the heap, the lets and the words are, also where they are other ones in the next step.
func TestEachCallEndsAtAllArguments(t *testing.T) {
	met := map[int]int{}
	for seed := range 15000 {
		d := dice(seed)
		c, h := d.wild(), heap.New(64+d.below(60))
		x := vm.Main(c)
		if (x == nil) != (len(c.Funs) == 0) {
			t.Fatalf("Main of %d functions is %v", len(c.Funs), x)
		}
		if x == nil {
			continue
		}
		lets := slices.Repeat([]int{zero}, d.below(5))
		for range 60 {
			a := x.Step(c, h, lets)
			met[a.Kind]++
			if a.Kind < api.ActNone || a.Kind > api.ActWrite {
				t.Fatal("there is no such act", a)
			}
			d.does(x, c, h, lets)
			switch d.below(90) {
			case 0:
				c = d.wild()
			case 1:
				h = heap.New(64)
			case 2:
				lets = nil
			case 3, 4:
				if y := vm.Spawn(c, h, d.word()); y != nil {
					x = y
				}
			case 5:
				x = x.Copy()
			}
		}
	}
	for kind := api.ActNone; kind <= api.ActWrite; kind++ {
		if kind != api.ActDeep && met[kind] < 10 {
			t.Errorf("act %d was met %d times", kind, met[kind])
		}
	}
}

// word is one that may stand in a small heap, or nobody's.
func (d *dice) word() int {
	if d.below(3) == 0 {
		return d.any()
	}
	return d.below(60)
}

// does asks a thread for something.
func (d *dice) does(x *vm.Thread, c api.Code, h *heap.Heap, lets []int) {
	switch d.below(12) {
	case 0, 1, 2, 3, 4:
		x.Put(d.word())
	case 5:
		x.Other()
	case 6:
		l := x.Roots()
		for i := range l {
			if d.below(4) == 0 {
				l[i] = d.word()
			}
		}
		x.Set(l)
	case 7:
		x.Set(make([]int, d.below(9)))
	case 8:
		if told, e := h.Collect(append(x.Roots(), lets...)); e == api.OK {
			many := len(x.Roots())
			x.Set(told[:many])
			copy(lets, told[many:])
		}
	}
}

// R1, the bound: functions may ask for any number of locals, and no such memory is taken.
func TestHugeNumbersOfLocals(t *testing.T) {
	var was, is runtime.MemStats
	runtime.ReadMemStats(&was)
	for _, locals := range []int{61, 65535, 1 << 30, 1 << 31, 1 << 62, 1<<63 - 1, -1, -1 << 63} {
		r := begin(t, "Call, Return", "Local 0, Local 59, Local 60, Return", "Return")
		for n := range r.c.Funs {
			r.c.Funs[n].Locals = locals
		}
		for _, w := range []int{r.closure(1, one), r.closure(2, one, two)} {
			r.Thread = vm.Main(r.c)
			r.puts(w, 9)
			for range 5 {
				r.Step(r.c, r.h, r.lets)
			}
			if x := vm.Spawn(r.c, r.h, w); x == nil || !x.Alive() {
				t.Errorf("there is no thread of a function with %d locals", locals)
			}
		}
	}
	runtime.ReadMemStats(&is)
	if n := is.TotalAlloc - was.TotalAlloc; n > 1<<24 {
		t.Errorf("%d bytes are taken", n)
	}
}

// R1: a stack may be as deep as is asked for; a list that is set as long.
func TestLongStacks(t *testing.T) {
	r := begin(t, "Int 1, Jump 0")
	r.steps(20000)
	if l := r.Roots(); len(l) != 7+10000 || l[10006] != one {
		t.Errorf("%d words", len(l))
	}
	for range 100000 {
		r.Put(two)
	}
	if l := r.Roots(); len(l) != 7+110000 || l[110006] != two {
		t.Errorf("%d words", len(l))
	}
	r.Set(make([]int, 1<<22))
	r.steps(2)
}

// R1: marks may be as many as are asked for.
func TestManyMarks(t *testing.T) {
	r := begin(t, "Try 2, Jump 0, Raise")
	r.steps(20000)
	r.c.Funs[0].Code = read("Jump 1, Int 6, Raise")
	r.steps(3)
	for range 10000 - 1 {
		r.steps(2)
	}
	r.steps(1)
	if !r.Alive() {
		t.Error("an error has gone out too early")
	}
	r.steps(1)
	r.step(api.Act{Kind: api.ActFault, Number: 7})
}

// R1: a stack that is less deep than a mark, as no code that holds together has it.
func TestMarksAboveTheStack(t *testing.T) {
	for s, kind := range map[string]int{"Try 0": api.ActNone, "Begin": api.ActBegin, "Else 0": api.ActElse} {
		r := begin(t, s+", Pop, Int 1, Raise, Return").puts(one, two)
		r.kind(kind)
		x := r.Copy()
		r.steps(1)
		y := r.Copy()
		y.Other()
		if len(y.Roots()) > 9 {
			t.Errorf("the words are %v", y.Roots())
		}
		r.steps(2)
		r.bad()
		r.Thread = x
		r.c.Funs[0].Code = read("Return, Int 1, Raise")
		r.steps(2)
		r.Step(r.c, r.h, r.lets)
		if l := r.Roots(); len(l) > 0 && !slices.Equal(l[:9], frame(one, two)) {
			t.Errorf("the words are %v", l)
		}
	}
}

// R1: marks of one kind are not ended by an Op of another one, as no code that holds together has it.
func TestMarksOfOtherKinds(t *testing.T) {
	begins := map[string]int{"Try 0": api.ActNone, "Begin": api.ActBegin, "Else 0": api.ActElse}
	ends := map[string]int{"Done": api.ActNone, "Commit": api.ActCommit, "Joined": api.ActJoined}
	goes := map[string]string{"Try 0": "Done", "Begin": "Commit", "Else 0": "Joined"}
	for b, begun := range begins {
		for e, ended := range ends {
			r := begin(t, b+", "+e)
			r.kind(begun)
			if goes[b] == e {
				r.kind(ended)
			} else {
				r.bad()
			}
		}
	}
}

// alike is a code of new memory that is like another one.
func alike(c api.Code) api.Code {
	c.Ints, c.Texts, c.Funs = slices.Clone(c.Ints), slices.Clone(c.Texts), slices.Clone(c.Funs)
	for n := range c.Funs {
		c.Funs[n].Code = slices.Clone(c.Funs[n].Code)
	}
	return c
}

func sameCode(c, d api.Code) bool {
	return slices.Equal(c.Ints, d.Ints) && slices.Equal(c.Texts, d.Texts) && c.Lets == d.Lets && slices.EqualFunc(c.Funs, d.Funs, func(a, b api.Body) bool {
		return a.Kept == b.Kept && a.Locals == b.Locals && a.Stack == b.Stack && slices.Equal(a.Code, b.Code)
	})
}

// R4: a code is neither changed nor kept; lets are changed by Store alone, and what lies behind them not at all.
func TestWhatIsHandedInIsLeftAlone(t *testing.T) {
	for seed := range 200 {
		d := dice(seed)
		c := d.made()
		was := alike(c)
		h, g := heap.New(200), heap.New(200)
		x, y := vm.Main(c), vm.Main(was)
		room := make([]int, c.Lets+4)
		for i := range room {
			room[i] = 1
		}
		lets, others := room[:c.Lets], slices.Clone(room[:c.Lets])
		for range 200 {
			l, r := slices.Clone(lets), x.Roots()
			own := alike(was)
			a := x.Step(own, h, lets)
			if !sameCode(own, was) || !slices.Equal(room[c.Lets:], []int{1, 1, 1, 1}) {
				t.Fatal("a code, or what lies behind lets, has changed")
			}
			for n := range own.Funs {
				clear(own.Funs[n].Code)
			}
			clear(own.Funs)
			clear(own.Ints)
			clear(own.Texts)
			b := y.Step(was, g, others)
			if a != b || !slices.Equal(lets, others) || !slices.Equal(x.Roots(), y.Roots()) {
				t.Fatalf("the same step is %v, and %v", a, b)
			}
			changed := 0
			for i := range l {
				if l[i] != lets[i] {
					changed++
				}
			}
			if changed > 1 || changed == 1 && len(x.Roots()) != len(r)-1 {
				t.Fatalf("the lets are %v, and were %v", lets, l)
			}
			if a.Kind == api.ActBad || a.Kind == api.ActEnd || a.Kind == api.ActRoom {
				break
			}
			if a.Kind == api.ActTvar || a.Kind == api.ActRead || a.Kind == api.ActWrite {
				x.Put(two)
				y.Put(two)
			}
		}
	}
}

// R2: ActRoom and ActDeep change no let, no heap and no word.
func TestNothingIsDoneWithoutRoom(t *testing.T) {
	for _, s := range []string{"Text 1", "Make 1 2", "Fun 1 1", "Join"} {
		r := begin(t, s+", Return", "Return")
		a := r.text("a")
		r.puts(9, a, a)
		r.fill(0)
		var blocks [][]int
		for w := 2; w <= 2*r.h.Half(); w += 2 {
			blocks = append(blocks, r.h.Fields(w))
		}
		x := r.Copy()
		for range 3 {
			r.kind(api.ActRoom)
		}
		r.has(x.Roots()...)
		for n, w := 0, 2; w <= 2*r.h.Half(); n, w = n+1, w+2 {
			if !slices.Equal(blocks[n], r.h.Fields(w)) {
				t.Fatalf("%s has changed a block", s)
			}
		}
		if !slices.Equal(r.lets, []int{11, 13, 15, 17}) {
			t.Errorf("%s has changed the lets", s)
		}
	}
}

// R4: nil and empty lists are one.
func TestNilAndEmptyListsAreOne(t *testing.T) {
	for _, c := range []api.Code{
		{Funs: []api.Body{{Locals: 1, Code: read("Self, Return")}}},
		{Ints: []int{}, Texts: []string{}, Funs: []api.Body{{Locals: 1, Code: read("Self, Return")}}},
	} {
		for _, lets := range [][]int{nil, {}} {
			x, h := vm.Main(c), heap.New(64)
			if a := x.Step(c, h, lets); a != (api.Act{}) {
				t.Error(a)
			}
			if a := x.Step(c, h, lets); a != (api.Act{Kind: api.ActEnd, Word: zero}) {
				t.Error(a)
			}
			x.Set(lets)
		}
	}
	for _, l := range [][]api.Instr{nil, {}} {
		c := api.Code{Funs: []api.Body{{Code: l}}}
		if a := vm.Main(c).Step(c, heap.New(64), nil); a != (api.Act{Kind: api.ActBad}) {
			t.Error(a)
		}
	}
}

// R5: threads of one code are told apart by what was asked of them alone.
func TestThreadsDoNotReachEachOther(t *testing.T) {
	r := begin(t, "Int 1, Set 0, Try 5, Int 2, Raise, Pop, Local 0, Return")
	x, y := vm.Main(r.c), vm.Main(r.c)
	for n := range 8 {
		a := x.Step(r.c, r.h, r.lets)
		z := y.Copy()
		for range n {
			z.Step(r.c, r.h, r.lets)
			z.Put(9)
		}
		if b := y.Step(r.c, r.h, r.lets); a != b || !slices.Equal(x.Roots(), y.Roots()) {
			t.Fatalf("the same step is %v, and %v", a, b)
		}
	}
}

// Ways: how an instruction is done is a method expression in a map; a step embeds the thread.
func TestWays(t *testing.T) {
	names, err := filepath.Glob("*.go")
	if err != nil {
		t.Fatal(err)
	}
	expressions, embeds := 0, false
	for _, name := range names {
		if strings.HasSuffix(name, "_test.go") {
			continue
		}
		file, err := parser.ParseFile(token.NewFileSet(), name, nil, 0)
		if err != nil {
			t.Fatal(err)
		}
		ast.Inspect(file, func(n ast.Node) bool {
			switch x := n.(type) {
			case *ast.CompositeLit:
				if _, is := x.Type.(*ast.MapType); is {
					expressions += methodExpressions(x)
				}
			case *ast.StructType:
				for _, f := range x.Fields.List {
					to, is := f.Type.(*ast.StarExpr)
					if is && len(f.Names) == 0 && to.X.(*ast.Ident).Name == "Thread" {
						embeds = true
					}
				}
			}
			return true
		})
	}
	if expressions != 33 || !embeds {
		t.Errorf("%d method expressions in a map; a step embeds the thread: %v", expressions, embeds)
	}
}

// methodExpressions is how many values of a map's literal are such.
func methodExpressions(x *ast.CompositeLit) int {
	many := 0
	for _, e := range x.Elts {
		value := e.(*ast.KeyValueExpr).Value
		if s, is := value.(*ast.SelectorExpr); is {
			if _, is := s.X.(*ast.ParenExpr); is {
				many++
			}
		}
	}
	return many
}
