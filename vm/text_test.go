package vm_test

import (
	"slices"
	"strconv"
	"strings"
	"testing"

	"selvage/api"
	"selvage/heap"
	"selvage/ints"
	"selvage/prims"
	"selvage/vm"
)

// The words of some integers, and some words that are nobody's.
const (
	zero  = 1
	one   = 3
	two   = 5
	minus = -1
)

var nobodys = []int{0, -2, -1 << 63, 1<<62 + 2, 1<<63 - 2, 400}

// opNames are those of Ops.
var opNames = strings.Fields("None Int Text Local Kept Self Name Set Store Pop Make Fun Field Call Tail Return Jump False Case Sum Join Try Done Raise Print Spawn Begin Commit Else Joined Retry Tvar Read Write")

// read is instructions that are written as a text: an Op and its operands, with commas between.
func read(s string) []api.Instr {
	var all []api.Instr
	for _, part := range strings.Split(s, ",") {
		words := strings.Fields(part)
		i := api.Instr{Op: slices.Index(opNames, words[0])}
		for n, word := range words[1:] {
			operand, err := strconv.Atoi(word)
			if err != nil || i.Op < 0 || n > 1 {
				panic(s)
			}
			*[]*int{&i.A, &i.B}[n] = operand
		}
		all = append(all, i)
	}
	return all
}

// listed is instructions as a text.
func listed(l []api.Instr) string {
	var all []string
	for _, i := range l {
		all = append(all, opNames[i.Op]+" "+strconv.Itoa(i.A)+" "+strconv.Itoa(i.B))
	}
	return strings.Join(all, ", ")
}

// long is a string that is as long as may be.
var long = strings.Repeat("x", 60)

// code is one with some constants and texts, four lets, and functions that are written as texts: each of six locals that keeps as much as its number tells.
func code(functions ...string) api.Code {
	c := api.Code{Ints: []int{0, 1, 2, -1, api.MaxInt, api.MinInt, 7}, Texts: []string{"", "a", "bc", long, "\x00\xff"}, Lets: 4}
	for i, s := range functions {
		c.Funs = append(c.Funs, api.Body{Kept: i, Locals: 6, Stack: 60, Code: read(s)})
	}
	return c
}

// run is a thread that is tested, with all that a step works on.
type run struct {
	*testing.T
	*vm.Thread
	c    api.Code
	h    *heap.Heap
	lets []int
}

// begin is a thread in function 0 of a code, with the words of four lets.
func begin(t *testing.T, functions ...string) *run {
	t.Helper()
	r := &run{T: t, c: code(functions...), h: heap.New(2000), lets: []int{11, 13, 15, 17}}
	if r.Thread = vm.Main(r.c); r.Thread == nil {
		t.Fatal("there is no thread")
	}
	return r
}

// step holds that a step's act is one, whole.
func (r *run) step(want api.Act) {
	r.Helper()
	if got := r.Step(r.c, r.h, r.lets); got != want {
		r.Fatalf("the act is %+v, not %+v", got, want)
	}
}

// steps holds that so many steps do nothing that others see.
func (r *run) steps(many int) {
	r.Helper()
	for range many {
		r.step(api.Act{})
	}
}

// kind holds that a step's act is only of a kind.
func (r *run) kind(kind int) {
	r.Helper()
	r.step(api.Act{Kind: kind})
}

// bad holds that the next step's act is ActBad.
func (r *run) bad() {
	r.Helper()
	r.kind(api.ActBad)
}

// frame is the words of a frame of function 0: closure, six locals, the stack.
func frame(stack ...int) []int {
	return append([]int{zero, zero, zero, zero, zero, zero, zero}, stack...)
}

// has holds what the words of all frames are.
func (r *run) has(want ...int) {
	r.Helper()
	if got := r.Roots(); !slices.Equal(got, want) {
		r.Fatalf("the words are %.300v, not %.300v", text(got), text(want))
	}
}

// text is words as a text.
func text(words []int) string {
	var all []string
	for _, w := range words {
		all = append(all, strconv.Itoa(w))
	}
	return strings.Join(all, " ")
}

// puts puts words on the stack.
func (r *run) puts(words ...int) *run {
	for _, w := range words {
		r.Put(w)
	}
	return r
}

// text is a new string's block.
func (r *run) text(s string) int { return r.is(prims.Text(r.h, s)) }

// closure is a new closure's block.
func (r *run) closure(fun int, kept ...int) int { return r.is(prims.Close(r.h, fun, kept)) }

// block is a new block.
func (r *run) block(tag int, fields ...int) int { return r.is(r.h.Make(tag, fields)) }

func (r *run) is(w int, e api.Errno) int {
	r.Helper()
	if e != api.OK {
		r.Fatal(e)
	}
	return w
}

// top is the topmost word of the youngest frame's stack.
func (r *run) top() int {
	l := r.Roots()
	return l[len(l)-1]
}

// holds holds that the topmost word is a string's.
func (r *run) holds(want string) {
	r.Helper()
	if s, e := prims.Str(r.h, r.top()); s != want || e != api.OK {
		r.Fatalf("the text is %q, %v, not %q", s, e, want)
	}
}

// block holds that the topmost word is a block's with a tag and fields.
func (r *run) holdsBlock(tag int, fields ...int) {
	r.Helper()
	if w := r.top(); r.h.Tag(w) != tag || !slices.Equal(r.h.Fields(w), fields) {
		r.Fatalf("the block is %d %v, not %d %v", r.h.Tag(w), r.h.Fields(w), tag, fields)
	}
}

// fill leaves so many words of room in the heap.
func (r *run) fill(room int) {
	r.Helper()
	for left := r.h.Half() - r.h.Used() - room; left > 0; {
		take := min(left, 1+api.MaxFields)
		r.block(0, slices.Repeat([]int{zero}, take-1)...)
		left -= take
	}
	if n := r.h.Half() - r.h.Used(); n != room {
		r.Fatalf("there is room for %d words, not for %d", n, room)
	}
}

// tag is the word of an integer.
func tag(n int) int { return ints.Tag(n) }
