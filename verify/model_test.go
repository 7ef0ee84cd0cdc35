package verify_test

import (
	"slices"
	"strconv"
	"strings"
	"testing"

	"selvage/api"
	"selvage/code"
	"selvage/verify"
)

// dice tells numbers that look like chance, and are the same each time.
type dice uint64

func (d *dice) below(n int) int {
	*d = *d*6364136223846793005 + 1442695040888963407
	return int(uint64(*d) >> 33 % uint64(n))
}

// table is the chapter's, a row for each Op: its name, what its operands must be, what it takes and puts, and where it goes (the next instruction, to A, to B; a letter of a mark stands ahead of what is begun, `-` ahead of what is over).
const table = `
Int    A<ints     0 1 next
Text   A<texts    0 1 next
Local  A<locals   0 1 next
Kept   A<kept     0 1 next
Self   notmain    0 1 next
Name   A<lets     0 1 next
Set    A<locals   1 0 next
Store  A<lets     1 0 next
Pop    any        1 0 next
Make   make       B 1 next
Fun    fun        B 1 next
Field  A<arity    1 1 next
Call   any        2 1 next
Tail   nomarks    2 0
Return nomarks    1 0
Jump   any        0 0 A
False  any        1 0 next A
Case   any        1 0 next B
Sum    A<sums     2 1 next
Join   any        2 1 next
Try    any        0 0 t A1
Done   any        0 0 -t
Raise  any        1 0
Print  any        1 1 next
Spawn  any        1 1 next
Begin  nobegin    0 0 b
Commit any        0 0 -b
Else   any        0 0 e A
Joined any        0 0 -e
Retry  any        0 0
Tvar   any        1 1 next
Read   any        1 1 next
Write  any        2 1 next
`

// rows are the table's, by their Ops: they stand in api's order.
func rows() map[int][]string {
	all := map[int][]string{}
	for at, line := range strings.Split(strings.TrimSpace(table), "\n") {
		all[at+1] = strings.Fields(line)
	}
	return all
}

// spot is an instruction with a state at it; of marks each has a letter and a depth.
type spot struct {
	at, depth int
	marks     string
}

// base is the last mark's depth.
func (s spot) base() int {
	n := 0
	if at := strings.LastIndexAny(s.marks, "tbe"); at >= 0 {
		n, _ = strconv.Atoi(s.marks[at+1:])
	}
	return n
}

// model is a function of a code, to be judged by the table.
type model struct {
	rows map[int][]string
	c    api.Code
	f    int
}

// right tells whether the operands are.
func (m model) right(i api.Instr, s spot) bool {
	limits := map[string]int{"ints": len(m.c.Ints), "texts": len(m.c.Texts), "locals": m.c.Funs[m.f].Locals, "kept": m.c.Funs[m.f].Kept, "lets": m.c.Lets, "arity": 4, "sums": 7}
	switch need := m.rows[i.Op][1]; need {
	case "notmain":
		return m.f > 0
	case "make":
		return i.A <= 199 && i.B >= 1 && i.B <= 4
	case "fun":
		return i.A > 0 && i.A < len(m.c.Funs) && m.c.Funs[i.A].Kept == i.B
	case "nomarks":
		return s.marks == ""
	case "nobegin":
		return !strings.Contains(s.marks, "b")
	case "any":
		return true
	default:
		return i.A < limits[need[2:]]
	}
}

// from tells where an instruction goes; false, if it is wrong.
func (m model) from(s spot) ([]spot, bool) {
	i := m.c.Funs[m.f].Code[s.at]
	row := m.rows[i.Op]
	takes, err := strconv.Atoi(row[2])
	if err != nil {
		takes = i.B
	}
	puts, _ := strconv.Atoi(row[3])
	if !m.right(i, s) || s.depth-takes < s.base() {
		return nil, false
	}
	depth := s.depth - takes + puts
	var to []spot
	for _, where := range row[4:] {
		switch where {
		case "next":
			to = append(to, spot{s.at + 1, depth, s.marks})
		case "A":
			to = append(to, spot{i.A, depth, s.marks})
		case "A1":
			to = append(to, spot{i.A, depth + 1, s.marks})
		case "B":
			to = append(to, spot{i.B, depth, s.marks})
		case "t", "b", "e":
			to = append(to, spot{s.at + 1, depth, s.marks + where + strconv.Itoa(depth)})
		default:
			at := strings.LastIndexAny(s.marks, "tbe")
			if at < 0 || s.marks[at] != where[1] {
				return nil, false
			}
			to = append(to, spot{s.at + 1, depth, s.marks[:at]})
		}
	}
	return to, true
}

// depths are those of the function, as far as the first thing that is wrong, and whether it holds together.
func (m model) depths() ([]int, bool) {
	l := m.c.Funs[m.f].Code
	known := map[spot]bool{}
	depths := many(len(l), -1)
	next := []spot{{}}
	for n := 0; n < len(next); n++ { // each spot once, the first ones first
		s := next[n]
		if known[s] {
			continue
		}
		if s.at >= len(l) || s.depth > m.c.Funs[m.f].Stack || depths[s.at] >= 0 { // come to with another state
			return depths, false
		}
		known[s], depths[s.at] = true, s.depth
		to, ok := m.from(s)
		if !ok {
			return depths, false
		}
		next = append(next, to...)
	}
	return depths, true
}

// agrees holds that a code is as the model has it, and tells whether it holds together.
func agrees(t *testing.T, r map[int][]string, c api.Code) bool {
	t.Helper()
	all := true
	for f := range c.Funs {
		want, ok := model{r, c, f}.depths()
		d := verify.Depths(c, f)
		if ok && !slices.Equal(d, want) || !ok && d != nil {
			t.Fatalf("%d of %v: %v; not %v, %v", f, c, d, want, ok)
		}
		all = all && ok
	}
	if e := verify.Code(c); (e == api.OK) != all || !all && e != api.ErrCode {
		t.Fatalf("%v: %v, not %v", c, e, all)
	}
	return all
}

// P14.1, P14.2: all functions of few instructions.
func TestSmallFunctionsAgainstTheModel(t *testing.T) {
	var every, few []api.Instr
	for to := range 5 {
		every = append(every, in(api.OpJump, to), in(api.OpFalse, to), in(api.OpCase, 1, to), in(api.OpTry, to), in(api.OpElse, to))
	}
	for _, m := range moves() {
		every = append(every, m.i)
	}
	every = append(every, in(api.OpTail), ret(), stay(), in(api.OpRaise), in(api.OpDone), in(api.OpCommit), in(api.OpJoined), in(api.OpInt, 5), in(api.OpSum, 7))
	for _, i := range every {
		if to := max(i.A, i.B); to < 4 && slices.Contains([]int{api.OpFalse, api.OpTry, api.OpElse, api.OpJump}, i.Op) && to != 1 {
			few = append(few, i)
		}
	}
	few = append(few, in(api.OpInt), in(api.OpPop), in(api.OpBegin), in(api.OpDone), in(api.OpCommit), in(api.OpJoined), ret(), stay())
	r := rows()
	var good int
	var goes func(some, l []api.Instr, left int)
	goes = func(some, l []api.Instr, left int) {
		c := api.Code{Lets: 7, Ints: make([]int, 5), Texts: make([]string, 6), Funs: []api.Body{{Stack: 2, Code: fine()}, {Kept: 4, Locals: 3, Stack: 2, Code: l}}}
		if len(l) > 0 && agrees(t, r, c) {
			good++
		}
		if left == 0 {
			return
		}
		for _, i := range some {
			goes(some, append(slices.Clip(l), i), left-1)
		}
	}
	goes(every, nil, 2)
	goes(few, nil, 4)
	if good < 2000 {
		t.Errorf("%d hold together", good)
	}
}

// maker makes a function that holds together, if its stack is deep enough.
type maker struct {
	*dice
	c      *api.Code
	f      int
	l      []api.Instr
	atomic bool // within a transaction
}

func (m *maker) add(op int, operands ...int) int {
	m.l = append(m.l, in(op, operands...))
	return len(m.l) - 1
}

// leaf puts something there is.
func (m *maker) leaf() {
	b := m.c.Funs[m.f]
	switch m.below(6) {
	case 0:
		m.add(api.OpText, m.below(len(m.c.Texts)))
	case 1:
		if b.Locals > 0 {
			m.add(api.OpLocal, m.below(b.Locals))
			return
		}
		fallthrough
	case 2:
		if b.Kept > 0 {
			m.add(api.OpKept, m.below(b.Kept))
			return
		}
		fallthrough
	case 3:
		if m.f > 0 {
			m.add(api.OpSelf)
			return
		}
		fallthrough
	case 4:
		if m.c.Lets > 0 {
			m.add(api.OpName, m.below(m.c.Lets))
			return
		}
		fallthrough
	default:
		m.add(api.OpInt, m.below(len(m.c.Ints)))
	}
}

// exp puts one thing more, whatever goes on between.
func (m *maker) exp(deep int) {
	if deep == 0 || len(m.l) > 200 {
		m.leaf()
		return
	}
	switch m.below(15) {
	case 0:
		m.exp(deep - 1)
		m.exp(deep - 1)
		m.add([]int{api.OpCall, api.OpJoin, api.OpWrite}[m.below(3)])
	case 1:
		m.exp(deep - 1)
		m.add([]int{api.OpPrint, api.OpSpawn, api.OpTvar, api.OpRead}[m.below(4)])
	case 2:
		m.exp(deep - 1)
		m.exp(deep - 1)
		m.add(api.OpSum, m.below(7))
	case 3:
		n := 1 + m.below(4)
		for range n {
			m.exp(deep - 1)
		}
		m.add(api.OpMake, m.below(200), n)
	case 4:
		m.closure(deep)
	case 5:
		m.exp(deep - 1)
		m.add(api.OpField, m.below(4))
	case 6, 7:
		m.exp(deep - 1)
		m.taken()
		m.exp(deep - 1)
	case 8, 9:
		m.branch(deep, false)
	case 10:
		m.part(deep, api.OpTry, api.OpDone)
	case 11:
		m.part(deep, api.OpElse, api.OpJoined)
	case 12:
		m.transaction(deep)
	case 13:
		m.exp(deep - 1)
		m.add(api.OpRaise)
	case 14:
		m.add(api.OpRetry)
	}
}

// closure makes one, if there is a function for it.
func (m *maker) closure(deep int) {
	if len(m.c.Funs) == 1 {
		m.leaf()
		return
	}
	f := 1 + m.below(len(m.c.Funs)-1)
	for range m.c.Funs[f].Kept {
		m.exp(deep - 1)
	}
	m.add(api.OpFun, f, m.c.Funs[f].Kept)
}

// taken takes one thing away.
func (m *maker) taken() {
	b := m.c.Funs[m.f]
	switch n := m.below(3); {
	case n == 0 && b.Locals > 0:
		m.add(api.OpSet, m.below(b.Locals))
	case n == 1 && m.c.Lets > 0:
		m.add(api.OpStore, m.below(m.c.Lets))
	default:
		m.add(api.OpPop)
	}
}

// branch goes one way or another one.
func (m *maker) branch(deep int, last bool) {
	m.exp(deep - 1)
	from := m.add(api.OpFalse)
	if m.below(2) == 0 {
		m.l[from] = in(api.OpCase, m.below(65536))
	}
	m.either(deep, last)
	over := -1
	if !last {
		over = m.add(api.OpJump)
	}
	if m.l[from].Op == api.OpCase {
		m.l[from].B = len(m.l)
	} else {
		m.l[from].A = len(m.l)
	}
	m.either(deep, last)
	if over >= 0 {
		m.l[over].A = len(m.l)
	}
}

func (m *maker) either(deep int, last bool) {
	if last {
		m.last(deep - 1)
	} else {
		m.exp(deep - 1)
	}
}

// part is what may go on at another place, where a try has put one thing more.
func (m *maker) part(deep, begin, end int) {
	from := m.add(begin)
	m.exp(deep - 1)
	m.add(end)
	over := m.add(api.OpJump)
	m.l[from].A = len(m.l)
	if begin == api.OpTry {
		m.taken()
	}
	m.exp(deep - 1)
	m.l[over].A = len(m.l)
}

func (m *maker) transaction(deep int) {
	if m.atomic {
		m.leaf()
		return
	}
	m.atomic = true
	m.add(api.OpBegin)
	m.exp(deep - 1)
	m.add(api.OpCommit)
	m.atomic = false
}

// last ends the function, or goes to where it began.
func (m *maker) last(deep int) {
	switch n := m.below(6); {
	case n == 0 && deep > 0:
		m.exp(deep - 1)
		m.exp(deep - 1)
		m.add(api.OpTail)
	case n < 3 && deep > 0:
		m.branch(deep, true)
	case n == 3:
		m.exp(deep)
		m.taken()
		m.add(api.OpJump, 0)
	default:
		m.exp(deep)
		m.add(api.OpReturn)
	}
}

// code is one whose functions hold together, or nearly so.
func (d *dice) code() api.Code {
	c := api.Code{Lets: d.below(4), Ints: make([]int, 1+d.below(3)), Texts: make([]string, 1+d.below(3))}
	for range 1 + d.below(3) {
		c.Funs = append(c.Funs, api.Body{Kept: d.below(3), Locals: d.below(3), Stack: 60})
	}
	for f := range c.Funs {
		m := maker{dice: d, c: &c, f: f}
		m.last(1 + d.below(5))
		c.Funs[f].Code = m.l
	}
	return c
}

// shallow gives functions stacks that are just deep enough, or one too little.
func (d *dice) shallow(r map[int][]string, c api.Code) {
	for f := range c.Funs {
		l, _ := model{r, c, f}.depths()
		c.Funs[f].Stack = min(60, max(1, slices.Max(l)))
		if d.below(9) == 0 {
			c.Funs[f].Stack = max(1, c.Funs[f].Stack-1)
		}
	}
}

// spoil changes something of a code.
func (d *dice) spoil(c *api.Code) {
	f := &c.Funs[d.below(len(c.Funs))]
	at := d.below(len(f.Code))
	i := &f.Code[at]
	switch d.below(11) {
	case 0:
		i.A = max(0, i.A+d.below(3)-1)
	case 1:
		i.B = max(0, i.B+d.below(3)-1)
	case 2:
		i.A = d.below(len(f.Code) + 1)
	case 3:
		*i = in(1 + d.below(33))
	case 4:
		f.Code = slices.Delete(slices.Clone(f.Code), at, at+1)
	case 5:
		f.Code = slices.Insert(slices.Clone(f.Code), at, *i)
	case 6:
		f.Code[d.below(len(f.Code))] = *i
	case 7:
		f.Kept, f.Locals = d.below(3), d.below(3)
	case 8:
		c.Lets, c.Ints = d.below(4), make([]int, d.below(3))
	case 9:
		c.Funs = c.Funs[:1+d.below(len(c.Funs))]
	case 10:
		if to := f.Code[d.below(len(f.Code))]; code.Uses(to.Op) > 0 {
			to.A = d.below(len(f.Code))
			*i = to
		}
	}
}

// P14.1, P14.2: functions as they come of exps, and such that are spoilt.
func TestFunctionsAgainstTheModel(t *testing.T) {
	d, r := dice(3), rows()
	var good, bad int
	for range 12000 {
		c := d.code()
		if !code.May(c) {
			continue
		}
		d.shallow(r, c)
		agrees(t, r, c)
		for range 3 {
			d.spoil(&c)
			if !code.May(c) {
				break
			}
			if agrees(t, r, c) {
				good++
			} else {
				bad++
			}
		}
	}
	if good < 3000 || bad < 3000 {
		t.Errorf("%d hold together, %d do not", good, bad)
	}
}

// P14.1, P14.2: functions of any instructions that may be.
func TestAnyInstructionsAgainstTheModel(t *testing.T) {
	d, r := dice(4), rows()
	var good int
	for range 60000 {
		c := whole()
		for f := range c.Funs {
			n := 1 + d.below(8)
			c.Funs[f] = api.Body{Kept: d.below(4), Locals: d.below(4), Stack: 1 + d.below(4), Code: make([]api.Instr, n)}
			for at := range n {
				i := in(1 + d.below(33))
				if code.Uses(i.Op) > 0 {
					i.A = d.below(n + 1)
				}
				if code.Uses(i.Op) > 1 {
					i.B = d.below(5)
				}
				if d.below(3) == 0 {
					i = in(api.OpInt)
				}
				c.Funs[f].Code[at] = i
			}
		}
		agrees(t, r, c)
		for f := range c.Funs {
			if verify.Depths(c, f) != nil {
				good++
			}
		}
	}
	if good < 3000 {
		t.Errorf("%d functions hold together", good)
	}
}

// P14.3: where nothing goes there may be anything that may be, whether the code holds together or not.
func TestNotReachedAgainstTheModel(t *testing.T) {
	d, r := dice(5), rows()
	var changed int
	for range 6000 {
		c := d.code()
		if !code.May(c) {
			continue
		}
		e := verify.Code(c)
		for f := range c.Funs {
			was := verify.Depths(c, f)
			reached, ok := model{r, c, f}.depths()
			if !ok {
				continue
			}
			for at, depth := range reached {
				if depth >= 0 {
					continue
				}
				i := in(1 + d.below(33))
				if code.Uses(i.Op) > 0 {
					i.A = d.below(65536)
				}
				if code.Uses(i.Op) > 1 {
					i.B = d.below(65536)
				}
				c.Funs[f].Code[at] = i
				changed++
			}
			if is := verify.Depths(c, f); !slices.Equal(is, was) {
				t.Fatalf("%d of %v: %v, not %v", f, c, is, was)
			}
		}
		if is := verify.Code(c); is != e {
			t.Fatalf("%v: %v, not %v", c, is, e)
		}
	}
	if changed < 2000 {
		t.Errorf("%d changes", changed)
	}
}

// held is a mark while a function runs: its Op, how many things there were, where it goes to.
type held struct{ op, depth, to int }

// P14.1, P14.2: what holds together never lacks anything when it runs, and has the depths that are told.
func TestWhatHoldsTogetherRuns(t *testing.T) {
	d, r := dice(6), rows()
	var steps int
	for range 8000 {
		c := d.code()
		if !code.May(c) {
			continue
		}
		for range d.below(3) {
			d.spoil(&c)
		}
		for f := range c.Funs {
			if depths := verify.Depths(c, f); depths != nil {
				for range 4 {
					steps += run(t, &d, model{r, c, f}, depths)
				}
			}
		}
	}
	if steps < 100000 {
		t.Errorf("%d steps", steps)
	}
}

// run runs a function for a while, by chance where it may go on at one place or another; how many steps.
func run(t *testing.T, d *dice, m model, depths []int) int {
	t.Helper()
	at, depth := 0, 0
	var marks []held
	body := m.c.Funs[m.f]
	for step := range 100 {
		if at >= len(body.Code) || depth != depths[at] || depth > body.Stack {
			t.Fatalf("%d of %v: at %d on %d", m.f, m.c, at, depth)
		}
		i := body.Code[at]
		base := 0
		if len(marks) > 0 {
			base = marks[len(marks)-1].depth
		}
		takes, err := strconv.Atoi(m.rows[i.Op][2])
		if err != nil {
			takes = i.B
		}
		puts, _ := strconv.Atoi(m.rows[i.Op][3])
		if depth -= takes; depth < base {
			t.Fatalf("%d of %v: at %d it takes too much", m.f, m.c, at)
		}
		depth += puts
		at++
		back := 0 // the kind of mark to whose end it goes
		switch i.Op {
		case api.OpTail, api.OpReturn:
			if len(marks) > 0 {
				t.Fatalf("%d of %v: at %d there are marks", m.f, m.c, at)
			}
			return step
		case api.OpJump:
			at = i.A
		case api.OpFalse:
			at = []int{at, i.A}[d.below(2)]
		case api.OpCase:
			at = []int{at, i.B}[d.below(2)]
		case api.OpTry, api.OpElse, api.OpBegin:
			marks = append(marks, held{i.Op, depth, i.A})
		case api.OpDone, api.OpCommit, api.OpJoined:
			if len(marks) == 0 || marks[len(marks)-1].op != map[int]int{api.OpDone: api.OpTry, api.OpCommit: api.OpBegin, api.OpJoined: api.OpElse}[i.Op] {
				t.Fatalf("%d of %v: at %d a mark is wrong", m.f, m.c, at)
			}
			marks = marks[:len(marks)-1]
		case api.OpRaise:
			back = api.OpTry
		case api.OpRetry:
			back = api.OpElse
		case api.OpSum, api.OpJoin, api.OpCall: // these may raise an error, too
			if d.below(8) == 0 && slices.ContainsFunc(marks, func(h held) bool { return h.op == api.OpTry }) {
				back = api.OpTry
			}
		}
		if back == 0 {
			continue
		}
		for len(marks) > 0 && marks[len(marks)-1].op != back {
			marks = marks[:len(marks)-1]
		}
		if len(marks) == 0 {
			return step
		}
		last := marks[len(marks)-1]
		marks, at, depth = marks[:len(marks)-1], last.to, last.depth
		if back == api.OpTry {
			depth++
		}
	}
	return 100
}
