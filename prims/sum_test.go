package prims_test

import (
	"math"
	"math/big"
	"testing"

	"selvage/api"
	"selvage/core"
	"selvage/gen"
	"selvage/heap"
	"selvage/infer"
	"selvage/ints"
	"selvage/parse"
	"selvage/prims"
	"selvage/strs"
)

// P16.2

// sums holds what Sum tells of two integers.
func sums(t *testing.T, k, a, b, want int) {
	t.Helper()
	if w, e := prims.Sum(k, 2*a+1, 2*b+1); w != 2*want+1 || e != api.OK {
		t.Errorf("Sum(%d) of %d and %d is %d, %v, not %d", k, a, b, w, e, 2*want+1)
	}
}

// noSum holds that Sum refuses.
func noSum(t *testing.T, k, a, b int, want api.Errno) {
	t.Helper()
	if w, e := prims.Sum(k, a, b); w != 0 || e != want {
		t.Errorf("Sum(%d, %d, %d) is %d, %v, not 0, %v", k, a, b, w, e, want)
	}
}

func TestExampleOfSum(t *testing.T) {
	if w, e := prims.Sum(0, 3, 5); w != 7 || e != api.OK {
		t.Errorf("Sum(0, 3, 5) is %d, %v", w, e)
	}
}

func TestSum(t *testing.T) {
	for _, l := range []struct{ k, a, b, want int }{
		{0, 7, 2, 9}, {1, 7, 2, 5}, {2, 7, 2, 14}, {3, 7, 2, 3}, {4, 7, 2, 1}, {5, 7, 2, 0}, {6, 7, 2, 0},
		{0, 2, 7, 9}, {1, 2, 7, -5}, {2, 2, 7, 14}, {3, 2, 7, 0}, {4, 2, 7, 2}, {5, 2, 7, 0}, {6, 2, 7, 1},
		{0, -7, 2, -5}, {1, -7, 2, -9}, {2, -7, 2, -14}, {3, -7, 2, -3}, {4, -7, 2, -1}, {5, -7, 2, 0}, {6, -7, 2, 1},
		{5, 3, 3, 1}, {6, 3, 3, 0}, {5, -1, -1, 1}, {5, 0, 0, 1}, {3, 0, 5, 0}, {4, 0, 5, 0}, {0, 5, 0, 5}, {1, 5, 0, 5}, {2, 5, 0, 0}, {5, 5, 0, 0}, {6, 5, 0, 0},
		// what is above MaxInt is wrapped
		{0, api.MaxInt, 1, api.MinInt}, {1, api.MinInt, 1, api.MaxInt}, {2, api.MaxInt, 2, -2}, {2, api.MinInt, -1, api.MinInt}, {3, api.MinInt, -1, api.MinInt}, {4, api.MinInt, -1, 0}, {5, api.MinInt, api.MaxInt, 0}, {6, api.MinInt, api.MaxInt, 1},
	} {
		sums(t, l.k, l.a, l.b, l.want)
	}
}

// whole is what the sum of a sign is, told by numbers that nothing is too great for, wrapped; false, of a division by nought.
func whole(sign string, a, b int) (int, bool) {
	x, y, n := big.NewInt(int64(a)), big.NewInt(int64(b)), new(big.Int)
	switch sign {
	case "+":
		n.Add(x, y)
	case "-":
		n.Sub(x, y)
	case "*":
		n.Mul(x, y)
	case "=":
		n.SetBit(n, 0, uint(1-abs(x.Cmp(y))))
	case "<":
		n.SetBit(n, 0, uint(max(0, -x.Cmp(y))))
	case "/", "%":
		if b == 0 {
			return 0, false
		}
		rest := new(big.Int)
		n.QuoRem(x, y, rest)
		if sign == "%" {
			n = rest
		}
	}
	all := new(big.Int).Lsh(big.NewInt(1), 63)
	n.Mod(n, all)
	if n.Cmp(big.NewInt(api.MaxInt)) > 0 {
		n.Sub(n, all)
	}
	return int(n.Int64()), true
}

func abs(n int) int { return max(n, -n) }

// integers are the edges, and many of all sizes between them, the same ones in each run.
func integers(many int) []int {
	l := []int{0, 1, -1, 2, -2, 3, -3, 7, -7, 10, 255, 256, 1 << 31, -1 << 31, 1<<32 + 1, 1 << 61, -1 << 61, api.MaxInt - 1, api.MaxInt, api.MinInt, api.MinInt + 1}
	d := dice(1)
	for i := range many {
		l = append(l, ints.Wrap(d.number()>>(i%63)))
	}
	return l
}

func TestSumIsThatOfItsSign(t *testing.T) {
	l := integers(150)
	for k, sign := range []string{"+", "-", "*", "/", "%", "=", "<"} {
		for _, a := range l {
			for _, b := range l {
				if n, may := whole(sign, a, b); may {
					sums(t, k, a, b, n)
				} else {
					noSum(t, k, 2*a+1, 1, api.ErrZero)
				}
			}
		}
	}
}

func TestSumRefuses(t *testing.T) {
	nobodys := []int{0, 2, -2, 4, 8, 1 << 32, 1 << 62, math.MinInt, math.MinInt + 2, math.MaxInt - 1}
	for _, k := range append([]int{-1, -2, -6, -7, 7, 8, 9, 255, 256, 257, 1 << 31, 1 << 32, 1<<32 + 1, '+', '/'}, far...) {
		for _, l := range [][2]int{{3, 5}, {3, 1}, {1, 1}, {0, 3}, {3, 0}, {2, 2}, {0, 0}} { // ahead of ErrWord and ErrZero
			noSum(t, k, l[0], l[1], api.ErrArg)
		}
	}
	for k := range 7 {
		for _, w := range nobodys {
			for _, n := range []int{1, 3, -1, math.MaxInt, math.MinInt + 1} {
				noSum(t, k, w, n, api.ErrWord) // ahead of ErrZero, which 1 asks for
				noSum(t, k, n, w, api.ErrWord)
			}
			for _, v := range nobodys {
				noSum(t, k, w, v, api.ErrWord)
			}
		}
	}
	for _, k := range []int{3, 4} {
		for _, n := range integers(20) {
			noSum(t, k, 2*n+1, 1, api.ErrZero)
		}
	}
}

// A pointer is no integer's word, though there is a block.
func TestSumOfPointers(t *testing.T) {
	h := heap.New(64)
	for _, w := range []int{text(t, h, "1"), closure(t, h, 1), put(t, h, 1)} {
		for k := range 7 {
			noSum(t, k, w, 3, api.ErrWord)
			noSum(t, k, 3, w, api.ErrWord)
			noSum(t, k, w, w, api.ErrWord)
		}
	}
}

// What stands in code is what is asked for here: an operation of a source is the sum of its sign.
func TestSumsOfSources(t *testing.T) {
	for _, sign := range []string{"+", "-", "*", "/", "%", "=", "<"} {
		n, _, e := parse.Program("do 17 " + sign + " 5")
		if e != api.OK {
			t.Fatal(e)
		}
		r, _, e := infer.Program(n)
		if e != api.OK {
			t.Fatal(e)
		}
		f, _, e := core.Program(n, r.Cons)
		if e != api.OK {
			t.Fatal(e)
		}
		c, _, e := gen.Code(f, r.Cons, 0)
		if e != api.OK {
			t.Fatal(e)
		}
		l := c.Funs[0].Code
		want, _ := whole(sign, 17, 5)
		for _, i := range l {
			if i.Op == api.OpSum {
				sums(t, i.A, 17, 5, want)
			}
		}
		if l[2].Op != api.OpSum {
			t.Errorf("17 %s 5 becomes %v", sign, l)
		}
	}
}

// P16.1: a text of a source, and one that it is joined with, are told as they are written.
func TestTextsOfSources(t *testing.T) {
	n, _, e := parse.Program(`do "a\n\"" ^ "\x00\xff"`)
	if e != api.OK {
		t.Fatal(e)
	}
	h := heap.New(64)
	a, b := text(t, h, n.Kids[0].Kids[0].Text), text(t, h, n.Kids[0].Kids[1].Text)
	w, e := prims.Join(h, a, b)
	s, f := prims.Str(h, w)
	if got := strs.Quote(s); got != `"a\n\"\x00\xff"` || e != api.OK || f != api.OK {
		t.Errorf("it is %s, %v, %v", got, e, f)
	}
}
