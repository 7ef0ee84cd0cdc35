package ints_test

import (
	"math"
	"math/big"
	"strconv"
	"strings"
	"testing"

	"selvage/api"
	"selvage/ints"
)

// edges are the numbers around which something changes: 0, the ends of the integers, of places, of numbers.
var edges = []int{
	0, 1, -1, 2, -2, 3, -3, 7, -7, 10, -10,
	1 << 31, -1 << 31, 1<<32 + 1, -1<<32 - 1,
	1<<61 - 1, 1 << 61, 1<<61 + 1, -1 << 61, -1<<61 - 1,
	api.MaxInt - 1, api.MaxInt, api.MaxInt + 1, api.MaxInt + 2,
	api.MinInt - 2, api.MinInt - 1, api.MinInt, api.MinInt + 1,
	math.MaxInt - 1, math.MaxInt, math.MinInt, math.MinInt + 1,
}

// numbers are the edges, and many of all sizes between them, the same ones in each run.
func numbers(many int) []int {
	l := append([]int(nil), edges...)
	x := uint64(1)
	for i := range many {
		x = x*6364136223846793005 + 1442695040888963407
		l = append(l, int(x)>>(i%64))
	}
	return l
}

// integers are those of numbers that are integers.
func integers(many int) []int {
	var l []int
	for _, n := range numbers(many) {
		if n >= api.MinInt && n <= api.MaxInt {
			l = append(l, n)
		}
	}
	return l
}

// wrapped is a whole number of any size, wrapped, told by sums that nothing is too great for.
func wrapped(n *big.Int) int {
	all := new(big.Int).Lsh(big.NewInt(1), 63)
	m := new(big.Int).Mod(n, all)
	if m.Cmp(big.NewInt(api.MaxInt)) > 0 {
		m.Sub(m, all)
	}
	return int(m.Int64())
}

// P1.1

func TestWrap(t *testing.T) {
	for _, l := range []struct{ n, want int }{
		{0, 0}, {5, 5}, {-5, -5},
		{api.MaxInt, api.MaxInt}, {api.MinInt, api.MinInt},
		{api.MaxInt + 1, api.MinInt}, {api.MinInt - 1, api.MaxInt},
		{api.MaxInt + 3, api.MinInt + 2}, {api.MinInt - 3, api.MaxInt - 2},
		{math.MaxInt, -1}, {math.MaxInt - 1, -2}, {math.MinInt, 0}, {math.MinInt + 1, 1},
	} {
		if got := ints.Wrap(l.n); got != l.want {
			t.Errorf("Wrap(%d) is %d, not %d", l.n, got, l.want)
		}
	}
	for _, n := range numbers(500) {
		if got, want := ints.Wrap(n), wrapped(big.NewInt(int64(n))); got != want {
			t.Errorf("Wrap(%d) is %d, not %d", n, got, want)
		}
	}
}

func TestDo(t *testing.T) {
	for _, l := range []struct {
		op         string
		a, b, want int
	}{
		{"+", 2, 3, 5}, {"+", 2, -3, -1}, {"+", api.MaxInt, 1, api.MinInt}, {"+", api.MaxInt, api.MaxInt, -2}, {"+", api.MinInt, api.MinInt, 0},
		{"-", 2, 3, -1}, {"-", api.MinInt, 1, api.MaxInt}, {"-", 0, api.MinInt, api.MinInt}, {"-", api.MaxInt, api.MinInt, -1},
		{"*", 6, 7, 42}, {"*", -6, 7, -42}, {"*", api.MaxInt, 2, -2}, {"*", api.MaxInt, api.MaxInt, 1}, {"*", api.MinInt, -1, api.MinInt}, {"*", api.MinInt, api.MinInt, 0},
		{"*", 1 << 31, 1 << 31, api.MinInt}, {"*", 1 << 61, 3, -1 << 61}, {"*", 1<<32 + 1, 1<<32 - 1, -1},
		{"/", 7, 2, 3}, {"/", -7, 2, -3}, {"/", 7, -2, -3}, {"/", -7, -2, 3}, {"/", 1, 2, 0}, {"/", -1, 2, 0}, {"/", 0, 5, 0},
		{"/", api.MinInt, -1, api.MinInt}, {"/", api.MinInt, 1, api.MinInt}, {"/", api.MaxInt, -1, -api.MaxInt}, {"/", api.MinInt, api.MaxInt, -1},
		{"%", 7, 2, 1}, {"%", -7, 2, -1}, {"%", 7, -2, 1}, {"%", -7, -2, -1}, {"%", 6, 3, 0}, {"%", 0, 5, 0}, {"%", api.MinInt, -1, 0}, {"%", api.MinInt, api.MaxInt, -1},
		{"=", 4, 4, 1}, {"=", 4, 5, 0}, {"=", 4, -4, 0}, {"=", 0, 0, 1}, {"=", api.MinInt, api.MinInt, 1}, {"=", api.MinInt, api.MaxInt, 0},
		{"<", 4, 5, 1}, {"<", 5, 4, 0}, {"<", 5, 5, 0}, {"<", -5, 4, 1}, {"<", -4, -5, 0}, {"<", api.MinInt, api.MaxInt, 1}, {"<", api.MaxInt, api.MinInt, 0},
	} {
		if n, e := ints.Do(l.op, l.a, l.b); n != l.want || e != api.OK {
			t.Errorf("Do(%s, %d, %d) is %d, %v, not %d", l.op, l.a, l.b, n, e, l.want)
		}
	}
}

// sum is what op makes of two numbers, told by sums that nothing is too great for; none of a division by nought.
func sum(op string, a, b int) *big.Int {
	x, y := big.NewInt(int64(a)), big.NewInt(int64(b))
	truths := map[bool]int64{true: 1}
	switch {
	case op == "+":
		return x.Add(x, y)
	case op == "-":
		return x.Sub(x, y)
	case op == "*":
		return x.Mul(x, y)
	case op == "=":
		return big.NewInt(truths[x.Cmp(y) == 0])
	case op == "<":
		return big.NewInt(truths[x.Cmp(y) < 0])
	case b == 0:
		return nil
	case op == "/":
		return x.Quo(x, y)
	}
	return x.Rem(x, y)
}

func TestDoIsAsWholeNumbersAre(t *testing.T) {
	l := integers(150)
	for _, op := range []string{"+", "-", "*", "/", "%", "=", "<"} {
		for _, a := range l {
			for _, b := range l {
				n, e := ints.Do(op, a, b)
				whole := sum(op, a, b)
				if whole == nil {
					if n != 0 || e != api.ErrZero {
						t.Errorf("Do(%s, %d, 0) is %d, %v, not 0, ErrZero", op, a, n, e)
					}
				} else if want := wrapped(whole); n != want || e != api.OK {
					t.Errorf("Do(%s, %d, %d) is %d, %v, not %d", op, a, b, n, e, want)
				}
			}
		}
	}
}

func TestDoRefuses(t *testing.T) {
	for _, op := range []string{"+", "-", "*", "/", "%", "=", "<"} {
		for _, n := range []int{api.MaxInt + 1, api.MinInt - 1, math.MaxInt, math.MinInt} {
			for _, pair := range [][2]int{{n, 1}, {1, n}, {n, n}, {n, 0}, {0, n}} { // ErrArg is named ahead of ErrZero
				if got, e := ints.Do(op, pair[0], pair[1]); got != 0 || e != api.ErrArg {
					t.Errorf("Do(%s, %d, %d) is %d, %v, not 0, ErrArg", op, pair[0], pair[1], got, e)
				}
			}
		}
	}
	for _, op := range []string{"", " ", "++", "+ ", " +", "+\x00", "==", "<=", ">", "^", "//", "%%", ";", "|", "->", "a", "plus", "１", "÷", "\xff", strings.Repeat("+", 100000)} {
		for _, pair := range [][2]int{{6, 3}, {6, 0}, {0, 0}, {api.MaxInt + 1, 0}} {
			if got, e := ints.Do(op, pair[0], pair[1]); got != 0 || e != api.ErrArg {
				t.Errorf("Do(%.9q, %d, %d) is %d, %v, not 0, ErrArg", op, pair[0], pair[1], got, e)
			}
		}
	}
	for _, op := range []string{"/", "%"} {
		for _, a := range []int{0, 1, -1, api.MinInt, api.MaxInt} {
			if got, e := ints.Do(op, a, 0); got != 0 || e != api.ErrZero {
				t.Errorf("Do(%s, %d, 0) is %d, %v, not 0, ErrZero", op, a, got, e)
			}
		}
	}
}

// P1.2

func TestTag(t *testing.T) {
	for _, l := range []struct{ n, want int }{
		{0, 1}, {1, 3}, {3, 7}, {-1, -1}, {-2, -3},
		{api.MaxInt, math.MaxInt}, {api.MinInt, math.MinInt + 1},
		{api.MaxInt + 1, math.MinInt + 1}, {api.MinInt - 1, math.MaxInt}, // what is no integer is wrapped
		{math.MaxInt, -1}, {math.MinInt, 1},
	} {
		if got := ints.Tag(l.n); got != l.want {
			t.Errorf("Tag(%d) is %d, not %d", l.n, got, l.want)
		}
	}
}

func TestUntag(t *testing.T) {
	for _, l := range []struct {
		w, want int
		ok      bool
	}{
		{1, 0, true}, {3, 1, true}, {7, 3, true}, {-1, -1, true}, {-3, -2, true},
		{math.MaxInt, api.MaxInt, true}, {math.MinInt + 1, api.MinInt, true},
		{0, 0, false}, {2, 0, false}, {8, 0, false}, {-2, 0, false}, {math.MaxInt - 1, 0, false}, {math.MinInt, 0, false},
	} {
		if got, ok := ints.Untag(l.w); got != l.want || ok != l.ok {
			t.Errorf("Untag(%d) is %d, %v, not %d, %v", l.w, got, ok, l.want, l.ok)
		}
	}
}

func TestPoint(t *testing.T) {
	for _, l := range []struct{ at, want int }{
		{1, 2}, {2, 4}, {4, 8}, {1 << 16, 1 << 17}, {1<<61 - 1, 1<<62 - 2}, {1 << 61, 1 << 62},
		{0, 0}, {-1, 0}, {1<<61 + 1, 0}, {api.MaxInt, 0}, {api.MinInt, 0}, {math.MaxInt, 0}, {math.MinInt, 0}, {math.MinInt + 1, 0},
	} {
		if got := ints.Point(l.at); got != l.want {
			t.Errorf("Point(%d) is %d, not %d", l.at, got, l.want)
		}
	}
}

func TestAt(t *testing.T) {
	for _, l := range []struct {
		w, want int
		ok      bool
	}{
		{2, 1, true}, {4, 2, true}, {8, 4, true}, {1 << 62, 1 << 61, true},
		{1<<62 + 2, 1<<61 + 1, true}, {math.MaxInt - 1, api.MaxInt, true}, // an even word above 0 is a pointer, though Point makes none so great
		{0, 0, false}, {1, 0, false}, {7, 0, false}, {math.MaxInt, 0, false},
		{-1, 0, false}, {-2, 0, false}, {-8, 0, false}, {math.MinInt, 0, false}, {math.MinInt + 1, 0, false}, {math.MinInt + 2, 0, false},
	} {
		if got, ok := ints.At(l.w); got != l.want || ok != l.ok {
			t.Errorf("At(%d) is %d, %v, not %d, %v", l.w, got, ok, l.want, l.ok)
		}
	}
}

// P1.3

func TestShow(t *testing.T) {
	for _, l := range []struct {
		n    int
		want string
	}{
		{0, "0"}, {7, "7"}, {-7, "-7"}, {10, "10"}, {-10, "-10"}, {100, "100"}, {1234567890, "1234567890"}, {-1234567890, "-1234567890"},
		{api.MaxInt, "4611686018427387903"}, {api.MinInt, "-4611686018427387904"},
		{api.MaxInt + 1, "-4611686018427387904"}, {api.MinInt - 1, "4611686018427387903"}, {math.MaxInt, "-1"}, {math.MinInt, "0"},
	} {
		if got := ints.Show(l.n); got != l.want {
			t.Errorf("Show(%d) is %q, not %q", l.n, got, l.want)
		}
	}
	for _, n := range numbers(500) {
		if got, want := ints.Show(n), strconv.Itoa(wrapped(big.NewInt(int64(n)))); got != want {
			t.Errorf("Show(%d) is %q, not %q", n, got, want)
		}
	}
}

func TestReadIsOfWhatIsShown(t *testing.T) {
	for _, l := range []struct {
		s    string
		want int
	}{
		{"0", 0}, {"7", 7}, {"-7", -7}, {"10", 10}, {"-10", -10}, {"4611686018427387903", api.MaxInt}, {"-4611686018427387904", api.MinInt}, {"-4611686018427387903", -api.MaxInt},
	} {
		if n, e := ints.Read(l.s); n != l.want || e != api.OK {
			t.Errorf("Read(%q) is %d, %v, not %d", l.s, n, e, l.want)
		}
	}
	for _, n := range integers(500) {
		if got, e := ints.Read(ints.Show(n)); got != n || e != api.OK {
			t.Errorf("Read(Show(%d)) is %d, %v", n, got, e)
		}
	}
}

func TestReadRefuses(t *testing.T) {
	long := strings.Repeat("9", 100000)
	for _, s := range []string{
		"", "-", "--", "--1", "-0", "00", "01", "-01", "-00", "+1", "+", " ", " 1", "1 ", "-1 ", "- 1", "1-", "1-1", "\n", "1\n", "\x001", "1\x00",
		"a", "1a", "a1", "x", "0x1", "0b1", "1e3", "1.0", "1,0", "1_0", ":", "/", "\xff", "1\xff", "１", "٣", "−1", "true",
		"04611686018427387904", "-04611686018427387904", "4611686018427387904a", "-99999999999999999999 ", long + "a", "0" + long, "--" + long, // no number at all: not ErrRange
	} {
		if n, e := ints.Read(s); n != 0 || e != api.ErrArg {
			t.Errorf("Read(%.30q) is %d, %v, not 0, ErrArg", s, n, e)
		}
	}
	for _, s := range []string{
		"4611686018427387904", "-4611686018427387905", "4611686018427387910", "-4611686018427387910", "5000000000000000000", "-5000000000000000000",
		"9223372036854775807", "9223372036854775808", "-9223372036854775808", "-9223372036854775809", "9999999999999999999", "-9999999999999999999",
		"18446744073709551615", "18446744073709551616", "18446744073709551617", "-18446744073709551617", "36893488147419103233", "99999999999999999999",
		long, "-" + long, "1" + strings.Repeat("0", 100000),
	} {
		if n, e := ints.Read(s); n != 0 || e != api.ErrRange {
			t.Errorf("Read(%.30q) is %d, %v, not 0, ErrRange", s, n, e)
		}
	}
}

// Each text of a few bytes is read just if it is what Show tells of a number.
func TestReadOfAllShortTexts(t *testing.T) {
	letters := []string{"", "-", "+", "0", "1", "9", "/", ":", " ", "a"}
	for _, a := range letters {
		for _, b := range letters {
			for _, c := range letters {
				s := a + b + c
				n, err := strconv.Atoi(s)
				shown := err == nil && strconv.Itoa(n) == s
				got, e := ints.Read(s)
				if shown && (got != n || e != api.OK) || !shown && (got != 0 || e != api.ErrArg) {
					t.Errorf("Read(%q) is %d, %v", s, got, e)
				}
			}
		}
	}
}

// P1.4

func TestWhatWasTaggedIsUntagged(t *testing.T) {
	for _, n := range numbers(500) {
		w := ints.Tag(n)
		if got, ok := ints.Untag(w); !ok || got != ints.Wrap(n) {
			t.Errorf("Untag(Tag(%d)) is %d, %v", n, got, ok)
		}
		if at, ok := ints.At(w); ok || at != 0 {
			t.Errorf("At(Tag(%d)) is %d, %v", n, at, ok)
		}
	}
	for _, at := range numbers(500) {
		w := ints.Point(at)
		may := at >= 1 && at <= 1<<61
		if got, ok := ints.At(w); ok != may || ok && got != at || !ok && got != 0 {
			t.Errorf("At(Point(%d)) is %d, %v", at, got, ok)
		}
		if n, ok := ints.Untag(w); ok || n != 0 {
			t.Errorf("Untag(Point(%d)) is %d, %v", at, n, ok)
		}
	}
}

func TestWordsOfUnlikeThingsAreUnlike(t *testing.T) {
	integerOf, placeOf := map[int]int{}, map[int]int{}
	for _, n := range integers(500) {
		w := ints.Tag(n)
		if m, there := integerOf[w]; there && m != n {
			t.Errorf("Tag(%d) and Tag(%d) are %d", n, m, w)
		}
		integerOf[w] = n
	}
	for _, at := range numbers(500) {
		w := ints.Point(at)
		if w == 0 {
			continue
		}
		if other, there := placeOf[w]; there && other != at {
			t.Errorf("Point(%d) and Point(%d) are %d", at, other, w)
		}
		if n, there := integerOf[w]; there {
			t.Errorf("Point(%d) and Tag(%d) are %d", at, n, w)
		}
		placeOf[w] = at
	}
}

// Each word is an integer's, a pointer, or nobody's, and what it is tells the word again.
func TestWordsOfEachKind(t *testing.T) {
	for _, w := range numbers(500) {
		n, integer := ints.Untag(w)
		at, pointer := ints.At(w)
		if integer != (w%2 != 0) || pointer != (w%2 == 0 && w > 0) {
			t.Errorf("%d: an integer's %v, a pointer %v", w, integer, pointer)
		}
		if integer && (ints.Tag(n) != w || ints.Wrap(n) != n) {
			t.Errorf("Untag(%d) is %d", w, n)
		}
		if pointer && at*2 != w || pointer && at <= 1<<61 && ints.Point(at) != w {
			t.Errorf("At(%d) is %d", w, at)
		}
	}
}

// P1.5

// do is Do of two integers with a sign that may be.
func do(t *testing.T, op string, a, b int) int {
	t.Helper()
	n, e := ints.Do(op, a, b)
	if e != api.OK {
		t.Fatalf("Do(%s, %d, %d): %v", op, a, b, e)
	}
	return n
}

func TestSumsAndProductsGoTogether(t *testing.T) {
	l := integers(25)
	for _, a := range l {
		if do(t, "+", a, 0) != a || do(t, "*", a, 1) != a || do(t, "*", a, 0) != 0 || do(t, "-", a, a) != 0 {
			t.Errorf("%d with 0 and 1", a)
		}
		for _, b := range l {
			if do(t, "+", a, b) != do(t, "+", b, a) || do(t, "*", a, b) != do(t, "*", b, a) {
				t.Errorf("%d and %d the other way round", a, b)
			}
			if do(t, "-", do(t, "+", a, b), b) != a || do(t, "+", a, do(t, "-", 0, b)) != do(t, "-", a, b) {
				t.Errorf("%d and %d there and back", a, b)
			}
			for _, c := range l {
				if do(t, "+", do(t, "+", a, b), c) != do(t, "+", a, do(t, "+", b, c)) || do(t, "*", do(t, "*", a, b), c) != do(t, "*", a, do(t, "*", b, c)) {
					t.Errorf("%d, %d and %d by other brackets", a, b, c)
				}
				if do(t, "*", a, do(t, "+", b, c)) != do(t, "+", do(t, "*", a, b), do(t, "*", a, c)) {
					t.Errorf("%d times %d and %d", a, b, c)
				}
			}
		}
	}
}

func TestSumsOfWhatIsWrapped(t *testing.T) {
	l := numbers(60)
	for _, a := range l {
		for _, b := range l {
			for _, op := range []string{"+", "-", "*"} {
				if got, want := do(t, op, ints.Wrap(a), ints.Wrap(b)), wrapped(sum(op, a, b)); got != want {
					t.Errorf("Do(%s, Wrap(%d), Wrap(%d)) is %d, not %d", op, a, b, got, want)
				}
			}
		}
	}
}

func TestQuotientAndWhatIsLeftOver(t *testing.T) {
	l := integers(60)
	for _, a := range l {
		for _, b := range l {
			if b == 0 {
				continue
			}
			left := do(t, "%", a, b)
			if do(t, "+", do(t, "*", do(t, "/", a, b), b), left) != a {
				t.Errorf("%d divided by %d", a, b)
			}
			if left != 0 && (left < 0) != (a < 0) || do(t, "<", left, 0) == 1 && a > 0 {
				t.Errorf("%d divided by %d leaves %d", a, b, left)
			}
		}
	}
}
