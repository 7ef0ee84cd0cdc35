package strs_test

import (
	"math"
	"slices"
	"strings"
	"testing"

	"selvage/api"
	"selvage/strs"
)

// far are numbers that are far away.
var far = []int{math.MinInt, math.MinInt + 1, math.MaxInt, math.MaxInt - 1, api.MinInt, api.MaxInt, 1 << 61, 1 << 32, -1 << 32}

// some is a text of n bytes, each of them another one than its neighbours.
func some(n int) string {
	text := make([]byte, n)
	for i := range text {
		text[i] = byte(200 + 37*i)
	}
	return string(text)
}

// power is 256 to the power of k.
func power(k int) int {
	n := 1
	for range k {
		n *= 256
	}
	return n
}

// packed is a string's numbers as the chapter has them, summed up byte by byte.
func packed(s string) []int {
	l := []int{len(s)}
	for s != "" {
		n := 0
		part := s[:min(7, len(s))]
		for k := range len(part) {
			n += int(part[k]) * power(k)
		}
		l = append(l, n)
		s = s[len(part):]
	}
	return l
}

// packs holds what Pack and Unpack answer against a string's numbers.
func packs(t *testing.T, s string, want []int) {
	t.Helper()
	if l, e := strs.Pack(s); !slices.Equal(l, want) || e != api.OK {
		t.Errorf("Pack(%q) is %v, %v, not %v", s, l, e, want)
	}
	if u, e := strs.Unpack(want); u != s || e != api.OK {
		t.Errorf("Unpack(%v) is %q, %v, not %q", want, u, e, s)
	}
}

// nobodys holds that numbers are no string's.
func nobodys(t *testing.T, l ...int) {
	t.Helper()
	if s, e := strs.Unpack(l); s != "" || e != api.ErrArg {
		t.Errorf("Unpack(%v) is %q, %v", l, s, e)
	}
}

// P3.1

func TestPack(t *testing.T) {
	packs(t, "", []int{0})
	packs(t, "a", []int{1, 97})
	packs(t, "ab", []int{2, 25185})
	packs(t, "\x00", []int{1, 0})
	packs(t, "\x00\x01", []int{2, 256})
	packs(t, "\x01\x00", []int{2, 1})
	packs(t, "abcdefg", []int{7, 0x67666564636261})
	packs(t, "abcdefgh", []int{8, 0x67666564636261, 104})
	packs(t, "ü", []int{2, 0xbcc3})
	packs(t, "\xff\xff\xff\xff\xff\xff\xff", []int{7, 1<<56 - 1})
	packs(t, strings.Repeat("\x00", 60), append([]int{60}, make([]int, 9)...))
	packs(t, strings.Repeat("\xff", 60), append(append([]int{60}, slices.Repeat([]int{1<<56 - 1}, 8)...), 1<<32-1))
}

func TestPackOfEachLength(t *testing.T) {
	for n := range 61 {
		for _, s := range []string{some(n), strings.Repeat("\x00", n), strings.Repeat("\xff", n), some(60)[60-n:]} {
			packs(t, s, packed(s))
		}
	}
	for n := range 61 {
		if l, e := strs.Pack(some(n)); e != api.OK || len(l) != 1+(n+6)/7 {
			t.Errorf("of %d bytes there are %d numbers, %v", n, len(l), e)
		}
	}
}

func TestPackOfEachByte(t *testing.T) {
	for b := range 256 {
		one := string([]byte{byte(b)})
		packs(t, one, []int{1, b})
		for k := range 8 {
			s := strings.Repeat("\x00", k) + one
			want := []int{k + 1, b * power(k)}
			if k == 7 {
				want = []int{8, 0, b}
			}
			packs(t, s, want)
		}
	}
}

func TestPackOfNoString(t *testing.T) {
	for _, n := range []int{61, 62, 63, 64, 70, 120, 256, 317, 5000} {
		if l, e := strs.Pack(some(n)); len(l) != 0 || e != api.ErrLong {
			t.Errorf("Pack of %d bytes is %v, %v", n, l, e)
		}
	}
}

// The lengths that are none, or do not go with how many numbers there are.
func TestUnpackOfWrongLengths(t *testing.T) {
	nobodys(t)
	for _, n := range append([]int{-1, -2, -7, -60, 61, 62, 63, 64, 256, 1 << 16}, far...) {
		for many := range 12 {
			nobodys(t, append([]int{n}, make([]int, many)...)...)
		}
	}
	for n := range 61 {
		good, _ := strs.Pack(strings.Repeat("\x00", n))
		for many := range 12 {
			l := make([]int, many)
			if many > 0 {
				l[0] = n
			}
			if many != len(good) {
				nobodys(t, l...)
			} else if s, e := strs.Unpack(l); s != strings.Repeat("\x00", n) || e != api.OK {
				t.Errorf("Unpack(%v) is %q, %v", l, s, e)
			}
		}
	}
	nobodys(t, make([]int, 100000)...)
}

// Each number is of as many bytes as the length leaves, seven at most.
func TestUnpackOfWrongNumbers(t *testing.T) {
	for n := 1; n <= 60; n++ {
		l := packed(strings.Repeat("\xff", n))
		for i := 1; i < len(l); i++ {
			wrong := []int{l[i] + 1, l[i] + 2, l[i]*2 + 1, l[i] + 1<<56, l[i] | 1<<62, ^l[i], -1, -2, -256, -1 << 56, -1<<56 + 1}
			for _, w := range append(wrong, far...) {
				m := slices.Clone(l)
				if m[i] = w; w < 0 || w > l[i] {
					nobodys(t, m...)
				}
			}
		}
	}
	nobodys(t, 1, 256)
	nobodys(t, 2, 1<<16)
	nobodys(t, 7, 1<<56)
	nobodys(t, 7, 1<<56|97)
	nobodys(t, 8, 1<<56, 0)
	nobodys(t, 8, 0, 256)
	nobodys(t, 8, -1, 97)
	nobodys(t, 14, 0, -1)
	nobodys(t, 60, 0, 0, 0, 0, 0, 0, 0, 0, 1<<32)
}

func TestJoin(t *testing.T) {
	for a := range 63 {
		for b := range 63 {
			x, y := some(a), strings.Repeat("\xff", b)
			s, e := strs.Join(x, y)
			if a+b <= 60 && (s != x+y || e != api.OK) || a+b > 60 && (s != "" || e != api.ErrLong) {
				t.Errorf("Join of %d and %d bytes is %q, %v", a, b, s, e)
			}
		}
	}
	if s, e := strs.Join("ab", "c"); s != "abc" || e != api.OK {
		t.Errorf("Join is %q, %v", s, e)
	}
	if s, e := strs.Join("\n\"", "\\\x00"); s != "\n\"\\\x00" || e != api.OK {
		t.Errorf("Join is %q, %v", s, e)
	}
}

// Two that are no strings themselves are none together.
func TestJoinOfLongTexts(t *testing.T) {
	long := strings.Repeat("a", 1<<20)
	for _, s := range []string{some(61), some(256), long} {
		for _, u := range []string{"", "a", some(60), some(61), long} {
			for _, pair := range [][2]string{{s, u}, {u, s}} {
				if got, e := strs.Join(pair[0], pair[1]); got != "" || e != api.ErrLong {
					t.Errorf("Join of %d and %d bytes is %.9q, %v", len(pair[0]), len(pair[1]), got, e)
				}
			}
		}
	}
}

// P3.2

func TestQuote(t *testing.T) {
	for s, want := range map[string]string{
		"":             `""`,
		"a b":          `"a b"`,
		"a\n\"":        `"a\n\""`,
		`\`:            `"\\"`,
		`\n`:           `"\\n"`,
		"n":            `"n"`,
		"\t\r":         `"\x09\x0d"`,
		"\x00\x1f\x20": `"\x00\x1f "`,
		"\x7e\x7f\x80": `"~\x7f\x80"`,
		"\xab\xcd\xef": `"\xab\xcd\xef"`,
		"\xff":         `"\xff"`,
		"ü":            `"\xc3\xbc"`,
		"'`$%":         "\"'`$%\"",
	} {
		if got := strs.Quote(s); got != want {
			t.Errorf("Quote(%q) is %s, not %s", s, got, want)
		}
	}
}

// writtenByte is a byte as the chapter has it written.
func writtenByte(b int) string {
	switch {
	case b == '"':
		return `\"`
	case b == '\\':
		return `\\`
	case b == 10:
		return `\n`
	case b >= 32 && b <= 126:
		return string(rune(b))
	}
	return `\x` + string("0123456789abcdef"[b/16]) + string("0123456789abcdef"[b%16])
}

func TestQuoteOfEachByte(t *testing.T) {
	all, want := "", ""
	for b := range 256 {
		one := string([]byte{byte(b)})
		all += one
		want += writtenByte(b)
		if got := strs.Quote(one); got != `"`+writtenByte(b)+`"` {
			t.Errorf("Quote(%q) is %s", one, got)
		}
		if got := strs.Quote("a" + one + "x" + one); got != `"a`+writtenByte(b)+`x`+writtenByte(b)+`"` {
			t.Errorf("Quote of %q within others is %s", one, got)
		}
	}
	if got := strs.Quote(all); got != `"`+want+`"` {
		t.Errorf("Quote of all bytes is %s", got)
	}
}

// Quote is of any text, a longer one than a string may be, too.
func TestQuoteOfLongTexts(t *testing.T) {
	for _, n := range []int{59, 60, 61, 62, 1000, 1 << 20} {
		if got := strs.Quote(strings.Repeat("a", n)); got != `"`+strings.Repeat("a", n)+`"` {
			t.Errorf("Quote of %d bytes is of %d", n, len(got))
		}
		if got := strs.Quote(strings.Repeat("\x00\"", n)); got != `"`+strings.Repeat(`\x00\"`, n)+`"` {
			t.Errorf("Quote of %d bytes is of %d", 2*n, len(got))
		}
	}
}

// reads holds that s begins with a text as it is written, in n bytes.
func reads(t *testing.T, s, want string, n int) {
	t.Helper()
	if got, m, e := strs.Unquote(s); got != want || m != n || e != api.OK {
		t.Errorf("Unquote(%q) is %q, %d, %v, not %q, %d", s, got, m, e, want, n)
	}
}

// fails holds that s begins with nothing of that kind.
func fails(t *testing.T, s string, want api.Errno) {
	t.Helper()
	if got, n, e := strs.Unquote(s); got != "" || n != 0 || e != want {
		t.Errorf("Unquote(%.80q) is %q, %d, %v, not %v", s, got, n, e, want)
	}
}

func TestUnquote(t *testing.T) {
	reads(t, `""`, "", 2)
	reads(t, `"a"`, "a", 3)
	reads(t, `"\x41"z`, "A", 6)
	reads(t, `"a\n\"\\"`, "a\n\"\\", 9)
	reads(t, `"\x00\xff\x0a\x22\x5c\x6e"`, "\x00\xff\n\"\\n", 26)
	reads(t, `"\xab\xcd\xef\x90"`, "\xab\xcd\xef\x90", 18)
	reads(t, `"\x414"`, "A4", 7)
	reads(t, `"\\x41"`, `\x41`, 7)
	reads(t, `"\\n"`, `\n`, 5)
	reads(t, `"x41 n"`, "x41 n", 7)
	reads(t, `"`+strings.Repeat("a", 60)+`"`, strings.Repeat("a", 60), 62)
	reads(t, `"`+strings.Repeat(`\xc8`, 60)+`"`, strings.Repeat("\xc8", 60), 242)
}

// What stands behind the closing one does not matter.
func TestUnquoteWithSomethingBehind(t *testing.T) {
	for _, more := range []string{"", "z", `"`, `"b"`, "\n", "\x00", "\xff", `\`, `\q`, `\x4`, " ", strings.Repeat("b", 100), strings.Repeat("b", 1<<20)} {
		reads(t, `""`+more, "", 2)
		reads(t, `"a"`+more, "a", 3)
		reads(t, `"\""`+more, `"`, 4)
		reads(t, `"\\"`+more, `\`, 4)
		reads(t, `"`+strings.Repeat("a", 60)+`"`+more, strings.Repeat("a", 60), 62)
		fails(t, `"\q"`+more, api.ErrChar)
		fails(t, `"`+strings.Repeat("a", 61)+`"`+more, api.ErrLong)
	}
}

func TestUnquoteOfEachByte(t *testing.T) {
	for b := range 256 {
		one := string([]byte{byte(b)})
		switch {
		case b == '"':
			reads(t, `"a"b"`, "a", 3)
		case b == '\\':
			fails(t, `"a\b"`, api.ErrChar)
		case b == 10:
			fails(t, `"a`+one+`b"`, api.ErrOpen)
		case b < 32 || b > 126:
			fails(t, `"a`+one+`b"`, api.ErrChar)
		default:
			reads(t, `"a`+one+`b"`, "a"+one+"b", 5)
		}
		reads(t, `"a`+writtenByte(b)+`b"`, "a"+one+"b", 4+len(writtenByte(b)))
		hex := `\x` + string("0123456789abcdef"[b/16]) + string("0123456789abcdef"[b%16])
		reads(t, `"`+hex+`"`, one, 6)
	}
}

func TestUnquoteOfEachByteBehindABackslash(t *testing.T) {
	for b := range 256 {
		one := string([]byte{byte(b)})
		switch one {
		case `"`, `\`:
			reads(t, `"\`+one+`"`, one, 4)
		case "n":
			reads(t, `"\`+one+`"`, "\n", 4)
		case "x":
			reads(t, `"\`+one+`41"`, "A", 6)
		default:
			fails(t, `"\`+one+`41"`, api.ErrChar)
			fails(t, `"\`+one, api.ErrChar)
		}
		digit := b >= '0' && b <= '9' || b >= 'a' && b <= 'f'
		if !digit {
			fails(t, `"\x`+one+`1"`, api.ErrChar)
			fails(t, `"\x1`+one+`"`, api.ErrChar)
			fails(t, `"\x`+one+one+`"`, api.ErrChar)
		} else if s, n, e := strs.Unquote(`"\x` + one + one + `"`); e != api.OK || n != 6 || len(s) != 1 || s[0]%17 != 0 {
			t.Errorf("of two times %s: %q, %d, %v", one, s, n, e)
		}
	}
}

func TestUnquoteOfNoText(t *testing.T) {
	for _, s := range []string{"", "a", " \"a\"", "'a'", "\\", "\\\"", "\n", "\n\"a\"", "\x00", "\xff", "x\"", "`", strings.Repeat("a", 100)} {
		fails(t, s, api.ErrSyntax)
	}
	for b := range 256 {
		if b != '"' {
			fails(t, string([]byte{byte(b)})+`"a"`, api.ErrSyntax)
		}
	}
}

func TestUnquoteOfAnOpenText(t *testing.T) {
	for _, s := range []string{
		`"`, `"a`, `"a b`, `"\`, `"a\`, `"\"`, `"\\`, `"\\\`, `"\n`, `"\x`, `"\x4`, `"a\x`, `"a\xf`, `"\x41`, `"\x41\`, `"\x41\x4`,
		"\"\n", "\"\n\"", "\"a\n\"", "\"a\nb\"", "\"\\\\\n\"", "\"\\n\n\"", "\"\\x41\n\"",
		`"` + strings.Repeat("a", 100), `"` + strings.Repeat("a", 100) + `\`, `"` + strings.Repeat("a", 100) + "\n\"",
	} {
		fails(t, s, api.ErrOpen)
	}
}

func TestUnquoteOfAWrongByte(t *testing.T) {
	for _, s := range []string{
		`"\q"`, `"\ "`, `"\N"`, `"\X41"`, `"\0"`, `"\t"`, "\"\\\n\"", "\"\\\t\"", "\"\\\xff\"", "\"\\\n",
		`"\x4g"`, `"\xg4"`, `"\x4"`, `"\x""`, `"\xA1"`, `"\x1A"`, `"\xFF"`, `"\xaF"`, `"\x 1"`, `"\x-1"`, `"\x\x41"`, `"\x4\"`, `"\xx"`,
		"\"\\x\n\"", "\"\\x\n", "\"\\x4\n\"", "\"\\x4\n", "\"\\x\n1\"", "\"\\x/0\"", "\"\\x:0\"", "\"\\x`0\"",
		"\"\t\"", "\"\r\"", "\"\x00\"", "\"\x1f\"", "\"\x7f\"", "\"\x80\"", "\"\xff\"", "\"ü\"", "\"a\tb\"",
	} {
		fails(t, s, api.ErrChar)
	}
	// The byte that is no digit stands ahead of the end.
	for _, s := range []string{`"\x"`, `"\xg`, `"\x4g`, `"\x4"`, `"\x\`, `"\x4\`} {
		fails(t, s, api.ErrChar)
	}
}

func TestUnquoteOfALongText(t *testing.T) {
	for _, n := range []int{61, 62, 64, 100, 5000, 1 << 20} {
		fails(t, `"`+strings.Repeat("a", n)+`"`, api.ErrLong)
		fails(t, `"`+strings.Repeat(`\x41`, n)+`"`, api.ErrLong)
		fails(t, `"`+strings.Repeat(`\n`, n)+`"`, api.ErrLong)
		fails(t, `"`+strings.Repeat("a", n)+`""\q`, api.ErrLong)
	}
	fails(t, `"`+strings.Repeat("a", 60)+`\x41"`, api.ErrLong)
	fails(t, `"`+strings.Repeat("a", 60)+`\""`, api.ErrLong)
}

// The first error from the front on is told; that a text is too long comes behind all of them.
func TestUnquoteOfTwoErrors(t *testing.T) {
	long := strings.Repeat("a", 61)
	for s, want := range map[string]api.Errno{
		"a\n":                        api.ErrSyntax,
		"\t\"\n\"":                   api.ErrSyntax,
		"\\q\"":                      api.ErrSyntax,
		"\"\n\t\"":                   api.ErrOpen,
		"\"\n\\q\"":                  api.ErrOpen,
		"\"\t\n\"":                   api.ErrChar,
		"\"\t":                       api.ErrChar,
		"\"\\q":                      api.ErrChar,
		"\"\\q\n\"":                  api.ErrChar,
		"\"a\\\n\n\"":                api.ErrChar,
		"\"\\xg\n":                   api.ErrChar,
		"\"\n\\":                     api.ErrOpen,
		"\"\t\\":                     api.ErrChar,
		"\"" + long:                  api.ErrOpen,
		"\"" + long + "\n\"":         api.ErrOpen,
		"\"" + long + "\\":           api.ErrOpen,
		"\"" + long + "\\x4":         api.ErrOpen,
		"\"" + long + "\t\"":         api.ErrChar,
		"\"" + long + "\\q\"":        api.ErrChar,
		"\"" + long + "\\xF0\"":      api.ErrChar,
		"\"" + long + "\xff\"":       api.ErrChar,
		"\"" + long + "\t\n\"":       api.ErrChar,
		"\"" + long + "\n\t\"":       api.ErrOpen,
		"\"" + long + long + "\\\n":  api.ErrChar,
		"\"\t" + long + "\"":         api.ErrChar,
		"\"\n" + long + "\"":         api.ErrOpen,
		long + "\"":                  api.ErrSyntax,
		"\"" + long + "\"\n":         api.ErrLong,
		"\"" + long + "\"\\q\t\"\\x": api.ErrLong,
	} {
		fails(t, s, want)
	}
}

// P3.3

func TestWhatIsPackedIsUnpacked(t *testing.T) {
	d := dice(1)
	for range 20000 {
		s := d.text(60)
		packs(t, s, packed(s))
	}
}

// The numbers that are a string's are just those that Pack makes of it.
func TestNoOtherNumbersAreAString(t *testing.T) {
	d := dice(2)
	good := 0
	for range 100000 {
		l := packed(d.text(20))
		for range d.below(3) {
			l = d.changed(l)
		}
		s, e := strs.Unpack(l)
		back, f := strs.Pack(s)
		switch {
		case e == api.OK && f == api.OK && slices.Equal(back, l):
			good++
		case e != api.ErrArg || s != "":
			t.Fatalf("Unpack(%v) is %q, %v, and back it is %v, %v", l, s, e, back, f)
		case isAStrings(l):
			t.Fatalf("Unpack(%v) is %v", l, e)
		}
	}
	if good < 30000 || good > 90000 {
		t.Errorf("%d were strings", good)
	}
}

// isAStrings tells it by the chapter's words.
func isAStrings(l []int) bool {
	if len(l) == 0 || l[0] < 0 || l[0] > 60 || (l[0]+6)/7 != len(l)-1 {
		return false
	}
	left := l[0]
	for _, n := range l[1:] {
		if n < 0 || n >= power(min(left, 7)) {
			return false
		}
		left -= 7
	}
	return true
}

// P3.4

func TestWhatIsWrittenIsRead(t *testing.T) {
	d := dice(3)
	for range 20000 {
		s, more := d.text(60), d.text(9)
		w := strs.Quote(s)
		reads(t, w, s, len(w))
		reads(t, w+more, s, len(w))
	}
}

// Whatever is written of at most a few bytes: it is read as the model reads it.
func TestUnquoteIsAsTheModel(t *testing.T) {
	const bytes = "\"\\xnaG4\n\t"
	texts := []string{""}
	for range 6 {
		var longer []string
		for _, s := range texts {
			for i := range len(bytes) {
				longer = append(longer, s+bytes[i:i+1])
			}
		}
		for _, s := range longer {
			held(t, `"`+s)
		}
		texts = longer
	}
}

// The same, of long texts of any bytes.
func TestUnquoteOfLongTextsIsAsTheModel(t *testing.T) {
	d := dice(4)
	for range 50000 {
		s := []byte(strs.Quote(d.text(64)))
		for range d.below(3) {
			s[d.below(len(s))] = "\"\\xn0f \n\x00\xff"[d.below(10)]
		}
		held(t, string(s[:len(s)-d.below(2)*d.below(3)]))
	}
}

func held(t *testing.T, s string) {
	t.Helper()
	want, m, f := unquoted(s)
	if got, n, e := strs.Unquote(s); got != want || n != m || e != f {
		t.Fatalf("Unquote(%q) is %q, %d, %v, not %q, %d, %v", s, got, n, e, want, m, f)
	}
}

// unquoted reads byte by byte, with what it is waiting for.
func unquoted(s string) (string, int, api.Errno) {
	const inside, behind, high, low = 0, 1, 2, 3
	if !strings.HasPrefix(s, `"`) {
		return "", 0, api.ErrSyntax
	}
	text, state, n := "", inside, 0
	for i := 1; i < len(s); i++ {
		b := s[i]
		d := strings.IndexByte("0123456789abcdef", b)
		switch {
		case state == behind && b == 'x':
			state = high
		case state == behind && b == 'n':
			text, state = text+"\n", inside
		case state == behind && (b == '"' || b == '\\'):
			text, state = text+string(b), inside
		case state == high && d >= 0:
			n, state = d, low
		case state == low && d >= 0:
			text, state = text+string([]byte{byte(16*n + d)}), inside
		case state != inside:
			return "", 0, api.ErrChar
		case b == '"' && len(text) > 60:
			return "", 0, api.ErrLong
		case b == '"':
			return text, i + 1, api.OK
		case b == '\\':
			state = behind
		case b == 10:
			return "", 0, api.ErrOpen
		case b < 32 || b > 126:
			return "", 0, api.ErrChar
		default:
			text += string(b)
		}
	}
	return "", 0, api.ErrOpen
}

// dice tells numbers, the same ones in each run.
type dice uint64

// below is a number from 0 to n - 1.
func (d *dice) below(n int) int {
	*d = *d*6364136223846793005 + 1442695040888963407
	return int(uint64(*d) >> 33 % uint64(n))
}

// text is one of at most so many bytes; of some bytes there are many.
func (d *dice) text(most int) string {
	text := make([]byte, d.below(most+1))
	for i := range text {
		text[i] = byte(d.below(256))
		if d.below(3) == 0 {
			text[i] = "\x00\xff\n\"\\xn4"[d.below(8)]
		}
	}
	return string(text)
}

// changed is a list with one thing changed.
func (d *dice) changed(l []int) []int {
	if len(l) == 0 {
		return []int{d.below(3)}
	}
	i := d.below(len(l))
	switch d.below(5) {
	case 0:
		return l[:len(l)-1]
	case 1:
		return append(l, d.below(2)*d.below(300))
	case 2:
		l[i] += d.below(9) - 4
	case 3:
		l[i] ^= 1 << d.below(64)
	case 4:
		l[i] &= 255
	}
	return l
}
