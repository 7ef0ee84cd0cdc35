package lex_test

import (
	"slices"
	"strconv"
	"strings"
	"testing"

	"selvage/api"
	"selvage/lex"
)

const (
	small   = "abcdefghijklmnopqrstuvwxyz"
	capital = "ABCDEFGHIJKLMNOPQRSTUVWXYZ"
	digits  = "0123456789"
)

// keys and signs are those that the chapter lists.
var (
	keys  = strings.Fields("let rec in fun if then else match with end try print raise spawn atomically retry orelse tvar read write type of do")
	signs = strings.Fields("-> = < + - * / % ^ ; | ( ) , _")
)

func name(s string, at int) api.Token { return api.Token{Kind: api.TokName, Text: s, At: at} }
func key(s string, at int) api.Token  { return api.Token{Kind: api.TokKey, Text: s, At: at} }
func con(s string, at int) api.Token  { return api.Token{Kind: api.TokCon, Text: s, At: at} }
func sign(s string, at int) api.Token { return api.Token{Kind: api.TokSign, Text: s, At: at} }
func text(s string, at int) api.Token { return api.Token{Kind: api.TokText, Text: s, At: at} }
func number(n, at int) api.Token      { return api.Token{Kind: api.TokInt, Number: n, At: at} }

// reads holds that a source is these tokens; behind them its end.
func reads(t *testing.T, s string, want ...api.Token) {
	t.Helper()
	want = append(want, api.Token{Kind: api.TokEnd, At: len(s)})
	if l, at, e := lex.Tokens(s); !slices.Equal(l, want) || at != 0 || e != api.OK {
		t.Errorf("Tokens(%.80q) is %v, %d, %v, not %v", s, l, at, e, want)
	}
}

// fails holds that a source's first token that may not be stands there.
func fails(t *testing.T, s string, at int, want api.Errno) {
	t.Helper()
	if l, n, e := lex.Tokens(s); len(l) != 0 || n != at || e != want {
		t.Errorf("Tokens(%.80q) is %v, %d, %v, not %d, %v", s, l, n, e, at, want)
	}
}

// one is the text of a single byte.
func one(b int) string { return string([]byte{byte(b)}) }

// P4.1: ordinary sources.

func TestTokens(t *testing.T) {
	reads(t, `x1->"a"`, name("x1", 0), sign("->", 2), text("a", 4))
	reads(t, "A b", con("A", 0), name("b", 2))
	reads(t, "do 1 + 2 * 3", key("do", 0), number(1, 3), sign("+", 5), number(2, 7), sign("*", 9), number(3, 11))
	reads(t, "let rec f = fun x -> f (x - 1);", key("let", 0), key("rec", 4), name("f", 8), sign("=", 10), key("fun", 12),
		name("x", 16), sign("->", 18), name("f", 21), sign("(", 23), name("x", 24), sign("-", 26), number(1, 28), sign(")", 29), sign(";", 30))
	reads(t, "type list a = Nil | Cons of a, list a;", key("type", 0), name("list", 5), name("a", 10), sign("=", 12), con("Nil", 14),
		sign("|", 18), con("Cons", 20), key("of", 25), name("a", 28), sign(",", 29), name("list", 31), name("a", 36), sign(";", 37))
	reads(t, "# first\nmatch l with | _ -> print \"a\\n\" # last\nend\n", key("match", 8), name("l", 14), key("with", 16), sign("|", 21),
		sign("_", 23), sign("->", 25), key("print", 28), text("a\n", 34), key("end", 47))
}

// No token at all: the end alone, at the source's length.
func TestNoToken(t *testing.T) {
	for _, s := range []string{"", " ", "\t", "\n", " \t\n", "#", "##", "# let", "#\n", "# \n#", "\n\n#\n", " # a\n\t# b\n ", strings.Repeat(" ", 2000), "#" + strings.Repeat("a", 1999)} {
		reads(t, s)
	}
}

// P4.1: sources that are too long.

func TestLengthOfASource(t *testing.T) {
	reads(t, strings.Repeat(" ", 1999)+"a", name("a", 1999))
	reads(t, "a"+strings.Repeat("\n", 1999), name("a", 0))
	reads(t, strings.Repeat("#", 1998)+"\n1", number(1, 1999))
	var many []api.Token
	for at := range 2000 {
		many = append(many, sign("(", at))
	}
	reads(t, strings.Repeat("(", 2000), many...)
	reads(t, strings.Repeat("(", 1999), many[:1999]...)
	for _, n := range []int{2001, 2002, 4000, 1 << 16, 1 << 22} {
		for _, part := range []string{" ", "\n", "#", "a", "A", "1", "0", "(", `"`, "$", "\x00", "\xff"} {
			fails(t, strings.Repeat(part, n), 0, api.ErrLong)
		}
		fails(t, "a"+strings.Repeat(" ", n-1), 0, api.ErrLong)
		fails(t, "#"+strings.Repeat("a", n-1), 0, api.ErrLong)
	}
}

// A source that is too long is that ahead of all its tokens.
func TestLongSourceWithAnotherError(t *testing.T) {
	for _, x := range []struct {
		s string
		e api.Errno
	}{{"$", api.ErrChar}, {`"`, api.ErrOpen}, {`"\q"`, api.ErrChar}, {"4611686018427387904", api.ErrRange}, {strings.Repeat("a", 17), api.ErrLong}} {
		room := strings.Repeat(" ", 2000-len(x.s))
		fails(t, room+x.s, len(room), x.e)
		fails(t, x.s+room, 0, x.e)
		fails(t, " "+x.s+room[1:], 1, x.e)
		fails(t, " "+room+x.s, 0, api.ErrLong)
		fails(t, x.s+room+" ", 0, api.ErrLong)
		fails(t, " "+x.s+room, 0, api.ErrLong)
	}
}

// P4.1: digits.

func TestDigits(t *testing.T) {
	for s, n := range map[string]int{
		"0": 0, "1": 1, "9": 9, "10": 10, "100": 100, "1234567890": 1234567890,
		"00": 0, "000": 0, "01": 1, "007": 7, "0010": 10, "0100200": 100200,
		"4611686018427387903": api.MaxInt, "4611686018427387902": api.MaxInt - 1, "4611686018427387899": api.MaxInt - 4,
		"04611686018427387903": api.MaxInt, strings.Repeat("0", 100) + "4611686018427387903": api.MaxInt,
		strings.Repeat("0", 1981) + "4611686018427387903": api.MaxInt,
		strings.Repeat("0", 2000):                         0, strings.Repeat("0", 1999) + "8": 8, strings.Repeat("0", 30): 0,
	} {
		reads(t, s, number(n, 0))
	}
	for n := range 1000 {
		reads(t, strconv.Itoa(n*n), number(n*n, 0))
		reads(t, " 0"+strconv.Itoa(n)+" ", number(n, 1))
	}
	reads(t, "1 2", number(1, 0), number(2, 2))
	reads(t, "-1", sign("-", 0), number(1, 1))
	reads(t, "1-1", number(1, 0), sign("-", 1), number(1, 2))
	reads(t, "- 4611686018427387903", sign("-", 0), number(api.MaxInt, 2))
	reads(t, "0x1", number(0, 0), name("x1", 1))
	reads(t, "1e3", number(1, 0), name("e3", 1))
	reads(t, "1_000", number(1, 0), sign("_", 1), number(0, 2))
}

func TestDigitsOfNoInteger(t *testing.T) {
	for _, s := range []string{
		"4611686018427387904", "4611686018427387905", "4611686018427387910", "5000000000000000000", "9223372036854775807", "9223372036854775808",
		"18446744073709551615", "18446744073709551616", "18446744073709551617", "46116860184273879030", "99999999999999999999",
		"36893488147419103233", strings.Repeat("9", 2000), "1" + strings.Repeat("0", 1999), "1" + strings.Repeat("0", 19),
	} {
		fails(t, s, 0, api.ErrRange)
		for _, ahead := range []string{"0", strings.Repeat("0", 25)} {
			if len(ahead+s) <= 2000 {
				fails(t, ahead+s, 0, api.ErrRange)
			}
		}
		if len(s) < 100 {
			fails(t, "a + "+s, 4, api.ErrRange)
			fails(t, "-"+s, 1, api.ErrRange)
			fails(t, "# no\n00"+s+"a", 5, api.ErrRange)
		}
	}
}

// P4.1: names, keys, constructors' names.

func TestNames(t *testing.T) {
	for i := range len(small) {
		reads(t, small[i:i+1], name(small[i:i+1], 0))
		reads(t, capital[i:i+1], con(capital[i:i+1], 0))
	}
	for _, rest := range []string{"a", "Z", "0", "9", "_", "__", "_1", "1_", "aB", "Ab", "007", "let", "a_B_9"} {
		reads(t, "x"+rest, name("x"+rest, 0))
		reads(t, "X"+rest, con("X"+rest, 0))
	}
	reads(t, "Let LET Do", con("Let", 0), con("LET", 4), con("Do", 8))
	reads(t, "aA Aa", name("aA", 0), con("Aa", 3))
}

// All bytes that may stand in a name stand in it, and no other one.
func TestNamesEndAtEachOtherByte(t *testing.T) {
	for b := range 256 {
		s := "xa" + one(b) + "c"
		c := "Xa" + one(b) + "c"
		switch {
		case strings.Contains(small+capital+digits+"_", one(b)):
			reads(t, s, name(s, 0))
			reads(t, c, con(c, 0))
		case b == ' ' || b == '\t' || b == '\n':
			reads(t, s, name("xa", 0), name("c", 3))
			reads(t, c, con("Xa", 0), name("c", 3))
		case b == '#':
			reads(t, s, name("xa", 0))
			reads(t, c, con("Xa", 0))
		case b == '"':
			fails(t, s, 2, api.ErrOpen)
			fails(t, c, 2, api.ErrOpen)
		case slices.Contains(signs, one(b)):
			reads(t, s, name("xa", 0), sign(one(b), 2), name("c", 3))
			reads(t, c, con("Xa", 0), sign(one(b), 2), name("c", 3))
		default:
			fails(t, s, 2, api.ErrChar)
			fails(t, c, 2, api.ErrChar)
		}
	}
}

// A name has at most 16 bytes, of whatever kind they are; so has one that begins as a key does.
func TestLengthOfANameIsAtMost16(t *testing.T) {
	for _, fill := range []string{"a", "Z", "0", "_"} {
		for n := range 40 {
			for _, first := range append([]string{"x", "X", "Let"}, keys...) {
				s := first + strings.Repeat(fill, n)
				want := name(s, 0)
				switch {
				case first[0] <= 'Z':
					want = con(s, 0)
				case slices.Contains(keys, s):
					want = key(s, 0)
				}
				if len(s) > 16 {
					fails(t, s, 0, api.ErrLong)
					fails(t, "( "+s+" )", 2, api.ErrLong)
				} else {
					reads(t, s, want)
				}
			}
		}
	}
	reads(t, "abcdefghijklmnop", name("abcdefghijklmnop", 0))
	reads(t, "Abcdefghijklmnop", con("Abcdefghijklmnop", 0))
	fails(t, "x abcdefghijklmnopq", 2, api.ErrLong)
	fails(t, "x Abcdefghijklmnopq", 2, api.ErrLong)
	fails(t, "abcdefghijklmnopq", 0, api.ErrLong)
	fails(t, strings.Repeat("a", 2000), 0, api.ErrLong)
	fails(t, strings.Repeat("Z", 2000), 0, api.ErrLong)
	reads(t, "abcdefghijklmnop abcdefghijklmnop", name("abcdefghijklmnop", 0), name("abcdefghijklmnop", 17))
	reads(t, `abcdefghijklmnop"a"Abcdefghijklmnop`, name("abcdefghijklmnop", 0), text("a", 16), con("Abcdefghijklmnop", 19))
}

func TestKeys(t *testing.T) {
	if len(keys) != 23 {
		t.Fatal(len(keys))
	}
	for _, k := range keys {
		if !lex.Key(k) {
			t.Errorf("%s is no key", k)
		}
		reads(t, k, key(k, 0))
		reads(t, " "+k+" "+k, key(k, 1), key(k, 2+len(k)))
		reads(t, k+"("+k, key(k, 0), sign("(", len(k)), key(k, len(k)+1))
		reads(t, strings.ToUpper(k), con(strings.ToUpper(k), 0))
		reads(t, strings.ToUpper(k[:1])+k[1:], con(strings.ToUpper(k[:1])+k[1:], 0))
		reads(t, "_"+k, sign("_", 0), key(k, 1))
		reads(t, "1"+k, number(1, 0), key(k, 1))
	}
}

// What is a key but for one more byte, one less, or another one is none.
func TestWhatIsNoKey(t *testing.T) {
	none := func(s string) {
		t.Helper()
		if lex.Key(s) != slices.Contains(keys, s) {
			t.Errorf("Key(%q) is %v", s, lex.Key(s))
		}
	}
	for _, k := range keys {
		for b := range 256 {
			for i := range len(k) + 1 {
				none(k[:i] + one(b) + k[i:])
			}
			for i := range len(k) {
				none(k[:i] + one(b) + k[i+1:])
			}
			if strings.Contains(small+capital+digits+"_", one(b)) {
				reads(t, k+one(b), name(k+one(b), 0))
			}
		}
		for _, b := range small {
			if s := string(b) + k; !slices.Contains(keys, s) {
				reads(t, s, name(s, 0))
			}
		}
		for i := range len(k) {
			if s := k[:i]; i > 0 && !slices.Contains(keys, s) {
				none(s)
				reads(t, s, name(s, 0))
			}
			none(k[:i] + k[i+1:])
		}
		none(strings.ToUpper(k))
		none(k + k)
		none(k + " " + k)
	}
	for _, s := range append([]string{"", " ", "x", "X", "0", "let rec", "case", "and", "lets", strings.Repeat("a", 1<<20), "\x00", "\xff"}, signs...) {
		none(s)
	}
}

// P4.1: signs.

func TestSigns(t *testing.T) {
	if len(signs) != 15 {
		t.Fatal(len(signs))
	}
	for _, s := range signs {
		reads(t, s, sign(s, 0))
		reads(t, "1"+s+"b", number(1, 0), sign(s, 1), name("b", 1+len(s)))
		reads(t, ` "a"`+s+"\n", text("a", 1), sign(s, 4))
	}
}

// Each two signs beside one another are two, but for `->`, which is as long as can be.
func TestSignsBesideOneAnother(t *testing.T) {
	for _, a := range signs {
		for _, b := range signs {
			reads(t, a+b, sign(a, 0), sign(b, len(a)))
			reads(t, a+" "+b, sign(a, 0), sign(b, len(a)+1))
		}
	}
	reads(t, "->", sign("->", 0))
	reads(t, "-->", sign("-", 0), sign("->", 1))
	reads(t, "->-", sign("->", 0), sign("-", 2))
	reads(t, "->->", sign("->", 0), sign("->", 2))
	reads(t, "--", sign("-", 0), sign("-", 1))
	reads(t, "-", sign("-", 0))
	fails(t, "- >", 2, api.ErrChar)
	fails(t, "-\n>", 2, api.ErrChar)
	fails(t, "-#\n>", 3, api.ErrChar)
	fails(t, "->>", 2, api.ErrChar)
	fails(t, ">", 0, api.ErrChar)
	fails(t, ">-", 0, api.ErrChar)
	fails(t, "=>", 1, api.ErrChar)
	fails(t, "<>", 1, api.ErrChar)
}

func TestUnderscore(t *testing.T) {
	reads(t, "_", sign("_", 0))
	reads(t, "__", sign("_", 0), sign("_", 1))
	reads(t, "_a", sign("_", 0), name("a", 1))
	reads(t, "_A", sign("_", 0), con("A", 1))
	reads(t, "_1", sign("_", 0), number(1, 1))
	reads(t, "_let", sign("_", 0), key("let", 1))
	reads(t, "a_", name("a_", 0))
	reads(t, "A_", con("A_", 0))
	reads(t, "let_", name("let_", 0))
	reads(t, "1_", number(1, 0), sign("_", 1))
	reads(t, "a _ b", name("a", 0), sign("_", 2), name("b", 4))
	reads(t, `_"_"_`, sign("_", 0), text("_", 1), sign("_", 4))
}

// P4.1: strings.

func TestStrings(t *testing.T) {
	reads(t, `""`, text("", 0))
	reads(t, `"a b"`, text("a b", 0))
	reads(t, `"a\n\"\\\x41\xff"z`, text("a\n\"\\A\xff", 0), name("z", 17))
	reads(t, `""""`, text("", 0), text("", 2))
	reads(t, `"a""b"`, text("a", 0), text("b", 3))
	reads(t, `"# no"`, text("# no", 0))
	reads(t, `"let"`, text("let", 0))
	reads(t, `"1"`, text("1", 0))
	reads(t, `"$>!"`, text("$>!", 0))
	reads(t, `"`+strings.Repeat("a", 60)+`"`, text(strings.Repeat("a", 60), 0))
	reads(t, `"`+strings.Repeat(`\x00`, 60)+`" a`, text(strings.Repeat("\x00", 60), 0), name("a", 243))
}

// Each error of a string is told at the place of its begin.
func TestWrongStrings(t *testing.T) {
	for s, want := range map[string]api.Errno{
		`"`: api.ErrOpen, `"a`: api.ErrOpen, `"\`: api.ErrOpen, `"\"`: api.ErrOpen, `"a\x4`: api.ErrOpen, "\"\n\"": api.ErrOpen, "\"abc\n": api.ErrOpen,
		`"# a`: api.ErrOpen, "\"abc # \n\"": api.ErrOpen,
		`"\q"`: api.ErrChar, `"abc\xg0"`: api.ErrChar, `"\xFF"`: api.ErrChar, "\"\t\"": api.ErrChar, "\"a\x7f\"": api.ErrChar, "\"\x00\"": api.ErrChar, "\"ü\"": api.ErrChar, "\"\\\n\"": api.ErrChar,
		`"` + strings.Repeat("a", 61) + `"`: api.ErrLong, `"` + strings.Repeat(`\n`, 100) + `"`: api.ErrLong,
		`"` + strings.Repeat("a", 61):                api.ErrOpen,
		`"` + strings.Repeat("a", 61) + `\q"`:        api.ErrChar,
		`"` + strings.Repeat("a", 61) + "\n\"":       api.ErrOpen,
		`"` + strings.Repeat("a", 61) + `" "` + "\n": api.ErrLong,
	} {
		for _, ahead := range []string{"", " ", "a ", "a", "(", `"a"`, "1", "# \"\n", "\t\n", "->"} {
			fails(t, ahead+s, len(ahead), want)
		}
	}
}

// P4.1: bytes with which nothing begins.

func TestEachByteAhead(t *testing.T) {
	for b := range 256 {
		s := one(b)
		switch {
		case strings.Contains(small, s):
			reads(t, s, name(s, 0))
		case strings.Contains(capital, s):
			reads(t, s, con(s, 0))
		case strings.Contains(digits, s):
			reads(t, s, number(b-'0', 0))
		case slices.Contains(signs, s):
			reads(t, s, sign(s, 0))
		case s == `"`:
			fails(t, s, 0, api.ErrOpen)
		case s == "#" || s == " " || s == "\t" || s == "\n":
			reads(t, s)
		default:
			fails(t, s, 0, api.ErrChar)
			fails(t, "a"+s, 1, api.ErrChar)
			fails(t, "a "+s, 2, api.ErrChar)
			fails(t, "12"+s+"b", 2, api.ErrChar)
			fails(t, `"a"`+s+"b", 3, api.ErrChar)
			fails(t, "+"+s, 1, api.ErrChar)
			fails(t, " # "+s+"\n"+s, 5, api.ErrChar)
		}
	}
	fails(t, "$", 0, api.ErrChar)
	fails(t, "é", 0, api.ErrChar)
	fails(t, "aé", 1, api.ErrChar)
	fails(t, "1１", 1, api.ErrChar)
	fails(t, "a\u00a0b", 1, api.ErrChar)
	fails(t, "\ufeffa", 0, api.ErrChar)
}

// P4.1: bytes 32, 9 and 10 stand between tokens, and no other one below 32 or above 126.
func TestWhatStandsBetween(t *testing.T) {
	for b := range 256 {
		s := "a" + one(b) + "1"
		switch {
		case b == 32 || b == 9 || b == 10:
			reads(t, s, name("a", 0), number(1, 2))
			reads(t, strings.Repeat(one(b), 5)+"a"+one(b), name("a", 5))
		case b < 32 || b > 126:
			fails(t, s, 1, api.ErrChar)
			fails(t, one(b), 0, api.ErrChar)
			fails(t, "a "+one(b)+" b", 2, api.ErrChar)
			reads(t, "#"+one(b)+"\na", name("a", 3))
		}
	}
	fails(t, "a\r\nb", 1, api.ErrChar)
	fails(t, "a\vb", 1, api.ErrChar)
	fails(t, "a\fb", 1, api.ErrChar)
}

// P4.1: remarks.

func TestRemarks(t *testing.T) {
	reads(t, "a # b\nc", name("a", 0), name("c", 6))
	reads(t, "a#b\nc", name("a", 0), name("c", 4))
	reads(t, "a # b c", name("a", 0))
	reads(t, "a #", name("a", 0))
	reads(t, "#\na", name("a", 2))
	reads(t, "##\n#\n \n#a\na", name("a", 10))
	reads(t, "# # b\na", name("a", 6))
	reads(t, "# \" 99999999999999999999 $ abcdefghijklmnopqrst \\q\na", name("a", 51))
	reads(t, "# \" 99999999999999999999 $ abcdefghijklmnopqrst \\q")
	reads(t, "#\r\t \xff\x00\na", name("a", 7))
	reads(t, "#\\\na", name("a", 3))
	reads(t, "1#\n2", number(1, 0), number(2, 3))
	reads(t, "-#\n-", sign("-", 0), sign("-", 3))
	reads(t, "\"a\"#\n\"b\"", text("a", 0), text("b", 5))
	reads(t, "let#\nrec", key("let", 0), key("rec", 5))
	reads(t, "a # b\r c\nd", name("a", 0), name("d", 9))
	for b := range 256 {
		if b != 10 {
			reads(t, "a#"+one(b)+"b\nc", name("a", 0), name("c", 5))
			reads(t, "a#b"+one(b), name("a", 0))
		}
	}
}

// P4.1: tokens with nothing between.
func TestTokensWithNothingBetween(t *testing.T) {
	reads(t, `1a`, number(1, 0), name("a", 1))
	reads(t, `1A`, number(1, 0), con("A", 1))
	reads(t, `1let`, number(1, 0), key("let", 1))
	reads(t, `1"a"1`, number(1, 0), text("a", 1), number(1, 4))
	reads(t, `a"b"c`, name("a", 0), text("b", 1), name("c", 4))
	reads(t, `A"b"C`, con("A", 0), text("b", 1), con("C", 4))
	reads(t, `let"b"in`, key("let", 0), text("b", 3), key("in", 6))
	reads(t, `f(x,1)`, name("f", 0), sign("(", 1), name("x", 2), sign(",", 3), number(1, 4), sign(")", 5))
	reads(t, `|A->_`, sign("|", 0), con("A", 1), sign("->", 2), sign("_", 4))
	reads(t, `a+b;c`, name("a", 0), sign("+", 1), name("b", 2), sign(";", 3), name("c", 4))
	reads(t, `a<-b`, name("a", 0), sign("<", 1), sign("-", 2), name("b", 3))
	reads(t, `()`, sign("(", 0), sign(")", 1))
	reads(t, `x^"a"^y`, name("x", 0), sign("^", 1), text("a", 2), sign("^", 5), name("y", 6))
}

// P4.1: At of each token is the place of its first byte, that of the end is the source's length.
func TestAt(t *testing.T) {
	parts := []string{"a", "A1", "12", `"a\n"`, "->", "let", "_", "-", "0", `""`}
	between := []string{" ", "\t", "\n", "  \n", "#\n", " # \"1\n\t", "#a\n#b\n"}
	for _, gap := range between {
		for _, behind := range []string{"", gap, gap + "# the end", "#"} {
			source := gap
			var places []int
			for _, p := range parts {
				places = append(places, len(source))
				source += p + gap
			}
			source += behind
			places = append(places, len(source))
			l, _, e := lex.Tokens(source)
			if e != api.OK || len(l) != len(places) {
				t.Fatalf("Tokens(%q) is %v, %v", source, l, e)
			}
			for i, at := range places {
				if l[i].At != at {
					t.Errorf("token %d of %q stands at %d, not at %d", i, source, l[i].At, at)
				}
			}
		}
	}
}

// P4.1: of two tokens that may not be, the first one is told.
func TestTwoErrors(t *testing.T) {
	wrong := []struct {
		s string
		e api.Errno
	}{
		{"$", api.ErrChar}, {">", api.ErrChar}, {"\x00", api.ErrChar}, {`"\q"`, api.ErrChar}, {"\"\n", api.ErrOpen},
		{`"` + strings.Repeat("a", 61) + `"`, api.ErrLong}, {"4611686018427387904", api.ErrRange},
		{"abcdefghijklmnopq", api.ErrLong}, {"Abcdefghijklmnopq", api.ErrLong},
	}
	for _, a := range wrong {
		for _, b := range wrong {
			fails(t, a.s+" "+b.s, 0, a.e)
			fails(t, "let x = "+a.s+" in "+b.s, 8, a.e)
			fails(t, "# "+strings.ReplaceAll(b.s, "\n", "")+"\n"+a.s+" "+b.s, 3+len(strings.ReplaceAll(b.s, "\n", "")), a.e)
		}
		fails(t, a.s+` "`, 0, a.e)
	}
	fails(t, `"abc $`, 0, api.ErrOpen)
	fails(t, `$ "abc`, 0, api.ErrChar)
}
