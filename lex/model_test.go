package lex_test

import (
	"math/big"
	"regexp"
	"slices"
	"strings"
	"testing"

	"selvage/api"
	"selvage/lex"
	"selvage/strs"
)

// forms are what tokens are made of, as the chapter's words have it.
var forms = struct{ between, digits, name, con, sign *regexp.Regexp }{
	regexp.MustCompile(`^(?:[ \t\n]|#[^\n]*)*`),
	regexp.MustCompile(`^[0-9]+`),
	regexp.MustCompile(`^[a-z][a-zA-Z0-9_]*`),
	regexp.MustCompile(`^[A-Z][a-zA-Z0-9_]*`),
	regexp.MustCompile(`^(?:->|[-=<+*/%^;|(),_])`),
}

// modelled is a source's tokens, told by forms.
func modelled(s string) ([]api.Token, int, api.Errno) {
	if len(s) > 2000 {
		return nil, 0, api.ErrLong
	}
	var l []api.Token
	for at := 0; ; {
		at += len(forms.between.FindString(s[at:]))
		if at == len(s) {
			return append(l, api.Token{At: at}), 0, api.OK
		}
		token, n, e := firstToken(s[at:])
		if e != api.OK {
			return nil, at, e
		}
		token.At = at
		l = append(l, token)
		at += n
	}
}

// firstToken is the token that s begins with, and how many bytes it takes.
func firstToken(s string) (api.Token, int, api.Errno) {
	if d := forms.digits.FindString(s); d != "" {
		n, _ := new(big.Int).SetString(d, 10)
		if n.Cmp(big.NewInt(api.MaxInt)) > 0 {
			return api.Token{}, 0, api.ErrRange
		}
		return api.Token{Kind: api.TokInt, Number: int(n.Int64())}, len(d), api.OK
	}
	if s[0] == '"' {
		u, n, e := strs.Unquote(s)
		return api.Token{Kind: api.TokText, Text: u}, n, e
	}
	for _, x := range []struct {
		form *regexp.Regexp
		kind int
	}{{forms.name, api.TokName}, {forms.con, api.TokCon}, {forms.sign, api.TokSign}} {
		w := x.form.FindString(s)
		if w == "" {
			continue
		}
		if len(w) > 16 {
			return api.Token{}, 0, api.ErrLong
		}
		if slices.Contains(keys, w) {
			return api.Token{Kind: api.TokKey, Text: w}, len(w), api.OK
		}
		return api.Token{Kind: x.kind, Text: w}, len(w), api.OK
	}
	return api.Token{}, 0, api.ErrChar
}

func held(t *testing.T, s string) {
	t.Helper()
	want, m, f := modelled(s)
	if l, n, e := lex.Tokens(s); !slices.Equal(l, want) || n != m || e != f {
		t.Fatalf("Tokens(%q) is %v, %d, %v, not %v, %d, %v", s, l, n, e, want, m, f)
	}
}

// All sources of a few bytes of which something is made.
func TestShortSourcesAreAsTheModel(t *testing.T) {
	const bytes = "aZ0_->\"\\# \n$"
	sources := []string{""}
	for range 4 {
		var longer []string
		for _, s := range sources {
			for i := range len(bytes) {
				longer = append(longer, s+bytes[i:i+1])
			}
		}
		for _, s := range longer {
			held(t, s)
		}
		sources = longer
	}
}

// Each two bytes.
func TestEachTwoBytesAreAsTheModel(t *testing.T) {
	for a := range 256 {
		for b := range 256 {
			held(t, one(a)+one(b))
		}
	}
}

// Long sources of words and of what stands between, some of them with something wrong.
func TestLongSourcesAreAsTheModel(t *testing.T) {
	d := dice(1)
	good := 0
	for range 20000 {
		s := ""
		for range d.below(40) {
			s += d.word() + d.gap()
		}
		if d.below(3) == 0 && s != "" {
			i := d.below(len(s))
			s = s[:i] + one(d.below(256)) + s[i+d.below(2):]
		}
		held(t, s)
		if _, _, e := lex.Tokens(s); e == api.OK {
			good++
		}
	}
	if good < 5000 || good > 19000 {
		t.Errorf("%d went through", good)
	}
}

// P4.2: what stands between tokens changes nothing but places.
func TestWhatStandsBetweenDoesNotMatter(t *testing.T) {
	d := dice(2)
	for range 5000 {
		var words []string
		for range d.below(30) {
			words = append(words, d.word())
		}
		bare := strings.Join(words, " ")
		want, _, e := lex.Tokens(bare)
		if e != api.OK || len(want) != len(words)+1 {
			t.Fatalf("Tokens(%q) is %v, %v", bare, want, e)
		}
		s := d.gap()
		var places []int
		for i, w := range words {
			places = append(places, len(s))
			s += w
			if i+1 < len(words) && (runTogether(w, words[i+1]) || d.below(2) == 0) {
				s += d.wideGap()
			}
		}
		s += d.gap()
		places = append(places, len(s))
		got, at, e := lex.Tokens(s)
		if e != api.OK || at != 0 || len(got) != len(want) {
			t.Fatalf("Tokens(%q) is %v, %d, %v, not as %v", s, got, at, e, want)
		}
		for i := range got {
			want[i].At = places[i]
		}
		if !slices.Equal(got, want) {
			t.Fatalf("Tokens(%q) is %v, not %v", s, got, want)
		}
	}
}

// runTogether tells whether two words with nothing between are other ones.
func runTogether(a, b string) bool {
	among := func(c byte, s string) bool { return strings.IndexByte(s, c) >= 0 }
	switch {
	case among(a[0], small+capital):
		return among(b[0], small+capital+digits+"_")
	case among(a[0], digits):
		return among(b[0], digits)
	}
	return false // no word begins with `>`, so a sign stays what it is
}

// dice tells numbers, the same ones in each run.
type dice uint64

// below is a number from 0 to n - 1.
func (d *dice) below(n int) int {
	*d = *d*6364136223846793005 + 1442695040888963407
	return int(uint64(*d) >> 33 % uint64(n))
}

// word is a token as it stands in a source.
func (d *dice) word() string {
	const inside = small + capital + digits + "_"
	switch d.below(6) {
	case 0:
		return strings.Repeat("0", d.below(3)*d.below(30)) + "461168601842738790"[:d.below(18)+1]
	case 1:
		text := make([]byte, d.below(9))
		for i := range text {
			text[i] = byte(d.below(256))
		}
		return strs.Quote(string(text))
	case 2:
		return keys[d.below(len(keys))]
	case 3:
		return signs[d.below(len(signs))]
	}
	first := small + capital
	w := one(int(first[d.below(len(first))]))
	for range d.below(16) {
		w += one(int(inside[d.below(len(inside))]))
	}
	return w
}

// gap is what may stand between tokens, or nothing.
func (d *dice) gap() string {
	if d.below(3) == 0 {
		return ""
	}
	return d.wideGap()
}

// wideGap is what may stand between tokens.
func (d *dice) wideGap() string {
	s := ""
	for range 1 + d.below(3) {
		s += []string{" ", "\t", "\n", "# a \"1\n", "#\n", "#\xff#$\n"}[d.below(6)]
	}
	return s
}
