package code_test

import (
	"slices"
	"strings"
	"testing"

	"selvage/api"
	"selvage/code"
)

// none holds that bytes are no code's.
func none(t *testing.T, b string) {
	t.Helper()
	if c, e := code.Decode([]byte(b)); e != api.ErrBytes || !same(c, api.Code{}) {
		t.Errorf("Decode of %.80q is %v, %v", b, c, e)
	}
}

// back are the bytes of the functions of a small code.
const back = "\x01\x00\x00\x01\x01\x00\x0f\x00\x00\x00\x00"

// P13.1: bytes that are too few, or too many, are none's.
func TestTooFewAndTooMany(t *testing.T) {
	for _, c := range samples() {
		b, e := code.Encode(c)
		if e != api.OK {
			t.Fatal(e)
		}
		for n := range min(len(b), 300) {
			none(t, string(b[:n]))
			none(t, string(b[:len(b)-1-n]))
			none(t, string(b[n+1:]))
		}
		for _, more := range []string{"\x00", "\x01", "S", "SM1", string(b), strings.Repeat("\x00", 5)} {
			none(t, string(b)+more)
			none(t, more+string(b))
		}
	}
}

// P13.1: bytes that begin otherwise are none's.
func TestOtherHeads(t *testing.T) {
	b, _ := code.Encode(small())
	for at := range 3 {
		for x := range 256 {
			c := slices.Clone(b)
			if c[at] = byte(x); x != int(b[at]) {
				none(t, string(c))
			}
		}
	}
	for _, head := range []string{"", "S", "SM", "SM2", "sm1", "MS1", "SM11", "\xef\xbb\xbfSM1"} {
		none(t, head+"\x00\x00\x00"+back)
	}
}

// P13.1: numbers that are too great, or too small, are none's.
func TestNumbersThatMayNotBe(t *testing.T) {
	null := "\x00\x00\x00\x00\x00\x00\x00\x00"
	for _, b := range []string{
		"\x3d\x00\x00" + back, "\xff\x00\x00" + back, // lets
		"\x00\x79" + strings.Repeat(null, 121) + "\x00" + back, "\x00\xff" + strings.Repeat(null, 255) + "\x00" + back, // constants
		"\x00\x01\x00\x00\x00\x00\x00\x00\x00\x40\x00" + back, "\x00\x01\xff\xff\xff\xff\xff\xff\xff\xbf\x00" + back, "\x00\x01\x00\x00\x00\x00\x00\x00\x00\x80\x00" + back, "\x00\x01\xff\xff\xff\xff\xff\xff\xff\x7f\x00" + back,
		"\x00\x00\x79" + strings.Repeat("\x01a", 121) + back, "\x00\x00\x79" + strings.Repeat("\x00", 121) + back, "\x00\x00\xff" + strings.Repeat("\x01a", 255) + back, // texts
		"\x00\x00\x01\x3d" + strings.Repeat("a", 61) + back, "\x00\x00\x01\xff" + strings.Repeat("a", 255) + back,
		"\x00\x00\x00\x00", "\x00\x00\x00\x79" + strings.Repeat(back[1:], 121), "\x00\x00\x00\xff" + strings.Repeat(back[1:], 255), // functions
		"\x00\x00\x00\x01\x3c\x00\x01\x01\x00\x0f\x00\x00\x00\x00", "\x00\x00\x00\x01\x00\x3d\x01\x01\x00\x0f\x00\x00\x00\x00", "\x00\x00\x00\x01\x00\x00\x3d\x01\x00\x0f\x00\x00\x00\x00", "\x00\x00\x00\x01\x00\x00\x00\x01\x00\x0f\x00\x00\x00\x00",
		"\x00\x00\x00\x01\x00\x00\x01\x00\x00", "\x00\x00\x00\x01\x00\x00\x01\x91\x01" + strings.Repeat("\x0f\x00\x00\x00\x00", 401), "\x00\x00\x00\x01\x00\x00\x01\xff\xff" + strings.Repeat("\x0f\x00\x00\x00\x00", 65535), // instructions
		"\x00\x00\x00\x01\x00\x00\x01\x01\x00\x00\x00\x00\x00\x00", "\x00\x00\x00\x01\x00\x00\x01\x01\x00\x22\x00\x00\x00\x00", "\x00\x00\x00\x01\x00\x00\x01\x01\x00\xff\x00\x00\x00\x00",
		"\x00\x00\x00\x01\x00\x00\x01\x01\x00\x0f\x01\x00\x00\x00", "\x00\x00\x00\x01\x00\x00\x01\x01\x00\x0f\x00\x01\x00\x00", "\x00\x00\x00\x01\x00\x00\x01\x01\x00\x0f\x00\x00\x01\x00", "\x00\x00\x00\x01\x00\x00\x01\x01\x00\x0f\x00\x00\x00\x01",
		"\x00\x00\x00\x01\x00\x00\x01\x01\x00\x01\x00\x00\x01\x00", "\x00\x00\x00\x01\x00\x00\x01\x01\x00\x01\x00\x00\x00\x01",
	} {
		none(t, "SM1"+b)
	}
	none(t, "")
	none(t, strings.Repeat("\x00", 1000))
	none(t, strings.Repeat("\xff", 1000))
	none(t, "SM1"+strings.Repeat("\xff", 100000))
	none(t, "SM1\x00\x00\x00\x78"+strings.Repeat("\x00\x00\x01\xff\xff"+strings.Repeat("\x0f\x00\x00\x00\x00", 65535), 120))
}

// P13.1: where a number of things is too great, as many as may be don't stand for them.
func TestCountsThatMayNotBe(t *testing.T) {
	one, instr := strings.Repeat("\x00", 8), "\x0f\x00\x00\x00\x00"
	for _, count := range []string{"\x79", "\x7a", "\xff"} {
		for _, things := range []int{0, 1, 119, 120, 121, 122} {
			none(t, "SM1\x00"+count+strings.Repeat(one, things)+"\x00"+back)
			none(t, "SM1\x00\x00"+count+strings.Repeat("\x01a", things)+back)
			none(t, "SM1\x00\x00\x00"+count+strings.Repeat(back[1:], things))
		}
	}
	for _, count := range []string{"\x91\x01", "\x92\x01", "\xff\xff", "\x00\x02"} {
		for _, things := range []int{0, 1, 399, 400, 401, 402} {
			none(t, "SM1\x00\x00\x00\x01\x00\x01\x01"+count+strings.Repeat(instr, things))
		}
	}
}

// P13.3: a code that is changed at one byte is another one's, or none's.
func TestEachByteCounts(t *testing.T) {
	for _, c := range samples() {
		b, _ := code.Encode(c)
		for at := 0; at < len(b); at += 1 + len(b)/900*30 {
			for _, x := range []byte{1, 2, 3, 4, 8, 16, 32, 64, 128, 255, 14} {
				was := b[at]
				b[at] ^= x
				d, e := code.Decode(b)
				switch again, f := code.Encode(d); {
				case e == api.OK && (same(d, c) || f != api.OK || !slices.Equal(again, b)):
					t.Errorf("%q: %v, and again %q, %v", b, d, again, f)
				case e != api.OK && (e != api.ErrBytes || !same(d, api.Code{})):
					t.Errorf("%q: %v, %v", b, d, e)
				}
				b[at] = was
			}
		}
	}
}

// samples are codes that may be, with each Op, and all that may be great or small among them.
func samples() []api.Code {
	var each []api.Instr
	for op := api.OpInt; op <= api.OpWrite; op++ {
		i := api.Instr{Op: op}
		if uses := ops()[op]; uses > 0 {
			i.A = op * 1900
			if uses > 1 {
				i.B = 65535 - op
			}
		}
		each = append(each, i)
	}
	least := api.Instr{Op: api.OpInt}
	return []api.Code{
		small(), three(),
		{Lets: 2, Ints: []int{-1, 1 << 40}, Texts: []string{"a\x00"}, Funs: []api.Body{{Locals: 3, Stack: 4, Code: []api.Instr{{Op: api.OpMake, A: 199, B: 2}, {Op: api.OpReturn}}}, {Kept: 1, Locals: 1, Stack: 1, Code: []api.Instr{{Op: api.OpJump, A: 300}}}}},
		{Lets: 60, Ints: []int{api.MinInt, api.MaxInt, 0, -5, 1 << 33, -1 << 33}, Texts: []string{"", "SM1", strings.Repeat("\xfe", 60)}, Funs: []api.Body{{Kept: 59, Locals: 60, Stack: 60, Code: each}, body(each[:7]...), body(least)}},
		{Lets: 60, Ints: many(120, api.MinInt), Texts: many(120, strings.Repeat("t", 60)), Funs: []api.Body{body(many(400, api.Instr{Op: api.OpCase, A: 65535, B: 65535})...)}},
		{Funs: many(120, api.Body{Kept: 59, Locals: 60, Stack: 60, Code: many(400, api.Instr{Op: api.OpMake, A: 65535, B: 65535})})},
	}
}
