package code_test

import (
	"bytes"
	"encoding/binary"
	"io"
	"math/big"
	"slices"
	"testing"

	"selvage/api"
	"selvage/code"
)

// dice tells numbers that look like chance, and are the same each time.
type dice uint64

func (d *dice) below(n int) int {
	*d = *d*6364136223846793005 + 1442695040888963407
	return int(uint64(*d) >> 33 % uint64(n))
}

// number is one near an edge of what a number may be, or somewhere between.
func (d *dice) number(least, greatest int) int {
	switch d.below(12) {
	case 0:
		return least
	case 1:
		return greatest
	case 2:
		return []int{least - 1, greatest + 1, -1, greatest + 200, -1 << 63, 1<<63 - 1}[d.below(6)]
	}
	return least + d.below(min(greatest-least, 1<<30)) + 1
}

// code is one that may be, or nearly so.
func (d *dice) code() api.Code {
	var c api.Code
	c.Lets = d.below(61)
	for range d.below(5) {
		c.Ints = append(c.Ints, (d.below(1<<30)-1<<29)<<d.below(33))
	}
	for range d.below(5) {
		text := make([]byte, d.below(61))
		for i := range text {
			text[i] = byte(d.below(256))
		}
		c.Texts = append(c.Texts, string(text))
	}
	for range 1 + d.below(4) {
		f := api.Body{Kept: d.below(60), Locals: d.below(61), Stack: 1 + d.below(60)}
		for range 1 + d.below(9) {
			f.Code = append(f.Code, d.instr())
		}
		c.Funs = append(c.Funs, f)
	}
	d.spoil(&c)
	return c
}

func (d *dice) instr() api.Instr {
	i := api.Instr{Op: 1 + d.below(33)}
	uses := ops()[i.Op]
	if uses > 0 {
		i.A = d.below(65536)
	}
	if uses > 1 {
		i.B = d.below(65536)
	}
	return i
}

// spoil changes one thing of a code, or none.
func (d *dice) spoil(c *api.Code) {
	f := &c.Funs[d.below(len(c.Funs))]
	i := &f.Code[d.below(len(f.Code))]
	switch d.below(14) {
	case 0:
		c.Lets = d.number(0, 60)
	case 1:
		f.Kept = d.number(0, 59)
	case 2:
		f.Locals = d.number(0, 60)
	case 3:
		f.Stack = d.number(1, 60)
	case 4:
		i.Op = d.number(1, 33)
	case 5:
		i.A = d.number(0, 65535)
	case 6:
		i.B = d.number(0, 65535)
	case 7:
		c.Ints = append(c.Ints, []int{api.MinInt, api.MaxInt, api.MinInt - 1, api.MaxInt + 1, -1 << 63, 1<<63 - 1}[d.below(6)])
	case 8:
		c.Texts = append(c.Texts, string(make([]byte, 58+d.below(5))))
	case 9:
		switch n := 118 + d.below(5); d.below(3) {
		case 0:
			c.Ints = many(n, 7)
		case 1:
			c.Texts = many(n, "")
		case 2:
			c.Funs = many(n, *f)
		}
	case 10:
		f.Code = many(398+d.below(5), *i)
	}
}

// model is the code whose bytes are read from r, by the chapter's words; false, where they are none's.
func model(r *bytes.Reader) (c api.Code, ok bool) {
	defer func() { // what is short, or may not be, ends the reading
		if recover() != nil {
			c, ok = api.Code{}, false
		}
	}()
	must := func(is bool) {
		if !is {
			panic("none")
		}
	}
	one := func(least, greatest int) int {
		x, err := r.ReadByte()
		must(err == nil && int(x) >= least && int(x) <= greatest)
		return int(x)
	}
	two := func() int {
		var x uint16
		must(binary.Read(r, binary.LittleEndian, &x) == nil)
		return int(x)
	}
	for _, x := range "SM1" {
		one(int(x), int(x))
	}
	c.Lets = one(0, 60)
	for range one(0, 120) {
		var x int64
		must(binary.Read(r, binary.LittleEndian, &x) == nil)
		must(x>>62 == 0 || x>>62 == -1)
		c.Ints = append(c.Ints, int(x))
	}
	for range one(0, 120) {
		text := make([]byte, one(0, 60))
		_, err := io.ReadFull(r, text)
		must(err == nil)
		c.Texts = append(c.Texts, string(text))
	}
	for range one(1, 120) {
		f := api.Body{Kept: one(0, 59), Locals: one(0, 60), Stack: one(1, 60)}
		n := two()
		must(n > 0 && n <= 400)
		for range n {
			i := api.Instr{Op: one(1, 33)}
			i.A, i.B = two(), two()
			must((ops()[i.Op] > 0 || i.A == 0) && (ops()[i.Op] > 1 || i.B == 0))
			f.Code = append(f.Code, i)
		}
		c.Funs = append(c.Funs, f)
	}
	must(r.Len() == 0)
	return c, true
}

// written are a code's bytes, whether it may be or not (but for what doesn't go into as many bytes), by the chapter's words.
func written(c api.Code) []byte {
	b := []byte{'S', 'M', '1', byte(c.Lets), byte(len(c.Ints))}
	for _, n := range c.Ints {
		x := big.NewInt(int64(n))
		if n < 0 {
			x.Add(x, new(big.Int).Lsh(big.NewInt(1), 64))
		}
		eight := x.FillBytes(make([]byte, 8))
		slices.Reverse(eight)
		b = append(b, eight...)
	}
	b = append(b, byte(len(c.Texts)))
	for _, s := range c.Texts {
		b = append(append(b, byte(len(s))), []byte(s)...)
	}
	b = append(b, byte(len(c.Funs)))
	for _, f := range c.Funs {
		b = binary.LittleEndian.AppendUint16(append(b, byte(f.Kept), byte(f.Locals), byte(f.Stack)), uint16(len(f.Code)))
		for _, i := range f.Code {
			b = binary.LittleEndian.AppendUint16(binary.LittleEndian.AppendUint16(append(b, byte(i.Op)), uint16(i.A)), uint16(i.B))
		}
	}
	return b
}

// P13.1, P13.3: codes as the model has them: one may be just if its bytes are those of it and no other.
func TestCodesAgainstTheModel(t *testing.T) {
	d := dice(1)
	var may int
	for range 20000 {
		c := d.code()
		want := written(c)
		m, ok := model(bytes.NewReader(want))
		ok = ok && same(m, c)
		b, e := code.Encode(c)
		if is := code.May(c); is != ok || (e == api.OK) != ok || ok && !bytes.Equal(b, want) || !ok && (e != api.ErrArg || len(b) > 0) {
			t.Fatalf("%v: %v, %q, %v; not %v, %q", c, is, b, e, ok, want)
		}
		if ok {
			may++
		}
	}
	if may < 5000 || may > 19500 {
		t.Errorf("%d of the codes may be", may)
	}
}

// spoilt are bytes with something changed in them.
func (d *dice) spoilt(b []byte) []byte {
	b = slices.Clone(b)
	for range 1 + d.below(3) {
		at := d.below(len(b))
		if d.below(3) == 0 {
			at = d.below(min(len(b), 40))
		}
		switch d.below(6) {
		case 0:
			b[at] = byte(d.below(256))
		case 1:
			b[at] += byte(d.below(3)) - 1
		case 2:
			b = slices.Delete(b, at, min(len(b), at+1+d.below(6)))
		case 3:
			b = slices.Insert(b, at, make([]byte, 1+d.below(6))...)
		case 4:
			b = slices.Insert(b, at, b[at:min(len(b), at+1+d.below(9))]...)
		case 5:
			b[at] = byte(d.below(4))
		}
		if len(b) == 0 {
			return b
		}
	}
	return b
}

// P13.1, P13.3: bytes as the model has them.
func TestBytesAgainstTheModel(t *testing.T) {
	d := dice(2)
	var may int
	for range 30000 {
		c := d.code()
		for !code.May(c) || len(c.Funs) > 100 {
			c = d.code()
		}
		b := d.spoilt(written(c))
		want, ok := model(bytes.NewReader(b))
		is, e := code.Decode(b)
		if !same(is, want) || ok != (e == api.OK) || !ok && e != api.ErrBytes {
			t.Fatalf("%q: %v, %v; not %v, %v", b, is, e, want, ok)
		}
		if ok {
			may++
			if again, e := code.Encode(is); e != api.OK || !bytes.Equal(again, b) {
				t.Fatalf("%q, and again %q, %v", b, again, e)
			}
		}
	}
	if may < 1500 || may > 25000 {
		t.Errorf("%d of the bytes are a code's", may)
	}
}

// P13.1: all short bytes of some kinds behind the head, as the model has them.
func TestShortBytesAgainstTheModel(t *testing.T) {
	var goes func(b []byte, left int)
	goes = func(b []byte, left int) {
		want, ok := model(bytes.NewReader(b))
		if is, e := code.Decode(b); !same(is, want) || ok != (e == api.OK) {
			t.Fatalf("%q: %v, %v; not %v, %v", b, is, e, want, ok)
		}
		if left == 0 {
			return
		}
		for _, x := range []byte{0, 1, 2, 15} {
			goes(append(slices.Clip(b), x), left-1)
		}
	}
	goes([]byte("SM1"), 6)
	goes([]byte("SM1\x00\x00\x00\x01\x00"), 5)
	goes([]byte("SM1\x00\x00\x00\x01\x00\x01\x01\x01\x00"), 5)
	goes([]byte("SM1\x00\x00\x00\x01\x00\x01\x01\x02\x00\x0f\x00\x00\x00\x00"), 5)
}
