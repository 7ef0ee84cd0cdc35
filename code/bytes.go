package code

import "selvage/api"

// head is what the bytes of each code begin with.
const head = "SM1"

// Encode is a code's bytes; there are none of one that may not be.
func Encode(c api.Code) ([]byte, api.Errno) {
	if !May(c) {
		return nil, api.ErrArg
	}
	b := put([]byte(head), 1, c.Lets, len(c.Ints))
	b = put(b, 8, c.Ints...)
	b = put(b, 1, len(c.Texts))
	for _, s := range c.Texts {
		b = append(put(b, 1, len(s)), s...)
	}
	b = put(b, 1, len(c.Funs))
	for _, f := range c.Funs {
		b = put(b, 1, f.Kept, f.Locals, f.Stack)
		b = put(b, 2, len(f.Code))
		for _, i := range f.Code {
			b = put(put(b, 1, i.Op), 2, i.A, i.B)
		}
	}
	return b, api.OK
}

// put is bytes with numbers behind them, of so many bytes each.
func put(b []byte, size int, numbers ...int) []byte {
	for _, n := range numbers {
		for range size {
			b = append(b, byte(n))
			n >>= 8
		}
	}
	return b
}

// reader tells the next bytes, as many as it is asked for; none, if there are fewer.
type reader func(many int) []byte

// Decode is the code whose bytes these are.
func Decode(b []byte) (api.Code, api.Errno) {
	rest, short := b, false
	next := func(many int) []byte {
		if many > len(rest) {
			short = true
			return nil
		}
		piece := rest[:many]
		rest = rest[many:]
		return piece
	}
	begun := string(next(len(head))) == head
	if c := readCode(next); begun && !short && len(rest) == 0 && May(c) {
		return c, api.OK
	}
	return api.Code{}, api.ErrBytes
}

// readCode is the code of what stands behind the head.
func readCode(next reader) api.Code {
	var c api.Code
	c.Lets = number(next(1))
	c.Ints = list(next, 1, api.MaxConsts, func() int { return number(next(8)) })
	c.Texts = list(next, 1, api.MaxConsts, func() string { return string(next(number(next(1)))) })
	c.Funs = list(next, 1, api.MaxFuns, func() api.Body { return readFun(next) })
	return c
}

// readFun is a function.
func readFun(next reader) api.Body {
	var f api.Body
	f.Kept, f.Locals, f.Stack = number(next(1)), number(next(1)), number(next(1))
	f.Code = list(next, 2, api.MaxCode, func() api.Instr {
		op, a, b := next(1), next(2), next(2)
		return api.Instr{Op: number(op), A: number(a), B: number(b)}
	})
	return f
}

// list is as many things as a number of so many bytes tells; of more than may be it reads one too many and no further, for such a code may not be anyhow.
func list[T any](next reader, size, most int, thing func() T) []T {
	var l []T
	for range min(number(next(size)), most+1) {
		l = append(l, thing())
	}
	return l
}

// number is that of some bytes, the lowest first.
func number(b []byte) int {
	n := 0
	for i, x := range b {
		n |= int(x) << (8 * i)
	}
	return n
}
