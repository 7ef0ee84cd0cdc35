package types

import (
	"math"
	"strconv"
	"strings"

	"selvage/api"
)

// alphabet is the letters of the first variables; behind the last one they begin anew, with a number behind them.
const alphabet = "abcdefghijklmnopqrstuvwxyz"

// Show is a type's written form.
func Show(t api.Type) string {
	if !mayBe(t, math.MaxInt) {
		return ""
	}
	var b strings.Builder
	write(&b, t, letters())
	return b.String()
}

// letters tells variables' letters, in the order in which they are asked for.
func letters() func(v int) string {
	places := map[int]int{}
	return func(v int) string {
		n, is := places[v]
		if !is {
			n = len(places)
			places[v] = n
		}
		at := n % len(alphabet)
		letter := alphabet[at : at+1]
		if n < len(alphabet) {
			return letter
		}
		return letter + strconv.Itoa(n/len(alphabet))
	}
}

// write writes a type.
func write(b *strings.Builder, t api.Type, letter func(v int) string) {
	if t.Var > 0 {
		b.WriteString(letter(t.Var))
		return
	}
	b.WriteString(t.Name)
	for _, arg := range t.Args {
		b.WriteString(" ")
		if len(arg.Args) == 0 {
			write(b, arg, letter)
			continue
		}
		b.WriteString("(")
		write(b, arg, letter)
		b.WriteString(")")
	}
}
