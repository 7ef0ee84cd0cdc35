package strs_test

import (
	"go/ast"
	"go/parser"
	"go/token"
	"path/filepath"
	"slices"
	"strings"
	"testing"
	"unsafe"

	"selvage/api"
	"selvage/strs"
)

// R1, R2: each call ends, and none panics, whatever it is asked; beside an error stands nothing.
func TestEachCallEndsAtAllArguments(t *testing.T) {
	texts := []string{"", `"`, `\`, "a", "\n", "\x00\xff", `"\`, `"\x`, `"\x4`, `"\xg`, `"a"`, some(60), some(61), strings.Repeat(`"\x`, 1000), strings.Repeat(`\`, 1001)}
	for _, a := range texts {
		if l, e := strs.Pack(a); e != api.OK && len(l) != 0 || e == api.OK && len(l) == 0 {
			t.Errorf("Pack(%.9q) is %v, %v", a, l, e)
		}
		if u, n, e := strs.Unquote(a); e != api.OK && (u != "" || n != 0) || e == api.OK && (n < 2 || n > len(a)) {
			t.Errorf("Unquote(%.9q) is %q, %d, %v", a, u, n, e)
		}
		if len(strs.Quote(a)) < len(a)+2 {
			t.Errorf("Quote(%.9q) is %s", a, strs.Quote(a))
		}
		for _, b := range texts {
			if s, e := strs.Join(a, b); e != api.OK && s != "" || e == api.OK && len(s) != len(a)+len(b) {
				t.Errorf("Join(%.9q, %.9q) is %q, %v", a, b, s, e)
			}
		}
	}
	for _, n := range append([]int{-1, 0, 1, 7, 8, 60, 61}, far...) {
		for _, m := range append([]int{-1, 0, 1, 255, 256, 1 << 56}, far...) {
			for _, l := range [][]int{{n}, {n, m}, {n, m, m}, {m, n, n}, append([]int{n}, slices.Repeat([]int{m}, 9)...)} {
				if s, e := strs.Unpack(l); e != api.OK && s != "" || e == api.OK && len(s) != l[0] {
					t.Errorf("Unpack(%v) is %q, %v", l, s, e)
				}
			}
		}
	}
}

// R1, the bound: texts and lists may be as long as one likes.
func TestLongTexts(t *testing.T) {
	long := strings.Repeat("\x01", 1<<22)
	if got := strs.Quote(long); got != `"`+strings.Repeat(`\x01`, 1<<22)+`"` {
		t.Errorf("Quote is of %d bytes", len(got))
	}
	fails(t, strs.Quote(long), api.ErrLong)
	fails(t, `"`+long, api.ErrChar)
	fails(t, `"`+strings.Repeat("a", 1<<22), api.ErrOpen)
	fails(t, long, api.ErrSyntax)
	if l, e := strs.Pack(long); len(l) != 0 || e != api.ErrLong {
		t.Errorf("Pack is %v, %v", l, e)
	}
	nobodys(t, make([]int, 1<<22)...)
}

// R4: numbers that are handed in are neither changed nor kept, their spare room neither.
func TestWhatIsHandedInIsLeftAlone(t *testing.T) {
	for _, n := range []int{0, 1, 7, 8, 60} {
		s := some(n)
		l := packed(s)
		room := append(slices.Clone(l), 77, 77, 77)
		got, e := strs.Unpack(room[:len(l)])
		if !slices.Equal(room, append(slices.Clone(l), 77, 77, 77)) {
			t.Fatalf("Unpack has changed its numbers to %v", room)
		}
		clear(room)
		if got != s || e != api.OK {
			t.Errorf("Unpack has kept its numbers: %q, %v", got, e)
		}
	}
}

// R4: what is answered is new memory, with its spare room.
func TestNumbersAreNewMemory(t *testing.T) {
	for _, n := range []int{0, 1, 7, 8, 60} {
		s := some(n)
		l, _ := strs.Pack(s)
		l = l[:cap(l)]
		for i := range l {
			l[i] = -99
		}
		packs(t, s, packed(s))
		if s != some(n) {
			t.Errorf("Pack's numbers reach its text: %q", s)
		}
	}
}

// R4: a text that is answered lies elsewhere than those that were handed in.
func TestTextsAreNewMemory(t *testing.T) {
	apart := func(what, got string, from ...string) {
		t.Helper()
		for _, s := range from {
			if len(got) > 0 && len(s) > 0 && overlap(got, s) {
				t.Errorf("%s: what is answered lies in what was handed in", what)
			}
		}
	}
	a, b := strings.Repeat("ab", 9), strings.Repeat("cd", 9)
	for _, pair := range [][2]string{{a, b}, {a, ""}, {"", b}} {
		s, _ := strs.Join(pair[0], pair[1])
		apart("Join", s, pair[0], pair[1])
	}
	apart("Quote", strs.Quote(a), a)
	w := `"` + a + `"`
	u, _, _ := strs.Unquote(w)
	apart("Unquote", u, w)
}

// overlap tells whether two texts share a byte.
func overlap(a, b string) bool {
	begin := func(s string) uintptr { return uintptr(unsafe.Pointer(unsafe.StringData(s))) }
	return begin(a) < begin(b)+uintptr(len(b)) && begin(b) < begin(a)+uintptr(len(a))
}

// R4: nil and empty lists are one.
func TestNilAndEmptyListsAreOne(t *testing.T) {
	for _, l := range [][]int{nil, {}, make([]int, 0, 9), []int{1, 97}[:0]} {
		if s, e := strs.Unpack(l); s != "" || e != api.ErrArg {
			t.Errorf("Unpack(none) is %q, %v", s, e)
		}
	}
}

// R5: what is asked again is answered alike, whatever was asked between, and whatever room a list has.
func TestAnswersHangOnArgumentsAlone(t *testing.T) {
	all := ""
	for b := range 256 {
		all += string([]byte{byte(b)})
	}
	w := strs.Quote(all)
	s := all[30:90]
	l := packed(s)
	for i := range 200 {
		strs.Unquote(`"\q`)
		strs.Join(all, s)
		strs.Unpack([]int{i})
		if strs.Quote(all) != w {
			t.Fatal("the same Quote is another one")
		}
		roomy := append(make([]int, 0, 10+i), l...)
		packs(t, s, roomy)
		reads(t, strs.Quote(s), s, len(strs.Quote(s)))
	}
}

// Ways: what stands behind a backslash is told by a map; digits are found by an array.
func TestWays(t *testing.T) {
	names, err := filepath.Glob("*.go")
	if err != nil {
		t.Fatal(err)
	}
	mapped, array := false, false
	for _, name := range names {
		if strings.HasSuffix(name, "_test.go") {
			continue
		}
		file, err := parser.ParseFile(token.NewFileSet(), name, nil, 0)
		if err != nil {
			t.Fatal(err)
		}
		ast.Inspect(file, func(n ast.Node) bool {
			switch x := n.(type) {
			case *ast.MapType:
				mapped = true
			case *ast.ArrayType:
				array = array || x.Len != nil
			}
			return true
		})
	}
	if !mapped || !array {
		t.Errorf("a map: %v, an array: %v", mapped, array)
	}
}
