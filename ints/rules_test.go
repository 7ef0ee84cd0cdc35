package ints_test

import (
	"go/ast"
	"go/parser"
	"go/token"
	"path/filepath"
	"regexp"
	"strings"
	"testing"

	"selvage/api"
	"selvage/ints"
)

// answer is all that the calls of the layer tell of two numbers and a text.
type answer struct {
	wrap, sum, tag, untag, point, at, read int
	untagged, pointed                      bool
	summed, readable                       api.Errno
	show                                   string
}

func ask(a, b int, s string) answer {
	var x answer
	x.wrap = ints.Wrap(a)
	x.sum, x.summed = ints.Do(s, a, b)
	x.tag = ints.Tag(a)
	x.untag, x.untagged = ints.Untag(a)
	x.point = ints.Point(a)
	x.at, x.pointed = ints.At(a)
	x.show = ints.Show(a)
	x.read, x.readable = ints.Read(s)
	return x
}

// texts are signs, digits, and what is neither.
var texts = []string{
	"+", "-", "*", "/", "%", "=", "<", "", "0", "12", "-12", "4611686018427387904", "-4611686018427387905",
	"\x00", "\xff\xfe", "\n", "-\xc3", "９", "abc", "<=", strings.Repeat("8", 5000), strings.Repeat("-", 5000),
}

// R1, R2: each call ends, and none panics, whatever it is asked; beside an error, or a false, stands 0.
func TestEachCallEndsAtAllArguments(t *testing.T) {
	l := numbers(10)
	for _, a := range l {
		for _, b := range l {
			for _, s := range texts {
				x := ask(a, b, s)
				if x.summed != api.OK && x.sum != 0 || x.readable != api.OK && x.read != 0 || !x.untagged && x.untag != 0 || !x.pointed && x.at != 0 {
					t.Fatalf("%d, %d, %.9q: %+v", a, b, s, x)
				}
			}
		}
	}
}

// R1, the bound: a text may be as long as it likes.
func TestLongTexts(t *testing.T) {
	long := strings.Repeat("1", 1<<24)
	if n, e := ints.Read(long); n != 0 || e != api.ErrRange {
		t.Errorf("Read of %d digits is %d, %v", len(long), n, e)
	}
	if n, e := ints.Read(long + "x"); n != 0 || e != api.ErrArg {
		t.Errorf("Read of %d digits and a letter is %d, %v", len(long), n, e)
	}
	if n, e := ints.Do(long, 1, 1); n != 0 || e != api.ErrArg {
		t.Errorf("Do of %d digits is %d, %v", len(long), n, e)
	}
}

// R5: an answer hangs on what is asked, not on what was asked ahead of it.
func TestAnswersStayTheSame(t *testing.T) {
	l := numbers(20)
	first := map[[2]int]answer{}
	for i, a := range l {
		for j, s := range texts {
			first[[2]int{i, j}] = ask(a, l[len(l)-1-i], s)
		}
	}
	for i := len(l) - 1; i >= 0; i-- {
		for j := len(texts) - 1; j >= 0; j-- {
			if x := ask(l[i], l[len(l)-1-i], texts[j]); x != first[[2]int{i, j}] {
				t.Errorf("%d, %.9q: %+v, and then %+v", l[i], texts[j], first[[2]int{i, j}], x)
			}
		}
	}
}

// R4: a text that was told is not changed by what is asked behind it.
func TestTextsAreNewMemory(t *testing.T) {
	l := numbers(50)
	var told, kept []string
	for _, n := range l {
		s := ints.Show(n)
		told, kept = append(told, s), append(kept, strings.Clone(s))
	}
	for i := range told {
		if told[i] != kept[i] {
			t.Errorf("Show(%d) was %q and is %q", l[i], kept[i], told[i])
		}
	}
}

// R6: decimal digits without noughts ahead, `-` ahead of one below 0.
func TestNumbersArePrintedByTheRule(t *testing.T) {
	form := regexp.MustCompile(`^(0|-?[1-9][0-9]*)$`)
	for _, n := range numbers(500) {
		s := ints.Show(n)
		if !form.MatchString(s) || strings.HasPrefix(s, "-") != (ints.Wrap(n) < 0) {
			t.Errorf("Show(%d) is %q", n, s)
		}
	}
}

// Ways: the layer has a fallthrough, and an array.
func TestWays(t *testing.T) {
	names, err := filepath.Glob("*.go")
	if err != nil {
		t.Fatal(err)
	}
	falls, array := false, false
	for _, name := range names {
		if strings.HasSuffix(name, "_test.go") {
			continue
		}
		file, err := parser.ParseFile(token.NewFileSet(), name, nil, 0)
		if err != nil {
			t.Fatal(err)
		}
		ast.Inspect(file, func(n ast.Node) bool {
			switch x := n.(type) {
			case *ast.BranchStmt:
				falls = falls || x.Tok == token.FALLTHROUGH
			case *ast.ArrayType:
				array = array || x.Len != nil
			}
			return true
		})
	}
	if !falls || !array {
		t.Errorf("a fallthrough: %v, an array: %v", falls, array)
	}
}
