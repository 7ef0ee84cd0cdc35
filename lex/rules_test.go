package lex_test

import (
	"go/ast"
	"go/parser"
	"go/token"
	"path/filepath"
	"slices"
	"strings"
	"testing"
	"unsafe"

	"selvage/api"
	"selvage/lex"
)

// R1, R2: each call ends, and none panics, whatever it is asked; beside an error stands no token, beside none no place.
func TestEachCallEndsAtAllArguments(t *testing.T) {
	parts := []string{"", "a", "A", "let", "9", "0", `"`, `\`, `"a"`, "#", "\n", "\x00", "\xff", "->", "-", ">", "_", "$", " ", "\"\\x", strings.Repeat("a", 17)}
	for _, a := range parts {
		for _, b := range parts {
			for _, n := range []int{1, 7, 100, 2000, 5000} {
				s := strings.Repeat(a+b, n)
				l, at, e := lex.Tokens(s)
				if e != api.OK && (len(l) != 0 || at < 0 || at > len(s)) || e == api.OK && (len(l) == 0 || at != 0) {
					t.Errorf("Tokens(%.20q) is %d tokens, %d, %v", s, len(l), at, e)
				}
				if lex.Key(s) != slices.Contains(keys, s) {
					t.Errorf("Key(%.20q) is %v", s, lex.Key(s))
				}
			}
		}
	}
	fails(t, strings.Repeat("a", 1<<26), 0, api.ErrLong)
}

// R3: each field of a token that the chapter does not name for its kind is 0.
func TestOtherFieldsAreZero(t *testing.T) {
	const source = "let x X -> 0 12 \"\" \"a\" _ # no\n"
	l, _, e := lex.Tokens(source)
	if e != api.OK || len(l) != 10 {
		t.Fatal(l, e)
	}
	for _, x := range l {
		switch x.Kind {
		case api.TokInt:
			if x.Text != "" {
				t.Errorf("digits have a text: %+v", x)
			}
		case api.TokEnd:
			if x != (api.Token{At: len(source)}) {
				t.Errorf("the end is %+v", x)
			}
		default:
			if x.Number != 0 {
				t.Errorf("a number beside a text: %+v", x)
			}
		}
	}
}

// R4: what is answered shares no memory with what was handed in, nor with itself.
func TestTextsAreNewMemory(t *testing.T) {
	s := strings.Repeat(`name Con "a text" -> let = "ab"x1`+"\n", 9)
	kept := strings.Clone(s)
	l, _, e := lex.Tokens(s)
	if e != api.OK {
		t.Fatal(e)
	}
	for i, x := range l {
		if overlap(x.Text, s) {
			t.Errorf("token %d, %q, lies in the source", i, x.Text)
		}
	}
	if s != kept {
		t.Error("the source is another one")
	}
}

// overlap tells whether two texts share a byte.
func overlap(a, b string) bool {
	begin := func(s string) uintptr { return uintptr(unsafe.Pointer(unsafe.StringData(s))) }
	return a != "" && b != "" && begin(a) < begin(b)+uintptr(len(b)) && begin(b) < begin(a)+uintptr(len(a))
}

// R4: a list that was answered is the asker's, with its spare room.
func TestTokensAreNewMemory(t *testing.T) {
	for _, s := range []string{"", "a", "let x = 1 + \"a\" in Con x", strings.Repeat("(", 2000)} {
		first, _, _ := lex.Tokens(s)
		want := slices.Clone(first)
		second, _, _ := lex.Tokens(s)
		first = first[:cap(first)]
		for i := range first {
			first[i] = api.Token{Kind: -1, Text: "no", Number: -1, At: -1}
		}
		third, at, e := lex.Tokens(s)
		if !slices.Equal(second, want) || !slices.Equal(third, want) || at != 0 || e != api.OK {
			t.Errorf("Tokens(%.20q) is %v, then %v", s, want, third)
		}
	}
}

// R5: what is asked again is answered alike, whatever was asked between.
func TestAnswersHangOnArgumentsAlone(t *testing.T) {
	sources := []string{"", "a $", "let x = 1", `"\q"`, "99999999999999999999", "# no", `x1->"a"`, strings.Repeat("a", 17), strings.Repeat(" ", 2001)}
	type answer struct {
		l  []api.Token
		at int
		e  api.Errno
	}
	var first []answer
	for _, s := range sources {
		l, at, e := lex.Tokens(s)
		first = append(first, answer{l, at, e})
	}
	for i := range 200 {
		j := i * 7 % len(sources)
		l, at, e := lex.Tokens(strings.Clone(sources[j]))
		if !slices.Equal(l, first[j].l) || at != first[j].at || e != first[j].e {
			t.Fatalf("Tokens(%.20q) is %v, %d, %v, and was %v", sources[j], l, at, e, first[j])
		}
		if lex.Key(sources[j]) || !lex.Key(keys[i%len(keys)]) {
			t.Fatal("the same Key is another one")
		}
	}
}

// Ways: a token is read by a method value, told by its first byte; remarks are left by a labelled loop.
func TestWays(t *testing.T) {
	names, err := filepath.Glob("*.go")
	if err != nil {
		t.Fatal(err)
	}
	methods := map[string]bool{}
	var told []string
	labelled := 0
	for _, name := range names {
		if strings.HasSuffix(name, "_test.go") {
			continue
		}
		file, err := parser.ParseFile(token.NewFileSet(), name, nil, 0)
		if err != nil {
			t.Fatal(err)
		}
		ast.Inspect(file, func(n ast.Node) bool {
			switch x := n.(type) {
			case *ast.FuncDecl:
				if x.Recv != nil {
					methods[x.Name.Name] = true
				}
			case *ast.ReturnStmt:
				for _, r := range x.Results {
					if s, is := r.(*ast.SelectorExpr); is {
						told = append(told, s.Sel.Name)
					}
				}
			case *ast.LabeledStmt:
				if _, loop := x.Stmt.(*ast.ForStmt); loop {
					labelled++
				}
			}
			return true
		})
	}
	values := slices.DeleteFunc(told, func(name string) bool { return !methods[name] })
	if len(values) < 5 || labelled == 0 {
		t.Errorf("method values: %v; labelled loops: %d", values, labelled)
	}
}
