package core_test

import (
	"slices"
	"strconv"
	"strings"
	"testing"

	"selvage/api"
	"selvage/core"
	"selvage/infer"
	"selvage/parse"
)

// node is a source's node.
func node(t testing.TB, s string) api.Node {
	t.Helper()
	n, at, e := parse.Program(s)
	if e != api.OK {
		t.Fatalf("%s: %d, %v", s, at, e)
	}
	return n
}

// right is the node of a source that is right, and its constructors.
func right(t testing.TB, s string) (api.Node, []api.Con) {
	t.Helper()
	n := node(t, s)
	r, at, e := infer.Program(n)
	if e != api.OK {
		t.Fatalf("%s: %d, %v", s, at, e)
	}
	return n, r.Cons
}

// word is what a core without Kids is called, or what stands ahead of its Kids.
func word(c api.Core) string {
	n := strconv.Itoa(c.Number)
	switch c.Kind {
	case api.CoreInt:
		return n
	case api.CoreText:
		return strconv.Quote(c.Text)
	case api.CoreLocal:
		return "%" + n
	case api.CoreKept:
		return "^" + n
	case api.CoreName:
		return "$" + n
	case api.CoreOp:
		return c.Text
	case api.CoreMake, api.CoreFun, api.CoreLet, api.CoreMatch, api.CoreTry, api.CoreStore:
		return names()[c.Kind] + " " + n
	}
	return names()[c.Kind]
}

// names are those of kinds.
func names() []string {
	return []string{
		"none", "", "", "", "", "self", "", "make", "fun", "call", "let", "if", "match", "try", "", "seq", "print", "raise", "spawn", "atomically", "retry", "orelse", "tvar", "read", "write", "store",
	}
}

// drawn is a core as a text.
func drawn(c api.Core) string {
	l := []string{word(c)}
	for i, k := range c.Kids {
		if c.Kind == api.CoreMatch && i > 0 {
			l = append(l, "|"+binds(c.Binds[i-1]))
		}
		l = append(l, drawn(k))
		if c.Kind == api.CoreMatch && i == 0 {
			l = append(l, trees(c.Tree))
		}
	}
	if len(l) == 1 && c.Kind != api.CoreFun {
		return l[0]
	}
	return "(" + strings.Join(l, " ") + ")"
}

// binds are locals, and the paths of what they are.
func binds(l []api.Bind) string {
	s := ""
	for _, b := range l {
		s += " %" + strconv.Itoa(b.Local) + path(b.Path)
	}
	return s
}

func path(l []int) string {
	s := "@"
	for i, at := range l {
		if i > 0 {
			s += "."
		}
		s += strconv.Itoa(at)
	}
	return s
}

// trees is a tree as a text: a row, or a path, what stands there, and what then; else, behind a colon, the Rest.
func trees(t api.Tree) string {
	if len(t.Cases) == 0 && len(t.Rest) == 0 && len(t.Path) == 0 {
		return "r" + strconv.Itoa(t.Row)
	}
	s := "{" + path(t.Path)
	for _, c := range t.Cases {
		head := c.Con
		if head == "" {
			head = strconv.Itoa(c.Number)
		}
		s += " " + head + " " + trees(c.Tree)
	}
	for _, r := range t.Rest {
		s += ": " + trees(r)
	}
	return s + "}"
}

// told is functions as a text: of each how much it keeps, its locals, and its body.
func told(funs []api.Fun) []string {
	var l []string
	for _, f := range funs {
		l = append(l, strconv.Itoa(f.Kept)+" "+strconv.Itoa(f.Locals)+" "+drawn(f.Body))
	}
	return l
}

// is holds what a source's functions are.
func is(t *testing.T, s string, want ...string) {
	t.Helper()
	n, cons := right(t, s)
	funs, at, e := core.Program(n, cons)
	if got := told(funs); !slices.Equal(got, want) || at != 0 || e != api.OK {
		t.Errorf("%s is\n%s, %d, %v, not\n%s", s, strings.Join(got, "\n"), at, e, strings.Join(want, "\n"))
	}
}

// fails holds the error of a source that is right; an @ stands ahead of its place.
func fails(t *testing.T, s string, want api.Errno) {
	t.Helper()
	place := strings.IndexByte(s, '@')
	if place < 0 {
		t.Fatalf("%s has no place", s)
	}
	n, cons := right(t, strings.Replace(s, "@", "", 1))
	if funs, at, e := core.Program(n, cons); len(funs) != 0 || at != place || e != want {
		t.Errorf("%.400s: %q, %d, %v, not %d, %v", s, told(funs), at, e, place, want)
	}
}

const (
	list = "type list a = Nil | Cons of a, list a; "
	pair = "type pair a b = Pair of a, b; "
)

// P12.1: exps without names.
func TestExps(t *testing.T) {
	for s, want := range map[string]string{
		"1": "1", "0": "0", "007": "7", "4611686018427387903": "4611686018427387903", "()": "0", "\"\"": "\"\"", "\"a\\n\\x00\"": "\"a\\n\\x00\"", "False": "0", "True": "1", "Nil": "0", "Cons 1 Nil": "(make 1 1 0)",
		"Cons (1 + 2) (Cons 3 Nil)": "(make 1 (+ 1 2) (make 1 3 0))", "Pair \"a\" ()": "(make 0 \"a\" 0)", "Pair (Pair 1 Nil) True": "(make 0 (make 0 1 0) 1)",
		"1 + 2": "(+ 1 2)", "1 - 2": "(- 1 2)", "1 * 2": "(* 1 2)", "1 / 2": "(/ 1 2)", "1 % 2": "(% 1 2)", "1 = 2": "(= 1 2)", "1 < 2": "(< 1 2)", "\"a\" ^ \"b\"": "(^ \"a\" \"b\")", "1 + 2 * 3 - 4": "(- (+ 1 (* 2 3)) 4)",
		"if True then 1 else 2": "(if 1 1 2)", "1; 2; 3": "(seq 1 (seq 2 3))", "print \"a\"": "(print \"a\")", "raise 1": "(raise 1)", "tvar 1": "(tvar 1)",
		"atomically 1": "(atomically 1)", "atomically retry": "(atomically retry)", "atomically (orelse 1 2)": "(atomically (orelse 1 2))", "atomically (read (tvar 1))": "(atomically (read (tvar 1)))", "atomically (write (tvar 1) 2)": "(atomically (write (tvar 1) 2))",
		"(raise 1) 2": "(call (raise 1) 2)", "(raise 1) 2 3": "(call (call (raise 1) 2) 3)", "(print \"a\"; 1) + (print \"b\"; 2)": "(+ (seq (print \"a\") 1) (seq (print \"b\") 2))",
	} {
		is(t, list+pair+"do "+s, "0 0 "+want)
	}
}

// P12.1: the tag of a constructor, whatever its type.
func TestTags(t *testing.T) {
	is(t, "type t = A | B of int | C | D of t, t; type u = E of t | F; do D (D A C) (B 1); E C; F", "0 0 (seq (make 3 (make 3 0 2) (make 1 1)) (seq (make 0 2) 1))")
	last := "type t = "
	for i := range 20 {
		last += "C" + strconv.Itoa(i) + " | "
	}
	is(t, strings.TrimSuffix(last, " | ")+"; do (C0; C10; C19)", "0 0 (seq 0 (seq 10 19))")
	is(t, "type f = G of int, int, int, int; do G 4 3 2 1", "0 0 (make 0 4 3 2 1)")
}

// P12.1: a new local is the least number that no local around it has.
func TestLocals(t *testing.T) {
	for s, want := range map[string]string{
		"let x = 1 in x":                                                              "1 (let 0 1 %0)",
		"let x = 1 in let y = 2 in x + y":                                             "2 (let 0 1 (let 1 2 (+ %0 %1)))",
		"let x = 1 in let x = x in x":                                                 "2 (let 0 1 (let 1 %0 %1))",
		"let x = let y = 1 in y in x":                                                 "1 (let 0 (let 0 1 %0) %0)",
		"let x = 1 in let y = let z = x in z in y":                                    "2 (let 0 1 (let 1 (let 1 %0 %1) %1))",
		"(let x = 1 in x) + (let y = 2 in y)":                                         "1 (+ (let 0 1 %0) (let 0 2 %0))",
		"(let x = 1 in let y = 2 in y); let z = 3 in z":                               "2 (seq (let 0 1 (let 1 2 %1)) (let 0 3 %0))",
		"let x = 1 in (let y = 2 in y) + (let z = x in z)":                            "2 (let 0 1 (+ (let 1 2 %1) (let 1 %0 %1)))",
		"try raise 1 with e -> e end":                                                 "1 (try 0 (raise 1) %0)",
		"try let x = 1 in x with e -> e + 1 end":                                      "1 (try 0 (let 0 1 %0) (+ %0 1))",
		"try 1 with e -> let x = e in x end":                                          "2 (try 0 1 (let 1 %0 %1))",
		"let x = 1 in try x with x -> x end":                                          "2 (let 0 1 (try 1 %0 %1))",
		"try (try 1 with x -> x end) with y -> y end":                                 "1 (try 0 (try 0 1 %0) %0)",
		"try 1 with x -> try x with y -> x + y end end":                               "2 (try 0 1 (try 1 %0 (+ %0 %1)))",
		"match 1 with | x -> x end":                                                   "2 (match 0 1 r0 | %1@ %1)",
		"match 1 with | 0 -> 5 | x -> x end":                                          "2 (match 0 1 {@ 0 r0: r1} | 5 | %1@ %1)",
		"match 1 with | _ -> 2 end":                                                   "1 (match 0 1 r0 | 2)",
		"match let x = 1 in x with | y -> y end":                                      "2 (match 0 (let 0 1 %0) r0 | %1@ %1)",
		"let x = 1 in match x with | x -> x end":                                      "3 (let 0 1 (match 1 %0 r0 | %2@ %2))",
		"match (match 1 with | x -> x end) with | y -> y end":                         "2 (match 0 (match 0 1 r0 | %1@ %1) r0 | %1@ %1)",
		"match 1 with | 1 -> let x = 2 in x | y -> match y with | z -> y + z end end": "4 (match 0 1 {@ 1 r0: r1} | (let 1 2 %1) | %1@ (match 2 %1 r0 | %3@ (+ %1 %3)))",
		"1 + (let a = 1 in let b = 2 in let c = 3 in c) + (let a = 1 in a)":           "3 (+ (+ 1 (let 0 1 (let 1 2 (let 2 3 %2)))) (let 0 1 %0))",
	} {
		is(t, "do "+s, "0 "+want)
	}
}

// P12.1: a match: its value, its tree, the names of its rows.
func TestMatches(t *testing.T) {
	is(t, list+"do match Cons 1 Nil with | Nil -> 0 | Cons x (Cons y _) -> let z = x in z + y | Cons _ q -> 2 end",
		"0 4 (match 0 (make 1 1 0) {@ Nil r0 Cons {@1 Cons r1: r2}} | 0 | %1@0 %2@1.0 (let 3 %1 (+ %3 %2)) | %1@1 2)")
	is(t, list+"do match Nil with | Cons _ _ -> 1 | Nil -> 2 end", "0 1 (match 0 0 {@ Nil r1 Cons r0} | 1 | 2)")
	is(t, pair+"do match Pair 1 (Pair 2 3) with | Pair a (Pair b c) -> a + b * c end", "0 4 (match 0 (make 0 1 (make 0 2 3)) {@ Pair {@1 Pair r0}} | %1@0 %2@1.0 %3@1.1 (+ %1 (* %2 %3)))")
	is(t, pair+"do match Pair 1 2 with | Pair 0 _ -> 0 | Pair 1 x -> x | Pair y 3 -> y | z -> 4 end",
		"0 2 (match 0 (make 0 1 2) {@ Pair {@0 0 r0 1 r1: {@1 3 r2: r3}}} | 0 | %1@1 %1 | %1@0 %1 | %1@ 4)")
	is(t, "do match True with | True -> 1 | False -> 2 end", "0 1 (match 0 1 {@ False r1 True r0} | 1 | 2)")
	// What is bound ends with its row.
	is(t, list+"let x = 9; do (match Cons 1 Nil with | Cons x _ -> x | Nil -> x end) + x", "0 2 (seq (store 0 9) (+ (match 0 (make 1 1 0) {@ Nil r1 Cons r0} | %1@0 %1 | $0) $0))")
	is(t, list+"do let x = 9 in match x with | 0 -> x | x -> x end", "0 3 (let 0 9 (match 1 %0 {@ 0 r0: r1} | %0 | %2@ %2))")
}

// P12.1: names of the program's lets.
func TestLets(t *testing.T) {
	is(t, "let a = 1; do a", "0 0 (seq (store 0 1) $0)")
	is(t, "let a = 1; let b = a; let a = b; do a + b", "0 0 (seq (store 0 1) (seq (store 1 $0) (seq (store 2 $1) (+ $2 $1))))")
	is(t, "let a = 1; let a = a + 1; do a; a", "0 0 (seq (store 0 1) (seq (store 1 (+ $0 1)) (seq $1 $1)))")
	is(t, "type t = A; let a = A; type u = B; let b = B; do (a; b)", "0 0 (seq (store 0 0) (seq (store 1 0) (seq $0 $1)))")
	is(t, "let a = let x = 1 in x; let b = let y = a in y; do let z = b in z", "0 1 (seq (store 0 (let 0 1 %0)) (seq (store 1 (let 0 $0 %0)) (let 0 $1 %0)))")
	is(t, "let a = 1; do let a = a in a", "0 1 (seq (store 0 1) (let 0 $0 %0))")
	is(t, "let a = 1; do (let a = 2 in a) + a", "0 1 (seq (store 0 1) (+ (let 0 2 %0) $0))")
	is(t, "let f = 1; let f = fun x -> f + x; do f 2", "0 0 (seq (store 0 1) (seq (store 1 (fun 1)) (call $1 2)))", "0 1 (+ $0 %0)")
	is(t, "let a = 1; do fun x -> fun y -> a", "0 0 (seq (store 0 1) (fun 1))", "0 1 (fun 2)", "0 1 $0")
	is(t, "let a = 1; do fun a -> (a; fun b -> a)", "0 0 (seq (store 0 1) (fun 1))", "0 1 (seq %0 (fun 2 %0))", "1 1 ^0")
	is(t, "let a = 1; do spawn (a; a)", "0 0 (seq (store 0 1) (spawn (fun 1)))", "0 1 (seq $0 $0)")
}

// P12.1: what a closure keeps.
func TestKept(t *testing.T) {
	is(t, "do fun x -> fun y -> x", "0 0 (fun 1)", "0 1 (fun 2 %0)", "1 1 ^0")
	is(t, "do fun x -> x", "0 0 (fun 1)", "0 1 %0")
	is(t, "do fun x -> fun x -> x", "0 0 (fun 1)", "0 1 (fun 2)", "0 1 %0")
	is(t, "do fun x -> fun y -> fun z -> x", "0 0 (fun 1)", "0 1 (fun 2 %0)", "1 1 (fun 3 ^0)", "1 1 ^0")
	is(t, "do fun x -> fun y -> fun z -> y + x + z + y", "0 0 (fun 1)", "0 1 (fun 2 %0)", "1 1 (fun 3 %0 ^0)", "2 1 (+ (+ (+ ^0 ^1) %0) ^0)")
	is(t, "do fun x -> fun y -> (x; fun z -> y + x)", "0 0 (fun 1)", "0 1 (fun 2 %0)", "1 1 (seq ^0 (fun 3 %0 ^0))", "2 1 (+ ^0 ^1)")
	is(t, "do fun x -> fun y -> (fun z -> y + x; x)", "0 0 (fun 1)", "0 1 (fun 2 %0)", "1 1 (fun 3 %0 ^0)", "2 1 (seq (+ ^0 ^1) ^1)")
	is(t, "do let a = 1 in let b = 2 in fun x -> b + a + b", "0 2 (let 0 1 (let 1 2 (fun 1 %1 %0)))", "2 1 (+ (+ ^0 ^1) ^0)")
	is(t, "do let a = 1 in fun x -> let a = a in a", "0 1 (let 0 1 (fun 1 %0))", "1 2 (let 1 ^0 %1)")
	is(t, "do let a = 1 in fun x -> a + (let a = 2 in a) + a", "0 1 (let 0 1 (fun 1 %0))", "1 2 (+ (+ ^0 (let 1 2 %1)) ^0)")
	// What is kept is another thing where the name is another's.
	is(t, "do fun x -> fun y -> x + (let x = 1 in (fun z -> x + y) 2) + x", "0 0 (fun 1)", "0 1 (fun 2 %0)", "1 2 (+ (+ ^0 (let 1 1 (call (fun 3 %1 %0) 2))) ^0)", "2 1 (+ ^0 ^1)")
	is(t, "do fun x -> (let a = 1 in fun y -> a); (let b = 2 in fun y -> b)", "0 0 (fun 1)", "0 2 (seq (let 1 1 (fun 2 %1)) (let 1 2 (fun 3 %1)))", "1 1 ^0", "1 1 ^0")
	// Of a row, of a try.
	is(t, pair+"do match Pair 1 2 with | Pair a b -> fun x -> b end", "0 3 (match 0 (make 0 1 2) {@ Pair r0} | %1@0 %2@1 (fun 1 %2))", "1 1 ^0")
	is(t, "do try fun x -> x with e -> fun x -> e + x end", "0 1 (try 0 (fun 1) (fun 2 %0))", "0 1 %0", "1 1 (+ ^0 %0)")
	// Of what is spawned, whose own local nobody uses.
	is(t, "do let a = 1 in spawn (let b = a in b + a)", "0 1 (let 0 1 (spawn (fun 1 %0)))", "1 2 (let 1 ^0 (+ %1 ^0))")
	is(t, "do spawn (spawn 1)", "0 0 (spawn (fun 1))", "0 1 (spawn (fun 2))", "0 1 1")
	is(t, "do spawn (fun x -> x)", "0 0 (spawn (fun 1))", "0 1 (fun 2)", "0 1 %0")
	is(t, "do fun x -> spawn (print x; spawn (print x))", "0 0 (fun 1)", "0 1 (spawn (fun 2 %0))", "1 1 (seq (print ^0) (spawn (fun 3 ^0)))", "1 1 (print ^0)")
}

// P12.1: a let rec.
func TestRecs(t *testing.T) {
	is(t, "do let rec f = fun x -> f x in f 1", "0 1 (let 0 (fun 1) (call %0 1))", "0 1 (call self %0)")
	is(t, "do let rec f = fun f -> f in f 1", "0 1 (let 0 (fun 1) (call %0 1))", "0 1 %0")
	is(t, "do let rec f = fun x -> let f = x in f in f 1", "0 1 (let 0 (fun 1) (call %0 1))", "0 2 (let 1 %0 %1)")
	is(t, "do let rec f = fun x -> let y = f in x in f 1", "0 1 (let 0 (fun 1) (call %0 1))", "0 2 (let 1 self %0)")
	is(t, "do let rec f = fun x -> fun y -> f y x in f 1 2", "0 1 (let 0 (fun 1) (call (call %0 1) 2))", "0 1 (fun 2 self %0)", "2 1 (call (call ^0 %0) ^1)")
	is(t, "do let rec f = fun x -> fun y -> fun z -> (f; f; z) in 1", "0 1 (let 0 (fun 1) 1)", "0 1 (fun 2 self)", "1 1 (fun 3 ^0)", "1 1 (seq ^0 (seq ^0 %0))")
	is(t, "do let rec f = fun x -> 1 in fun y -> f", "0 1 (let 0 (fun 1) (fun 2 %0))", "0 1 1", "1 1 ^0")
	is(t, "do let a = 1 in let rec f = fun x -> a + f a in f", "0 2 (let 0 1 (let 1 (fun 1 %0) %1))", "1 1 (+ ^0 (call self ^0))")
	is(t, "do let rec f = fun x -> let rec g = fun y -> f (g y) in g x in f 1", "0 1 (let 0 (fun 1) (call %0 1))", "0 2 (let 1 (fun 2 self) (call %1 %0))", "1 1 (call ^0 (call self %0))")
	is(t, "do let rec f = fun x -> let rec f = fun y -> f y in f x in f 1", "0 1 (let 0 (fun 1) (call %0 1))", "0 2 (let 1 (fun 2) (call %1 %0))", "0 1 (call self %0)")
	is(t, "do let f = fun x -> x in let rec g = fun y -> f (g y) in g", "0 2 (let 0 (fun 1) (let 1 (fun 2 %0) %1))", "0 1 %0", "1 1 (call ^0 (call self %0))")
	is(t, "let rec f = fun x -> f x; do f 1", "0 0 (seq (store 0 (fun 1)) (call $0 1))", "0 1 (call self %0)")
	is(t, "let f = fun x -> x; let rec f = fun x -> f x; let f = fun x -> f x; do f 1", "0 0 (seq (store 0 (fun 1)) (seq (store 1 (fun 2)) (seq (store 2 (fun 3)) (call $2 1))))", "0 1 %0", "0 1 (call self %0)", "0 1 (call $1 %0)")
	is(t, "let rec f = fun x -> spawn (f x; ()); do f 1", "0 0 (seq (store 0 (fun 1)) (call $0 1))", "0 1 (spawn (fun 2 self %0))", "2 1 (seq (call ^0 ^1) 0)")
	is(t, "let rec f = fun f -> f; do f", "0 0 (seq (store 0 (fun 1)) $0)", "0 1 %0")
}

// P12.1: functions are numbered as one comes to them, a node ahead of its Kids.
func TestNumbers(t *testing.T) {
	is(t, "let a = fun x -> fun y -> x; let b = fun z -> spawn (fun w -> w); do (fun u -> u) (fun v -> fun w -> v)",
		"0 0 (seq (store 0 (fun 1)) (seq (store 1 (fun 3)) (call (fun 6) (fun 7))))", "0 1 (fun 2 %0)", "1 1 ^0", "0 1 (spawn (fun 4))", "0 1 (fun 5)", "0 1 %0", "0 1 %0", "0 1 (fun 8 %0)", "1 1 ^0")
	is(t, "do match fun x -> 1 with | f -> (fun x -> 2; fun x -> 3) end; let rec g = fun x -> 4 in try fun x -> 5 with e -> fun x -> 6 end",
		"0 2 (seq (match 0 (fun 1) r0 | %1@ (fun 2)) (let 0 (fun 4) (try 1 (fun 5) (fun 6))))", "0 1 1", "0 1 (seq 2 (fun 3))", "0 1 3", "0 1 4", "0 1 5", "0 1 6")
	is(t, "do if (fun x -> True) 1 then fun x -> 2 else fun x -> 3", "0 0 (if (call (fun 1) 1) (fun 2) (fun 3))", "0 1 1", "0 1 2", "0 1 3")
	is(t, pair+"do Pair (fun x -> 1) (fun x -> 2)", "0 0 (make 0 (fun 1) (fun 2))", "0 1 1", "0 1 2")
}

// The chapter's example.
func TestExample(t *testing.T) {
	is(t, "do fun x -> fun y -> x", "0 0 (fun 1)", "0 1 (fun 2 %0)", "1 1 ^0")
}
