package fold_test

import (
	"slices"
	"strconv"
	"strings"
	"testing"

	"selvage/api"
	"selvage/fold"
)

// has holds the names free in an exp, by its source.
func has(t *testing.T, s, want string) {
	t.Helper()
	if got := strings.Join(fold.Free(exp(t, s)), " "); got != want {
		t.Errorf("free in %s: %q, not %q", s, got, want)
	}
}

// P11.1: the names free in an exp, each once, in the order of their first place.
func TestFree(t *testing.T) {
	for s, want := range map[string]string{
		"1": "", "\"x\"": "", "()": "", "retry": "", "X": "", "x": "x", "x_Y0": "x_Y0", "A x y": "x y", "A y x": "y x", "A (A y) (A x) z": "y x z",
		"f x": "f x", "x f": "x f", "f x y z": "f x y z", "f (x y) z": "f x y z", "x x": "x", "f x f x y": "f x y", "c b a b c": "c b a",
		// A fun's parameter in its body.
		"fun x -> x": "", "fun x -> y": "y", "fun x -> x y": "y", "fun x -> fun y -> x y z": "z", "fun x -> fun x -> x": "", "(fun x -> x) x": "x", "x (fun x -> x)": "x", "f (fun x -> x) x": "f x", "fun y -> f (fun x -> x y) x": "f x",
		// A let's name in its second Kid.
		"let x = 1 in x": "", "let x = x in x": "x", "let x = y in x": "y", "let x = y in z": "y z", "let x = 1 in y x": "y", "let x = f x in x y": "f x y", "let x = 1 in let y = x in x y z": "z", "(let x = 1 in x) x": "x", "let x = (let y = x in y) in y": "x y", "let x = (let x = x in x) in x": "x", "let x = fun y -> x in y": "x y",
		// A let rec's in both.
		"let rec f = fun x -> f x in f": "", "let rec f = fun x -> f x y in f z": "y z", "let rec f = fun x -> x in x": "x", "let rec f = fun x -> y in f": "y", "let rec f = fun f -> f in f": "", "(let rec f = fun x -> f in f) f": "f", "let rec f = fun x -> let f = f in f in g": "g", "f (let rec f = fun x -> f in f) x": "f x",
		// A try's in its second one.
		"try x with x -> x end": "x", "try y with x -> x end": "y", "try 1 with x -> y x end": "y", "try f x with x -> f x y end": "f x y", "(try 1 with x -> x end) x": "x", "try (try x with y -> x y end) with z -> y z end": "x y",
		// A pattern's names in the row's body.
		"match x with | x -> x end": "x", "match y with | x -> x end": "y", "match y with | x -> x | z -> x z end": "y x", "match y with | A x z -> x z w | _ -> x end": "y w x", "match y with | A (A (A x)) -> x | A x -> z end": "y z", "match 1 with | x -> 1 end": "", "match 1 with | A x x -> x end": "", "match 1 with | 1 -> x | _ -> y end": "x y",
		"match A y x with | A x y -> x y | B x -> x y | C y -> x y end": "y x", "match 1 with | A x -> fun y -> x y z | A -> x y end": "z x y", "match (match x with | y -> y end) with | z -> y z end": "x y", "match 1 with | x -> match x with | y -> x y z end | y -> x end": "z x", "(match 1 with | x -> x end) x": "x", "match 1 with | x -> 1 | y -> x | _ -> y end": "x y",
		"match 1 with | A _ -> a | A 1 _ -> b | A (A _) c -> c | A c (A d) e f -> c d e f g end": "a b g",
		// All others.
		"if c then b else a": "c b a", "c + b * a": "c b a", "b = a": "b a", "c; b; a": "c b a", "print a": "a", "raise a": "a", "spawn a": "a", "atomically a": "a", "orelse b a": "b a", "tvar a": "a", "read a": "a", "write b a": "b a",
		// The first place is that of the first one that is free.
		"let x = y in fun z -> match x with | Cons a _ -> a (z b) | _ -> a end": "y b a", "let rec x = fun y -> x y in try q with q -> q x end": "q", "f (fun a -> a) b a": "f b a", "f (let a = c in a) b a": "f c b a", "f (try d with a -> a end) b a": "f d b a", "let a = 1 in a b; b a": "b",
	} {
		has(t, s, want)
	}
}

// At any place within an exp names are free, and bound by what is around it.
func TestFreeWithinAll(t *testing.T) {
	for _, form := range []string{
		"fun q -> #", "1 #", "# 1", "let f = # in f", "let f = 1 in #", "let rec f = fun q -> # in f", "let rec f = fun q -> q in #", "if # then 1 else 2", "if 1 then # else 2", "if 1 then 2 else #", "match # with | q -> 1 end", "match 1 with | 1 -> # | q -> 1 end", "match 1 with | 1 -> 1 | A q r -> # end", "try # with q -> 1 end", "try 1 with q -> # end", "# + 1", "1 + #", "#; 1", "1; #",
		"A #", "A 1 2 3 #", "print #", "raise #", "spawn #", "atomically #", "orelse # 1", "orelse 1 #", "tvar #", "read #", "write # 1", "write 1 #",
	} {
		s := strings.ReplaceAll(form, "#", "(A x (fun y -> y z))")
		has(t, s, "x z")
		has(t, "fun x -> "+s, "z")
		has(t, "let z = 1 in "+s, "x")
		has(t, "let rec x = fun a -> a in "+s, "z")
		has(t, "try y with x -> "+s+" end", "y z")
		has(t, "match 1 with | A (A _ z) -> "+s+" end", "x")
	}
}

// Many names, and many that are bound, as many as a source has.
func TestFreeOfMany(t *testing.T) {
	var l []string
	for i := range 399 {
		l = append(l, "n"+strconv.Itoa(100+i))
	}
	if got := fold.Free(exp(t, "1 "+strings.Join(l, " "))); !slices.Equal(got, l) {
		t.Error(got)
	}
	// Funs in one another, each with a name more.
	s := strings.Join(l[38:100], " ") + " " + strings.Join(l[:38], " ")
	for _, name := range l[:38] {
		s = "fun " + name + " -> " + s
	}
	has(t, s, strings.Join(l[38:100], " "))
}

// Of a name its text alone counts, and of other nodes none.
func TestFreeOfTexts(t *testing.T) {
	text := func(n api.Node) string { return strings.Join(fold.Free(n), "|") }
	for kind := range 40 {
		if kind != api.NodeName {
			if got := text(api.Node{Kind: kind, Text: "t", Names: []string{"n"}}); got != "" {
				t.Errorf("kind %d has %s", kind, got)
			}
		}
	}
	a, b := node(api.NodeName, "a"), node(api.NodeName, "b")
	if got := text(node(api.NodeCall, "", node(api.NodeCall, "", node(api.NodeName, ""), b), a)); got != "|b|a" {
		t.Errorf("%q", got)
	}
}
