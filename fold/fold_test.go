package fold_test

import (
	"strconv"
	"strings"
	"testing"

	"selvage/api"
	"selvage/fold"
	"selvage/parse"
	"selvage/show"
)

// program is a source's node.
func program(t *testing.T, s string) api.Node {
	t.Helper()
	n, at, e := parse.Program(s)
	if e != api.OK {
		t.Fatalf("%s: %d, %v", s, at, e)
	}
	return n
}

// exp is the node of an exp as a source has it.
func exp(t *testing.T, s string) api.Node {
	t.Helper()
	n := program(t, "do "+s)
	return n.Kids[len(n.Kids)-1]
}

func node(kind int, text string, kids ...api.Node) api.Node {
	return api.Node{Kind: kind, Text: text, Kids: kids}
}

func doing(n api.Node) api.Node { return node(api.NodeProg, "", n) }

// shown is a node with all that is in it, its place, too.
func shown(n api.Node) string {
	s := strconv.Itoa(n.Kind) + strconv.Quote(n.Text) + strconv.Itoa(n.Number) + "@" + strconv.Itoa(n.At)
	for _, name := range n.Names {
		s += " " + strconv.Quote(name)
	}
	if len(n.Kids) == 0 {
		return s
	}
	var kids []string
	for _, k := range n.Kids {
		kids = append(kids, shown(k))
	}
	return s + "(" + strings.Join(kids, ", ") + ")"
}

// is holds what an exp is folded to, by their sources. Exp and Program are held.
func is(t *testing.T, s, want string) {
	t.Helper()
	for _, l := range []struct{ was, got, want api.Node }{
		{exp(t, s), fold.Exp(exp(t, s)), exp(t, want)},
		{program(t, "do "+s), fold.Program(program(t, "do "+s)), program(t, "do "+want)},
	} {
		if !parse.Same(l.got, l.want) {
			t.Errorf("%s is %s, not %s", s, shown(l.got), shown(l.want))
		}
	}
	// As a part of something.
	if got := fold.Exp(node(api.NodeCon, "K", exp(t, s), exp(t, s))); !parse.Same(got, node(api.NodeCon, "K", exp(t, want), exp(t, want))) {
		t.Errorf("K (%s) is %s", s, shown(got))
	}
}

// stays holds that exps stay what they are, with their places.
func stays(t *testing.T, l ...string) {
	t.Helper()
	for _, s := range l {
		is(t, s, s)
		if got := fold.Exp(exp(t, s)); shown(got) != shown(exp(t, s)) {
			t.Errorf("%s is %s, not %s", s, shown(got), shown(exp(t, s)))
		}
	}
}

const most = "4611686018427387903" // MaxInt

// P11.1: an operation of two digits.
func TestSums(t *testing.T) {
	for s, want := range map[string]string{
		"1 + 2": "3", "0 + 0": "0", "0 + 7": "7", "7 + 0": "7", most + " + 0": most, "4611686018427387902 + 1": most, "2305843009213693952 + 2305843009213693951": most,
		"3 - 1": "2", "1 - 1": "0", "0 - 0": "0", most + " - 0": most, most + " - " + most: "0", most + " - 4611686018427387902": "1",
		"2 * 3": "6", "0 * 5": "0", "5 * 0": "0", most + " * 1": most, "2147483648 * 2147483647": "4611686016279904256",
		// Wrapped, and not below 0.
		most + " * " + most: "1", "3037000500 * 3037000500": "145474192", "4294967296 * 2147483648": "0", "4294967296 * 4294967296": "0", most + " * 4611686018427387901": "3", "2305843009213693952 * 5": "2305843009213693952",
		"7 / 2": "3", "6 / 2": "3", "1 / 2": "0", "0 / 5": "0", "7 / 7": "1", most + " / 1": most, most + " / " + most: "1", "1 / " + most: "0",
		"7 % 2": "1", "6 % 2": "0", "1 % 2": "1", "0 % 5": "0", most + " % 10": "3", "5 % " + most: "5", most + " % 1": "0",
		"1 = 1": "True", "0 = 0": "True", most + " = " + most: "True", "1 = 2": "False", "2 = 1": "False", "0 = " + most: "False",
		"1 < 2": "True", "0 < 1": "True", "0 < " + most: "True", "2 < 1": "False", "1 < 1": "False", "0 < 0": "False", most + " < " + most: "False", most + " < 0": "False",
		// Digits in brackets, and with noughts ahead.
		"(1) + ((2))": "3", "001 + 002": "3", "007 = 7": "True",
	} {
		is(t, s, want)
	}
	stays(t,
		// Below 0.
		"1 - 2", "0 - 1", "0 - "+most, "1 - "+most, most+" + 1", "1 + "+most, most+" + "+most, "2305843009213693952 + 2305843009213693952", most+" * 2", "2147483648 * 2147483648", "2305843009213693952 * 2", "2305843009213693952 * 3",
		// By 0.
		"1 / 0", "1 % 0", "0 / 0", "0 % 0", most+" / 0", most+" % 0",
		// No two digits.
		"x + 1", "1 + x", "x = x", "1 = x", "x < 1", "() = ()", "True = True", "True = 1", "1 = True", "1 + \"a\"", "\"a\" + 1", "\"a\" + \"b\"", "\"a\" = \"a\"", "\"a\" < \"b\"", "\"1\" * \"2\"", "\"1\" / \"1\"", "1 + ()", "1 - (fun x -> 1)", "1 + f 2", "raise 1 + 2", "1 = retry", "1 + read 2",
		"x - x", "x * 0", "0 * x", "0 / x", "x % 1", "x / 1",
		"1", "0", most, "()", "\"\"", "x", "True", "False", "Nil", "retry",
	)
}

// P11.1: an operation that joins two strings.
func TestJoined(t *testing.T) {
	a := strings.Repeat("a", 59)
	for s, want := range map[string]string{
		"\"a\" ^ \"b\"": "\"ab\"", "\"\" ^ \"\"": "\"\"", "\"a\" ^ \"\"": "\"a\"", "\"\" ^ \"a\"": "\"a\"", "\"ab\" ^ \"ab\"": "\"abab\"", "\"\\x00\\n\" ^ \"\\\"\\\\\\xff\"": "\"\\x00\\n\\\"\\\\\\xff\"",
		// 60 bytes, and no more.
		"\"" + a + "\" ^ \"b\"": "\"" + a + "b\"", "\"b\" ^ \"" + a + "\"": "\"b" + a + "\"", "\"" + a + "b\" ^ \"\"": "\"" + a + "b\"", "\"\" ^ \"" + a + "b\"": "\"" + a + "b\"", "\"" + a[:30] + "\" ^ \"" + a[:30] + "\"": "\"" + a + "a\"",
		"\"a\" ^ \"b\" ^ \"c\"": "\"abc\"", "\"a\" ^ (\"b\" ^ \"c\")": "\"abc\"", "\"a\" ^ \"b\" ^ c": "\"ab\" ^ c", "\"a\" ^ (\"b\" ^ c)": "\"a\" ^ (\"b\" ^ c)", "c ^ (\"a\" ^ \"b\")": "c ^ \"ab\"",
		"\"" + a + "\" ^ \"b\" ^ \"c\"": "\"" + a + "b\" ^ \"c\"",
	} {
		is(t, s, want)
	}
	stays(t,
		"\""+a+"\" ^ \"bc\"", "\"bc\" ^ \""+a+"\"", "\""+a+"b\" ^ \"c\"", "\"c\" ^ \""+a+"b\"", "\""+a+"\" ^ \""+a+"\"", "\""+a[:30]+"\" ^ \""+a[:31]+"\"",
		"\"a\" ^ x", "x ^ \"a\"", "c ^ \"a\" ^ \"b\"", "\"a\" ^ ()", "1 ^ 2", "\"a\" ^ 1", "1 ^ \"a\"", "True ^ \"a\"", "\"\" ^ x", "x ^ \"\"",
	)
}

// P11.1: an if.
func TestIfs(t *testing.T) {
	for s, want := range map[string]string{
		"if True then a else b": "a", "if False then a else b": "b", "if True then f a else g b": "f a", "if False then f a else g b": "g b", "if True then raise 1 else print \"a\"": "raise 1", "if False then retry else tvar x": "tvar x",
		"if 1 < 2 then a else b": "a", "if 2 < 1 then a else b": "b", "if 1 + 1 = 2 then a else b": "a", "if 1 = 2 then a else b": "b",
		"if (if True then False else True) then a else b": "b", "if (1; True) then a else b": "a", "if (let x = 1 in False) then a else b": "b",
		"if True then 1 + 2 else x": "3", "if False then x else 1 + 2": "3", "if x then 1 + 2 else 3 + 4": "if x then 3 else 7", "if x then if True then a else b else if False then c else d": "if x then a else d",
		"if True then if False then a else b else c": "b", "if f (1 + 2) then a else b": "if f 3 then a else b", "(if True then f else g) x": "f x", "if x = 1 + 2 then a else b": "if x = 3 then a else b",
	} {
		is(t, s, want)
	}
	stays(t,
		"if x then a else b", "if true then a else b", "if Nil then a else b", "if T then a else b", "if Tru then a else b", "if True_ then a else b", "if 1 then a else b", "if 0 then a else b", "if () then a else b", "if \"True\" then a else b", "if fun x -> True then a else b",
		"if True x then a else b", "if False 1 then a else b", "if True True then a else b", "if False False then a else b", "if 1 - 2 < 3 then a else b", "if 1 / 0 = 1 then a else b", "if x then True else True", "if x then a else a", "if f True then a else b", "if raise 1 then a else b", "if (f x; True) then a else b",
	)
}

// stills are still exps.
var stills = []string{
	"1", "0", "\"a\"", "\"\"", "()", "y", "fun y -> y", "fun y -> f x", "fun y -> fun z -> raise 1", "True", "Nil", "A 1", "A y", "A ()", "A \"a\"", "A Nil", "A (fun y -> f 1)", "A (A (A 1))", "A 1 2 3 4", "A y (A z) () (fun y -> retry)", "A (A 1 2) (A () Nil)",
}

// movings are exps that are not still, and stay as they are.
var movings = []string{
	"f 1", "f y z", "(fun y -> y) 1", "y + 1", "1 - 2", "1 / 0", "1 = y", "\"a\" ^ y", "if y then 1 else 2", "match y with | z -> 1 end", "match 1 with | _ -> 2 end", "try 1 with y -> 2 end", "try y with y -> y end", "f 1; 2", "print \"a\"", "raise 1", "spawn 1", "atomically 1", "retry", "orelse 1 2", "tvar 1", "read y", "write y 1", "let z = f 1 in z",
	"let z = 1 in z", "let rec z = fun y -> y in z", "A (f 1)", "A 1 (f 1)", "A (f 1) 1", "A 1 2 3 (raise 1)", "A 1 2 (1 / 0) 4", "A (A (A retry))", "A (A 1) (A (tvar 1)) Nil", "A (fun y -> y) (try 1 with y -> 2 end)", "A (f y; y)",
}

// P11.1: a let, where its value is still, and its name is not free.
func TestLetsByTheirValues(t *testing.T) {
	for _, v := range stills {
		is(t, "let x = "+v+" in 5", "5")
		is(t, "let x = "+v+" in f y", "f y")
		is(t, "let z = "+v+" in let x = "+v+" in g", "g")
		stays(t, "let x = "+v+" in x", "let x = "+v+" in f x", "let x = "+v+" in fun y -> x y")
	}
	for _, v := range movings {
		stays(t, "let x = "+v+" in 5", "let x = "+v+" in x")
		is(t, "let x = "+v+" in 1 + 2", "let x = "+v+" in 3")
	}
	for s, want := range map[string]string{
		"let x = 1 + 2 in 5": "5", "let x = 1 + 2 in x": "let x = 3 in x", "let x = 1 - 2 in 1 - 1": "let x = 1 - 2 in 0", "let x = A (1 + 2) (\"a\" ^ \"b\") in 5": "5", "let x = (1; y) in 5": "5", "let x = if True then y else f y in 5": "5", "let x = if False then y else f y in 5": "let x = f y in 5",
		"let x = (let y = 1 in 2) in 5": "5", "let x = (let y = 1 in y) in 5": "let x = let y = 1 in y in 5", "let x = (let y = f 1 in 2) in 5": "let x = let y = f 1 in 2 in 5", "let x = A (1 = 1) in 5": "5", "let x = A (1 / 0) in 5": "let x = A (1 / 0) in 5",
	} {
		is(t, s, want)
	}
}

// P11.1: a let, by where its name stands.
func TestLetsByTheirNames(t *testing.T) {
	for s, want := range map[string]string{
		// Something else binds it there.
		"let x = 1 in fun x -> x": "fun x -> x", "let x = 1 in fun x -> fun y -> x y": "fun x -> fun y -> x y", "let x = 1 in f (fun x -> x)": "f (fun x -> x)",
		"let x = 1 in let x = f 2 in x": "let x = f 2 in x", "let x = 1 in let x = f 2 in fun y -> x": "let x = f 2 in fun y -> x", "let x = 1 in let rec x = fun y -> x y in x": "let rec x = fun y -> x y in x", "let x = 1 in let rec f = fun x -> f x in f": "let rec f = fun x -> f x in f",
		"let x = 1 in try y with x -> x end": "try y with x -> x end", "let x = 1 in match y with | x -> x end": "match y with | x -> x end", "let x = 1 in match y with | A x -> x | x -> x end": "match y with | A x -> x | x -> x end", "let x = 1 in match y with | A z (A 1 x) -> x | _ -> z end": "match y with | A z (A 1 x) -> x | _ -> z end",
		// What it stands in falls away.
		"let x = 1 in if True then 5 else x": "5", "let x = 1 in (x; 5)": "5", "let x = 1 in (A x; 5)": "5", "let x = 1 in (fun y -> x); 5": "5", "let x = 1 in let y = x in 5": "5", "let x = 1 in let y = A x in 5": "5", "let x = 1 in let rec g = fun y -> x in 5": "5", "let x = 1 in let rec y = fun z -> y in x": "let x = 1 in x", "let x = 1 in if 1 < 1 then f x else y": "y",
		"let x = 1 in let x = x in 5": "5", "let x = 1 in let x = 2 in x": "let x = 2 in x", "let y = 1 in let x = y in x": "let y = 1 in let x = y in x",
		// It is another one.
		"let x = 1 in y": "y", "let x = 1 in xx": "xx", "let x = 1 in x1": "x1", "let x = 1 in X": "X", "let x = 1 in \"x\"": "\"x\"", "let xx = 1 in x": "x", "let x = 1 in f y z": "f y z",
		// Its own value is not its body.
		"let x = x in 5": "5", "let x = A x in 5": "5", "let x = fun y -> x in y": "y", "let x = f x in 5": "let x = f x in 5", "let x = x in x": "let x = x in x",
		"f (let x = 1 in 2) x": "f 2 x", "(let x = 1 in 2) + x": "2 + x", "(let x = 1 in x) + (let x = 1 in 3)": "(let x = 1 in x) + 3",
	} {
		is(t, s, want)
	}
	stays(t,
		"let x = 1 in x", "let x = 1 in f x", "let x = 1 in x y", "let x = 1 in fun y -> x", "let x = 1 in fun y -> fun z -> x", "let x = 1 in (fun x -> x) x", "let x = 1 in x (fun x -> x)", "let x = 1 in A y x", "let x = 1 in A (A (A x))",
		"let x = 1 in let x = f x in x", "let x = 1 in let x = f x in 5", "let x = 1 in let y = f 1 in x", "let x = 1 in let rec y = fun z -> x in y", "let x = 1 in let rec y = fun z -> y in y x", "let x = 1 in if x then 2 else 3", "let x = 1 in if y then x else 3", "let x = 1 in if y then 2 else x",
		"let x = 1 in match x with | x -> x end", "let x = 1 in match y with | y -> x end", "let x = 1 in match y with | x -> x | y -> x end", "let x = 1 in match y with | A y -> x | x -> x end", "let x = 1 in match y with | 1 -> 2 | _ -> x end", "let x = 1 in match f x with | x -> 1 end",
		"let x = 1 in try x with x -> x end", "let x = 1 in try y with z -> x end", "let x = 1 in try f x with x -> 1 end", "let x = 1 in x + 1", "let x = 1 in 1 + x", "let x = 1 in f y; x", "let x = 1 in f x; y", "let x = 1 in print x", "let x = 1 in raise x", "let x = 1 in spawn x", "let x = 1 in atomically x",
		"let x = 1 in orelse x y", "let x = 1 in orelse y x", "let x = 1 in tvar x", "let x = 1 in read x", "let x = 1 in write x y", "let x = 1 in write y x",
	)
}

// P11.1: a let rec: its value is a fun, and so still; the name in its own value is not free in its second Kid.
func TestLetRecs(t *testing.T) {
	for s, want := range map[string]string{
		"let rec f = fun x -> f x in 3": "3", "let rec f = fun x -> x in y": "y", "let rec f = fun x -> f (f x) in fun f -> f": "fun f -> f", "let rec f = fun f -> f in x": "x", "let rec f = fun x -> 1 + 2 in f": "let rec f = fun x -> 3 in f", "let rec f = fun x -> f x in f (1 + 2)": "let rec f = fun x -> f x in f 3",
		"let rec f = fun x -> f x in let rec g = fun x -> f x in 3": "3", "let rec f = fun x -> f x in (f; 3)": "3", "let rec f = fun x -> x in let rec f = fun x -> f x in f": "let rec f = fun x -> f x in f", "let rec f = fun x -> raise 1 in f1": "f1", "let rec f = fun x -> x in try y with f -> f 1 end": "try y with f -> f 1 end",
	} {
		is(t, s, want)
	}
	stays(t, "let rec f = fun x -> f x in f", "let rec f = fun x -> x in f 1", "let rec f = fun x -> x in fun x -> f x", "let rec f = fun x -> f x in let rec g = fun x -> f x in g", "let rec f = fun x -> x in try f with f -> f 1 end", "let rec f = fun x -> x in match f with | f -> f end")
}

// P11.1: a seq, where the first one is still.
func TestSeqs(t *testing.T) {
	for _, v := range stills {
		if strings.HasPrefix(v, "fun") {
			v = "(" + v + ")"
		}
		is(t, v+"; 5", "5")
		is(t, v+"; f x", "f x")
		is(t, v+"; f x; "+v, "f x; "+v)
		is(t, "("+v+"; "+v+"); g", "g")
	}
	for _, v := range movings {
		stays(t, "("+v+"); 5", "("+v+"); f x")
		is(t, "("+v+"); 1 + 2", "("+v+"); 3")
		is(t, "(5; ("+v+")); x", "("+v+"); x")
	}
	for s, want := range map[string]string{
		"(1 = 1); 2": "2", "1 + 1; 2": "2", "1 / 0; 2": "1 / 0; 2", "1; 2; 3": "3", "f 1; 2; 3": "f 1; 3", "1; f 2; 3": "f 2; 3", "(1; 2); 3": "3", "(f 1; 2); 3": "(f 1; 2); 3", "(if True then 1 else f 1); 2": "2", "(let x = 1 in 2); x": "x",
	} {
		is(t, s, want)
	}
}

// P11.1: Kids are folded of each kind, at each place.
func TestKidsAreFolded(t *testing.T) {
	for _, form := range []string{
		"#", "fun x -> #", "f #", "# x", "f # #", "let x = f # in x", "let x = # in x", "let x = f x in #", "let rec x = fun y -> # in x", "let rec x = fun y -> y in x #", "if # then # else #", "match # with | A x -> # | 1 -> # | _ -> # end", "try # with x -> # end", "# + x", "x - #", "# * x", "x / #", "# % x", "# = x", "x < #", "x ^ #", "# ^ x",
		"f #; x", "f x; #", "f #; f #; f #", "A #", "A # #", "A 1 # x #", "print #", "raise #", "spawn #", "atomically #", "orelse # #", "tvar #", "read #", "write # #", "fun x -> f (fun y -> A (read #))", "f (match x with | _ -> try # with x -> raise # end end)",
	} {
		for s, want := range map[string]string{"1 + 2": "3", "1 - 2": "1 - 2", "\"a\" ^ \"b\"": "\"ab\"", "1; 2 * 2": "4", "if x then 1 + 1 else y": "if x then 2 else y", "let q = () in z": "z", "fun q -> 1 = 1": "fun q -> True", "let rec q = fun z -> q z in 5": "5"} {
			is(t, strings.ReplaceAll(form, "#", "("+s+")"), strings.ReplaceAll(form, "#", "("+want+")"))
		}
	}
}

// P11.1: the patterns of a match stay as they are, and its rows do: nothing of a match is known ahead.
func TestMatchesStay(t *testing.T) {
	stays(t, "match 1 with | 1 -> 2 | _ -> 3 end", "match True with | True -> 2 | False -> 3 end", "match 1 with | x -> 2 end", "match A 1 2 with | A x (A 0 _) -> x | A True (A y Nil) -> y | z -> z end", "match x with | A (A (A _ 4611686018427387903) w) x y z -> 1 | Nil -> 2 end", "try 1 with x -> 2 end", "atomically 1", "orelse 1 2", "(fun x -> 1) 2", "fun x -> 1")
	// Also where a pattern has something in it that an exp would be folded for.
	sum := node(api.NodeOp, "+", node(api.NodeInt, ""), node(api.NodeInt, ""))
	n := node(api.NodeMatch, "", sum, sum, sum, node(api.NodeCon, "A", sum), sum)
	if got, want := fold.Exp(n), node(api.NodeMatch, "", node(api.NodeInt, ""), sum, node(api.NodeInt, ""), node(api.NodeCon, "A", sum), node(api.NodeInt, "")); !parse.Same(got, want) {
		t.Error(shown(got))
	}
}

// P11.2: of a program what is done, and the values of its lets, are folded; declarations stay.
func TestPrograms(t *testing.T) {
	for s, want := range map[string]string{
		"do 1":     "do 1",
		"do 1 + 2": "do 3",
		"let a = 1 + 1 ; let rec g = fun x -> 2 * 3 ; do a": "let a = 2 ; let rec g = fun x -> 6 ; do a",
		"let a = 1 ; do 2": "let a = 1 ; do 2",
		"let a = 1 ; let a = 2 ; let rec b = fun x -> b x ; do ( 1 ; 2 )":                                                 "let a = 1 ; let a = 2 ; let rec b = fun x -> b x ; do 2",
		"let a = ( 1 ; f 2 ) ; let b = ( f 1 ; 2 ) ; do ( 3 ; b )":                                                        "let a = f 2 ; let b = ( f 1 ; 2 ) ; do b",
		"let a = let x = 1 in fun y -> 1 - 2 ; do if True then a else b":                                                  "let a = fun y -> 1 - 2 ; do a",
		"type t = A ; type l a b = N | C of a , l ( l a int ) b ; let a = A ; do 1 = 1":                                   "type t = A ; type l a b = N | C of a , l ( l a int ) b ; let a = A ; do True",
		"let a = \"x\" ^ \"y\" ; type t = A of int ; let b = a ^ \"z\" ; do print ( \"(\" ^ \")\" )":                      "let a = \"xy\" ; type t = A of int ; let b = a ^ \"z\" ; do print \"()\"",
		"let rec f = fun x -> let rec g = fun y -> f y in 1 < 2 ; do f 1":                                                 "let rec f = fun x -> True ; do f 1",
		"let x = 1 ; do let x = x in 2":                                                                                   "let x = 1 ; do 2",
		"let x = match 1 + 1 with | 2 -> 1 + 1 | _ -> 0 end ; do x":                                                       "let x = match 2 with | 2 -> 2 | _ -> 0 end ; do x",
		strings.Repeat("let a = 1 + 1 ; ", 60) + "do a":                                                                   strings.Repeat("let a = 2 ; ", 60) + "do a",
		"let a = ( if 1 = 1 then ( f 1 ; 2 ) else 3 ) ; let b = if 1 = 2 then 3 else let c = ( ) in ( f 1 ; 2 ) ; do ( )": "let a = ( f 1 ; 2 ) ; let b = ( f 1 ; 2 ) ; do ( )",
	} {
		if got, e := show.Program(fold.Program(program(t, s))); got != want || e != api.OK {
			t.Errorf("%s is %s, %v, not %s", s, got, e, want)
		}
	}
}

// P11.2: what is declared has its places still.
func TestPlacesOfPrograms(t *testing.T) {
	n := program(t, "type l a = N | C of a, l a; let a = (2 * 3); let rec f = fun x -> 1 = 1; do (1; C a 1 + 2)")
	want := program(t, "type l a = N | C of a, l a; let a = (2 * 3); let rec f = fun x -> 1 = 1; do (1; C a 1 + 2)")
	want.Kids[1].Kids[0] = api.Node{Kind: api.NodeInt, Number: 6, At: n.Kids[1].Kids[0].At}
	want.Kids[2].Kids[0].Kids[0] = api.Node{Kind: api.NodeCon, Text: "True", At: n.Kids[2].Kids[0].Kids[0].At}
	want.Kids[3] = want.Kids[3].Kids[1]
	if got := fold.Program(n); shown(got) != shown(want) {
		t.Errorf("%s, not %s", shown(got), shown(want))
	}
}

// at is an exp with places of its own: of the nodes in it, each ahead of its Kids, 100, 101, ..
func at(t *testing.T, s string) api.Node {
	t.Helper()
	next := 100
	var number func(n *api.Node)
	number = func(n *api.Node) {
		n.At = next
		next++
		for i := range n.Kids {
			number(&n.Kids[i])
		}
	}
	n := exp(t, s)
	number(&n)
	return n
}

// P11.1: what is reckoned has the place of the exp itself; else what comes of an exp has its own.
func TestPlaces(t *testing.T) {
	for s, want := range map[string]string{
		"1 + 2": "1\"\"3@100", "7 % 4": "1\"\"3@100", "1 = 1": "5\"True\"0@100", "2 < 1": "5\"False\"0@100", "\"a\" ^ \"b\"": "2\"ab\"0@100", "1 + 2 + 3": "1\"\"6@100", "1 * (2 + 3)": "1\"\"5@100", "\"a\" ^ (\"b\" ^ \"c\")": "2\"abc\"0@100", "1 + 1 < 2 + 2": "5\"True\"0@100",
		"if True then a else b": "4\"a\"0@102", "if False then a else b": "4\"b\"0@103", "if True then 5 else 6": "1\"\"5@102", "if False then \"a\" else Nil": "5\"Nil\"0@103", "if 1 < 2 then a else b": "4\"a\"0@104", "if True then 1 + 2 else b": "1\"\"3@102", "if False then b else \"a\" ^ \"\"": "2\"a\"0@103", "if True then 1 = 1 else b": "5\"True\"0@102",
		"let x = 1 in 5": "1\"\"5@102", "let x = 1 in y": "4\"y\"0@102", "let x = A 1 in f": "4\"f\"0@103", "let x = 1 in 2 + 3": "1\"\"5@102", "let x = 1 + 2 in True": "5\"True\"0@104", "let rec f = fun x -> 1 in \"a\"": "2\"a\"0@103", "let rec f = fun x -> 1 in 1 = 2": "5\"False\"0@103",
		"1; 2": "1\"\"2@102", "(); ()": "3\"\"0@102", "1; 2; 3": "1\"\"3@104", "1; 2 + 3": "1\"\"5@102", "(1; 2) + (3; 4)": "1\"\"6@100", "if (1; True) then (2; a) else b": "4\"a\"0@106",
		"f (1 + 2)": "7\"\"0@100(4\"f\"0@101, 1\"\"3@102)", "f (1; 2)": "7\"\"0@100(4\"f\"0@101, 1\"\"2@104)", "fun x -> 1 + 2": "6\"x\"0@100(1\"\"3@101)", "x + (1 + 2)": "13\"+\"0@100(4\"x\"0@101, 1\"\"3@102)", "1 - (1 + 2)": "13\"-\"0@100(1\"\"1@101, 1\"\"3@102)",
	} {
		if got := shown(fold.Exp(at(t, s))); got != want {
			t.Errorf("%s is %s, not %s", s, got, want)
		}
	}
	// Whatever the places are.
	for _, l := range []int{0, -1, api.MaxInt, -1 << 63, 1<<63 - 1} {
		n := exp(t, "f (1 + 2)")
		n.Kids[1].At = l
		if got := fold.Exp(n).Kids[1]; got.At != l || got.Number != 3 {
			t.Error(shown(got))
		}
	}
}

// P11.3: what is folded stays as it is, also where no source of 2000 bytes has it.
func TestFoldedStays(t *testing.T) {
	for _, s := range []string{
		"f" + strings.Repeat("(1<1)", 399), "A(f" + strings.Repeat("(1=1)x", 330) + ")", "1<1" + strings.Repeat(";f(1<2)", 38), "f x" + strings.Repeat("+f(1<1)", 280),
	} {
		for _, n := range []api.Node{exp(t, s), program(t, "do "+s)} {
			once := fold.Exp(n)
			if len(once.Kids) == 0 || strings.Contains(shown(once), "\"<\"") || strings.Contains(shown(once), "\"=\"") {
				t.Errorf("%s is %s", s, shown(once))
			}
			if twice := fold.Exp(once); shown(twice) != shown(once) {
				t.Errorf("%s is %s, then %s", s, shown(once), shown(twice))
			}
		}
	}
}
