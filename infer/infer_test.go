package infer_test

import (
	"strconv"
	"strings"
	"testing"

	"selvage/api"
	"selvage/infer"
	"selvage/parse"
	"selvage/types"
)

// Types that most sources need. Of a pair, and of a list, each thing behind it counts.
const (
	list = "type list a = Nil | Cons of a, list a; "
	pair = "type pair a b = Pair of a, b; "
)

// node is a source's node.
func node(t *testing.T, s string) api.Node {
	t.Helper()
	n, at, e := parse.Program(s)
	if e != api.OK {
		t.Fatalf("%s is no program: %d, %v", s, at, e)
	}
	return n
}

// told is a result as a text: constructors, then each name with how many variables are general and its type, then the type of what is done.
func told(r api.Result) string {
	var l []string
	for _, c := range r.Cons {
		l = append(l, strings.Join([]string{c.Name, c.Of, strconv.Itoa(c.Tag), strconv.Itoa(c.Arity), strconv.Itoa(c.Many)}, " "))
	}
	for i, c := range r.Types {
		l = append(l, r.Names[i]+": "+strconv.Itoa(c.Many)+" "+types.Show(c.Type))
	}
	return strings.Join(append(l, types.Show(r.Main)), "; ")
}

// right is what is known of a source that is right.
func right(t *testing.T, s string) api.Result {
	t.Helper()
	r, at, e := infer.Program(node(t, s))
	if e != api.OK || at != 0 || len(r.Names) != len(r.Types) {
		t.Errorf("%.200s: %d, %v", s, at, e)
	}
	return r
}

// does holds that what a source does is of a type.
func does(t *testing.T, s, want string) {
	t.Helper()
	if is := types.Show(right(t, s).Main); is != want {
		t.Errorf("%s is %s, not %s", s, is, want)
	}
}

// lets holds what the lets of a source are: of each a name, how many variables are general, and the type.
func lets(t *testing.T, s, want string) {
	t.Helper()
	r := right(t, s)
	r.Cons, r.Main = nil, api.Type{}
	if is := strings.TrimSuffix(told(r), "; "); is != want {
		t.Errorf("%s has %s, not %s", s, is, want)
	}
}

// fails holds that a source has an error where an @ stands.
func fails(t *testing.T, s string, want api.Errno) {
	t.Helper()
	place := strings.IndexByte(s, '@')
	if place < 0 {
		t.Fatalf("%s: no place", s)
	}
	source := s[:place] + s[place+1:]
	r, at, e := infer.Program(node(t, source))
	if at != place || e != want || told(r) != "" {
		t.Errorf("%.200s: %d, %v, not %d, %v; and %s", source, at, e, place, want, told(r))
	}
}

// P8.1: the type of each exp.
func TestExps(t *testing.T) {
	for s, want := range map[string]string{
		"0": "int", "4611686018427387903": "int", "\"\"": "string", "\"a\\n\"": "string", "()": "unit", "True": "bool", "False": "bool",
		"fun x -> x": "-> a b a", "fun x -> 1": "-> a b int", "fun x -> fun y -> x": "-> a b (-> c d a)", "fun x -> fun y -> y": "-> a b (-> c d c)",
		"fun x -> fun x -> x": "-> a b (-> c d c)", "fun f -> fun x -> f x": "-> (-> a b c) d (-> a b c)",
		"fun f -> fun g -> fun x -> f (g x)": "-> (-> a b c) d (-> (-> e b a) f (-> e b c))", "fun f -> f 1": "-> (-> int a b) a b",
		"(fun x -> x) 1": "int", "(fun x -> fun y -> x) 1 \"a\"": "int", "(fun f -> f 1) (fun x -> \"a\")": "string",
		"let x = 1 in x": "int", "let x = 1 in \"a\"": "string", "let x = 1 in let x = \"a\" in x": "string", "let x = let x = 1 in \"a\" in x": "string",
		"let f = fun x -> x in f": "-> a b a", "let f = fun x -> x in f (f 1)": "int",
		"let rec f = fun x -> f x in f": "-> a b c", "let rec f = fun x -> if x < 1 then 1 else x * f (x - 1) in f": "-> int a int",
		"let rec f = fun f -> f in f": "-> a b a", "let rec f = fun x -> 1 in f ()": "int",
		"if True then 1 else 2": "int", "if 1 = 2 then \"a\" else \"b\"": "string", "fun x -> if x then x else x": "-> bool a bool", "fun x -> fun y -> if x then y else 1": "-> bool a (-> int b int)",
		"1; \"a\"": "string", "\"a\"; 1": "int", "(fun x -> x); 1": "int", "1; (); True": "bool",
		"1 + 2": "int", "1 - 2": "int", "1 * 2": "int", "1 / 2": "int", "1 % 2": "int", "1 = 2": "bool", "1 < 2": "bool", "\"a\" ^ \"b\"": "string",
		"fun x -> fun y -> x + y": "-> int a (-> int b int)", "fun x -> fun y -> x - y": "-> int a (-> int b int)", "fun x -> fun y -> x * y": "-> int a (-> int b int)",
		"fun x -> fun y -> x / y": "-> int a (-> int b int)", "fun x -> fun y -> x % y": "-> int a (-> int b int)", "fun x -> fun y -> x = y": "-> int a (-> int b bool)",
		"fun x -> fun y -> x < y": "-> int a (-> int b bool)", "fun x -> fun y -> x ^ y": "-> string a (-> string b string)",
		"raise 1": "a", "raise 1 + 1": "int", "fun x -> raise x": "-> int a b", "(raise 1) 2": "a", "if raise 1 then 1 else raise 2": "int",
		"try 1 with e -> 2 end": "int", "try raise 1 with e -> e end": "int", "try \"a\" with e -> raise e end": "string", "fun x -> try x with x -> x end": "-> int a int",
		"match 1 with | x -> x end": "int", "match 1 with | 0 -> \"a\" | 1 -> \"b\" | _ -> \"c\" end": "string", "match True with | True -> 1 | False -> 2 end": "int",
		"fun x -> match x with | 0 -> x | y -> y end": "-> int a int", "fun x -> match x with | True -> 1 | _ -> 2 end": "-> bool a int", "fun x -> match x with | _ -> x end": "-> a b a",
		"match fun x -> x with | f -> f 1 end": "int", "match \"a\" with | _ -> 1 end": "int", "match \"a\" with | x -> x end": "string",
		"tvar 1": "var int", "tvar (tvar \"a\")": "var (var string)", "fun x -> tvar x": "-> a b (var a)", "tvar (fun x -> x)": "var (-> a b a)",
		"print \"a\"": "unit", "fun s -> print s": "-> string IO unit", "spawn 1": "unit", "spawn (print \"a\")": "unit", "fun x -> spawn x": "-> a IO unit", "spawn (spawn ())": "unit",
		"atomically 1": "int", "atomically (read (tvar 1))": "int", "atomically (write (tvar 1) 2)": "unit", "atomically retry": "a", "atomically (orelse 1 2)": "int",
		"atomically (orelse retry 1)": "int", "atomically (orelse 1 retry)": "int", "atomically (orelse retry retry)": "a", "spawn (atomically (read (tvar 1)))": "unit",
		"fun x -> read x": "-> (var a) STM a", "fun x -> fun y -> write x y": "-> (var a) b (-> a STM unit)", "fun x -> retry": "-> a STM b", "fun x -> orelse x x": "-> a STM a",
		"fun x -> atomically x": "-> a IO a", "fun f -> atomically (f 1)": "-> (-> int STM a) IO a", "fun f -> spawn (f 1)": "-> (-> int IO a) IO unit",
		"fun f -> orelse (f 1) (f 2)": "-> (-> int STM a) STM a", "fun f -> (f 1; print \"a\")": "-> (-> int IO a) IO unit", "fun f -> (read f) (1)": "-> (var (-> int STM a)) STM a",
		"fun f -> fun x -> (print \"a\"; f x)": "-> (-> a IO b) c (-> a IO b)",
	} {
		does(t, "do "+s, want)
		r := right(t, "let v = ("+s+"); do ()")
		many := 0
		if strings.HasPrefix(s, "fun ") {
			many = variables(r.Types[0].Type)
		}
		if is := types.Show(r.Types[0].Type); is != want || r.Types[0].Many != many {
			t.Errorf("a let of %s is %d %s, not %d %s", s, r.Types[0].Many, is, many, want)
		}
	}
}

// variables is how many variables a type has, which have the numbers 1, 2, ..
func variables(t api.Type) int {
	many := t.Var
	for _, arg := range t.Args {
		many = max(many, variables(arg))
	}
	return many
}

// The examples of the chapter, and of the whole.
func TestExamples(t *testing.T) {
	does(t, "do fun x -> x", "-> a b a")
	does(t, "let id = fun x -> x; do id id 1", "int")
	fails(t, "do @read (tvar 1)", api.ErrEffect)
	does(t, "do atomically (read (tvar 1))", "int")
	does(t, "do print \"a\"", "unit")
	fails(t, "do 1 + @\"a\"", api.ErrType)
	does(t, "do match 1 with | 0 -> 1 end", "int") // that it leaves something out is another chapter's
	does(t, "do try 1 / 0 with e -> e end", "int")
	does(t, "let a = tvar 0; do spawn (atomically (write a 1)); atomically (if read a < 1 then retry else ()); print \"w\"", "unit")
	lets(t, "let a = tvar 0; do atomically (retry)", "a: 0 var int")
	does(t, "let a = tvar 1; do atomically (orelse (write a 5; retry) (read a))", "int")
	does(t, "let a = tvar 1; do try atomically (write a 9; raise 1) with e -> print \"a\" end", "unit")
}
