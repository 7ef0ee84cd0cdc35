package infer_test

import (
	"reflect"
	"strings"
	"testing"

	"selvage/api"
	"selvage/infer"
)

// P8.1, constructors: their declarations, exps and patterns of them.
func TestConstructors(t *testing.T) {
	for s, want := range map[string]string{
		list + "do Nil": "list a", list + "do Cons 1 Nil": "list int", list + "do Cons Nil Nil": "list (list a)", list + "do Cons (Cons \"a\" Nil) Nil": "list (list string)",
		list + "do fun x -> Cons x Nil": "-> a b (list a)", list + "do fun x -> fun y -> Cons x (Cons y Nil)": "-> a b (-> a c (list a))",
		pair + "do Pair 1 \"a\"": "pair int string", pair + "do Pair (Pair 1 2) ()": "pair (pair int int) unit", pair + "do fun x -> Pair x x": "-> a b (pair a a)",
		list + "do fun l -> match l with | Nil -> 0 | Cons h t -> h end":               "-> (list int) a int",
		list + "do fun l -> match l with | Nil -> l | Cons h t -> t end":               "-> (list a) b (list a)",
		list + "do fun l -> match l with | Cons h (Cons 1 t) -> t | _ -> l end":        "-> (list int) a (list int)",
		pair + "do fun p -> match p with | Pair x y -> Pair y x end":                   "-> (pair a b) c (pair b a)",
		pair + list + "do fun p -> match p with | Pair (Cons x Nil) y -> Pair y x end": "-> (pair (list a) b) c (pair b a)",
		pair + "do fun p -> match p with | Pair True y -> y | Pair False 0 -> 1 end":   "-> (pair bool int) a int",
		pair + "do match Pair 1 \"a\" with | Pair x y -> y end":                        "string",
		"type t = A; do A": "t",
		"type t = A of int, string, unit, bool; do A 1 \"a\" () True":      "t",
		"type t = A of var int; do fun x -> A x":                           "-> (var int) a t",
		"type t a = A of var a | B of t a; do A (tvar 1)":                  "t int",
		"type t a = A of var a | B of t a; do fun x -> B (A x)":            "-> (var a) b (t a)",
		"type t a b c d = A of d, c, b, a; do A 1 \"a\" () True":           "t bool unit string int",
		"type t a b c d = A; do A":                                         "t a b c d",
		"type t int = A of int; do A \"a\"":                                "t string",
		"type t t = A of t; do A 1":                                        "t int",
		"type t a = A of t (t a) | B; do A B":                              "t a",
		"type t a = A of t (t a) | B of a; do fun x -> A (B (B x))":        "-> a b (t a)",
		"type t a b = A of t b a, a | B; do A B 1":                         "t int a",
		list + pair + "type u a = U of list (pair a int); do U Nil":        "u a",
		list + pair + "type u a = U of list (pair a int); do fun l -> U l": "-> (list (pair a int)) b (u a)",
		"type t = A | B; type u = C of t | D of u; do D (C A)":             "u",
		"type t = A; let t = 1; let a = A; do t":                           "int",
		"type t = B of bool; do B (1 = 2)":                                 "t",
	} {
		does(t, s, want)
	}
}

// P8.1: Cons.
func TestCons(t *testing.T) {
	bools := []api.Con{{Name: "False", Of: "bool", Tag: 0, Arity: 0, Many: 2}, {Name: "True", Of: "bool", Tag: 1, Arity: 0, Many: 2}}
	lists := []api.Con{{Name: "Nil", Of: "list", Tag: 0, Arity: 0, Many: 2}, {Name: "Cons", Of: "list", Tag: 1, Arity: 2, Many: 2}}
	pairs := []api.Con{{Name: "Pair", Of: "pair", Tag: 0, Arity: 2, Many: 1}}
	three := []api.Con{{Name: "A", Of: "t", Tag: 0, Arity: 4, Many: 3}, {Name: "B", Of: "t", Tag: 1, Arity: 0, Many: 3}, {Name: "C", Of: "t", Tag: 2, Arity: 1, Many: 3}}
	for _, l := range []struct {
		s    string
		want [][]api.Con
	}{
		{"do 1", nil}, {"let x = 1; do x", nil}, {list + "do 1", [][]api.Con{lists}}, {list + pair + "do 1", [][]api.Con{lists, pairs}}, {pair + list + "do 1", [][]api.Con{pairs, lists}},
		{pair + "let x = True; type t a = A of int, a, a, t a | B | C of a; let y = x; " + list + "do 1", [][]api.Con{pairs, three, lists}},
	} {
		want := bools
		for _, cons := range l.want {
			want = append(want[:len(want):len(want)], cons...)
		}
		if is := right(t, l.s).Cons; !reflect.DeepEqual(is, want) {
			t.Errorf("%s has %+v, not %+v", l.s, is, want)
		}
	}
	// As many as can be.
	s := "type t = A"
	for i := 1; i < 20; i++ {
		s += " | A" + strings.Repeat("a", i%16) + strings.Repeat("b", i/16)
	}
	cons := right(t, s+"; do 1").Cons
	if len(cons) != 22 {
		t.Fatal(cons)
	}
	for i, c := range cons[2:] {
		if c.Tag != i || c.Many != 20 || c.Of != "t" || c.Arity != 0 {
			t.Errorf("%+v", c)
		}
	}
}

// P8.1, let: a name is general, if its value is a fun, a name, digits, a string, (), or a constructor with such behind it.
func TestLets(t *testing.T) {
	for s, want := range map[string]string{
		"do 1": "", list + "do 1": "",
		"let x = 1; do 1": "x: 0 int", "let x = \"a\"; let y = (); do 1": "x: 0 string; y: 0 unit",
		"let id = fun x -> x; do 1": "id: 2 -> a b a", "let id = fun x -> x; let j = id; do 1": "id: 2 -> a b a; j: 2 -> a b a",
		"let id = fun x -> x; let j = id id; do 1":              "id: 2 -> a b a; j: 0 -> a b a",
		"let id = fun x -> x; let j = id id; do j 1":            "id: 2 -> a b a; j: 0 -> int IO int",
		"let id = fun x -> x; let j = fun x -> id id x; do j 1": "id: 2 -> a b a; j: 2 -> a b a",
		"let x = raise 1; do 1":                                 "x: 0 a", "let x = raise 1; do x + 1": "x: 0 int", "let x = raise 1; let y = x; do y ^ \"a\"": "x: 0 string; y: 0 string",
		"let x = 1; let x = \"a\"; let x = x; do x": "x: 0 int; x: 0 string; x: 0 string",
		"let rec f = fun x -> f x; do f 1":          "f: 3 -> a b c", "let rec f = fun x -> x; let rec g = fun y -> f (g y); do 1": "f: 2 -> a b a; g: 3 -> a b c",
		"let f = fun x -> 1; let f = fun y -> f (f y); do 1": "f: 2 -> a b int; f: 2 -> a b int",
		list + "let l = Nil; do l":                           "l: 1 list a", list + "let l = Cons Nil Nil; do l": "l: 1 list (list a)", list + "let l = Cons 1 Nil; do l": "l: 0 list int",
		list + "let l = Cons (fun x -> x) Nil; do l":                     "l: 2 list (-> a b a)",
		list + "let x = Nil; let l = Cons x (Cons x Nil); do l":          "x: 1 list a; l: 1 list (list a)",
		list + "let l = Cons (raise 1) Nil; do 1":                        "l: 0 list a",
		list + "let l = Cons 1 (Cons (1 + 1) Nil); do 1":                 "l: 0 list int",
		list + "let l = (fun x -> x) Nil; do 1":                          "l: 0 list a",
		list + "let l = (fun x -> x) Nil; do Cons 1 l":                   "l: 0 list int",
		list + "let l = tvar Nil; do 1":                                  "l: 0 var (list a)",
		list + "let l = tvar Nil; do atomically (write l (Cons () Nil))": "l: 0 var (list unit)",
		list + "let l = let x = 1 in Nil; do 1":                          "l: 0 list a",
		list + "let l = if True then Nil else Nil; do 1":                 "l: 0 list a",
		list + "let l = try Nil with e -> Nil end; do 1":                 "l: 0 list a",
		list + "let l = match 1 with | _ -> Nil end; do 1":               "l: 0 list a",
		list + "let l = (1; Nil); do 1":                                  "l: 0 list a",
		list + "let l = atomically Nil; do 1":                            "l: 0 list a",
		list + "let l = Nil; do Cons l (Cons (Cons 1 l) (Cons l Nil))":   "l: 1 list a",
		// What a let has its value's type alone is kept: in what stands behind it nothing of it is general.
		list + "let r = tvar Nil; let s = r; do 1":                                                       "r: 0 var (list a); s: 0 var (list a)",
		list + "let r = tvar Nil; let s = fun x -> r; do 1":                                              "r: 0 var (list a); s: 2 -> a b (var (list c))",
		list + "let r = tvar Nil; let f = fun x -> write r x; do 1":                                      "r: 0 var (list a); f: 0 -> (list a) STM unit",
		list + "let r = tvar Nil; let f = fun x -> fun y -> write r x; do 1":                             "r: 0 var (list a); f: 2 -> (list a) b (-> c STM unit)",
		list + "let r = tvar Nil; let f = fun x -> fun y -> write r y; do atomically (f 1 (Cons 1 Nil))": "r: 0 var (list int); f: 2 -> a b (-> (list int) STM unit)",
		list + "let r = tvar Nil; let r = 1; let s = r; do 1":                                            "r: 0 var (list a); r: 0 int; s: 0 int",
		list + "let r = tvar Nil; let f = fun x -> read r; let r = 1; let g = f; do 1":                   "r: 0 var (list a); f: 1 -> a STM (list b); r: 0 int; g: 1 -> a STM (list b)",
		list + pair + "let r = tvar Nil; let s = tvar Nil; let p = Pair r s; do 1":                       "r: 0 var (list a); s: 0 var (list a); p: 0 pair (var (list a)) (var (list b))",
		list + pair + "let r = tvar Nil; let p = fun x -> Pair r Nil; do 1":                              "r: 0 var (list a); p: 3 -> a b (pair (var (list c)) (list d))",
		list + pair + "let r = tvar Nil; let p = fun x -> Pair Nil r; do 1":                              "r: 0 var (list a); p: 3 -> a b (pair (list c) (var (list d)))",
		"let f = (fun x -> x) (fun x -> x); do 1":                                                        "f: 0 -> a b a",
		"let f = (fun x -> x) (fun x -> x); let g = f; do g 1":                                           "f: 0 -> int IO int; g: 0 -> int IO int",
		"let f = (fun x -> x) (fun x -> x); let g = fun y -> f y; do atomically (g 1)":                   "f: 0 -> int STM int; g: 0 -> int STM int",
		"let f = (fun x -> x) (fun x -> x); let g = fun y -> fun z -> f y; do 1":                         "f: 0 -> a b a; g: 2 -> a b (-> c d a)",
	} {
		lets(t, s, want)
	}
}

// Within an exp: lets' names are general, or not, as those of declarations are.
func TestInnerLets(t *testing.T) {
	for s, want := range map[string]string{
		"let id = fun x -> x in id id 1":                                                         "int",
		"let id = fun x -> x in (id 1; id \"a\")":                                                "string",
		"let id = fun x -> x in let j = id in (j 1; j \"a\")":                                    "string",
		"let rec f = fun x -> x in (f 1; f \"a\")":                                               "string",
		"fun y -> let id = fun x -> x in (id y; id 1; id id y)":                                  "-> a b a",
		"fun y -> let k = fun x -> y in (k 1; k \"a\")":                                          "-> a b a",
		"fun y -> let z = y in (z 1; z)":                                                         "-> (-> int a b) a (-> int a b)",
		"fun y -> let k = fun x -> y x in (k 1; k)":                                              "-> (-> int a b) a (-> int a b)",
		"fun y -> let rec k = fun x -> y in (k 1; k \"a\")":                                      "-> a b a",
		"fun y -> let z = y in let w = z in w 1":                                                 "-> (-> int a b) a b",
		"fun x -> let y = raise 1 in (y + 1; x y)":                                               "-> (-> int a b) a b",
		"match fun x -> x with | f -> let g = f in g 1 end":                                      "int",
		"try 1 with e -> let f = e in f end":                                                     "int",
		"let n = 1 in let s = \"a\" in let u = () in (n + 1; s ^ s; u)":                          "unit",
		"fun x -> fun y -> let p = fun z -> x y in p ()":                                         "-> (-> a b c) d (-> a b c)",
		"fun x -> let f = fun y -> fun z -> y x in (f (fun w -> 1) 1; f (fun w -> \"a\") \"a\")": "-> a b string",
		// Kept is what stands round, and no more behind it.
		"let f = (let g = (fun x -> x) (fun x -> x) in fun y -> g y) in 1":              "int",
		"let f = fun y -> (let g = (fun x -> x) (fun x -> x) in g y) in (f 1; f \"a\")": "string",
		"let f = fun y -> (match y with | x -> x end) in (f 1; f \"a\")":                "string",
		"let f = fun y -> (fun z -> z) y in (f 1; f \"a\")":                             "string",
		"let a = (let b = fun x -> x in b 1) in let c = fun x -> x in (c 1; c \"a\")":   "string",
		"let rec f = fun x -> let rec g = fun y -> f in 1 in f 1":                       "int",
	} {
		does(t, "do "+s, want)
	}
	for s, want := range map[string]string{
		"let f = fun x -> let g = fun y -> x in g; do 1":                 "f: 4 -> a b (-> c d a)",
		"let rec f = fun x -> let g = fun y -> f y in g x; do 1":         "f: 3 -> a b c",
		"let rec f = fun x -> let rec g = fun y -> f (g y) in g x; do 1": "f: 2 -> a b a",
	} {
		lets(t, s, want)
	}
}

// What is not general is of one type.
func TestWhatIsNotGeneral(t *testing.T) {
	for _, s := range []string{
		"do fun f -> (f 1; @f \"a\")",
		"do fun x -> let f = x in (f 1; @f \"a\")",
		"do fun x -> let f = fun y -> x y in (f 1; @f \"a\")",
		"do fun x -> let f = fun y -> fun z -> x y in (f 1 1; @f \"a\" 1)",
		"do let f = (fun x -> x) (fun x -> x) in (f 1; @f \"a\")",
		"do let f = (fun x -> x) (fun x -> x) in let g = f in (g 1; @g \"a\")",
		"do let f = if True then fun x -> x else fun x -> x in (f 1; @f \"a\")",
		"do match fun x -> x with | f -> (f 1; @f \"a\") end",
		"do match fun x -> x with | f -> let g = f in (g 1; @g \"a\") end",
		"do let rec f = fun x -> (f 1; @f \"a\") in f",
		"do let rec f = fun x -> let g = f in (g 1; @g \"a\") in f",
		"do let rec f = fun x -> let g = fun y -> f y in (g 1; @g \"a\") in f",
		"let rec f = fun x -> let g = fun y -> f y in (g 1; @g \"a\"); do f",
		"let rec f = fun x -> let rec g = fun y -> f y in (g 1; @g \"a\"); do f",
		"let f = (fun x -> x) (fun x -> x); do (f 1; @f \"a\")",
		"let f = (fun x -> x) (fun x -> x); let g = f; do (g 1; @g \"a\")",
		"let f = (fun x -> x) (fun x -> x); let g = fun x -> f x; do (g 1; @g \"a\")",
		"let f = (fun x -> x) (fun x -> x); let h = fun y -> f; let f = 1; let g = fun x -> h x x; do (g 1; @g \"a\")",
		"let f = (fun x -> x) (fun x -> x); let f = f; do (f 1; @f \"a\")",
		list + "let l = (fun x -> x) Nil; do (Cons 1 l; Cons \"a\" @l)",
		list + "let l = Cons (raise 1) Nil; do (Cons 1 l; Cons \"a\" @l)",
		list + "let l = Cons (fun x -> x) (Cons (raise 1) Nil); do match l with | Cons f m -> (f 1; @f \"a\") | _ -> \"\" end",
		list + "let r = tvar Nil; do atomically (write r (Cons 1 Nil); write @r (Cons \"a\" Nil))",
		list + "let r = tvar Nil; let s = r; do atomically (write r (Cons 1 Nil); write @s (Cons \"a\" Nil))",
		list + "let r = tvar Nil; let f = fun x -> fun y -> write r x; do atomically (f (Cons 1 Nil) 1; @f (Cons \"a\" Nil) 1)",
		list + "let r = tvar Nil; let f = fun x -> read r; let r = 1; let g = f; do atomically (Cons 1 (g ()); Cons \"a\" (@g ()))",
		list + "do let r = tvar Nil in let s = r in let r = 1 in atomically (write s (Cons 1 Nil); write @s (Cons \"a\" Nil))",
	} {
		fails(t, s, api.ErrType)
	}
	// And what is general is of many.
	for _, s := range []string{
		"let f = fun x -> x; do (f 1; f \"a\")", "let f = fun x -> x; let g = f; do (g 1; g \"a\")", "let rec f = fun x -> x; do (f 1; f \"a\")",
		list + "let l = Nil; do (Cons 1 l; Cons \"a\" l)", list + "let l = Cons Nil Nil; do (Cons (Cons 1 Nil) l; Cons (Cons \"a\" Nil) l)",
		list + "let l = Cons (fun x -> x) Nil; do match l with | Cons f m -> f 1 | Nil -> 2 end",
		list + "let l = Cons (fun x -> x) Nil; do (match l with | Cons f m -> f 1 | Nil -> 2 end; match l with | Cons f m -> f \"a\" | Nil -> \"\" end)",
	} {
		right(t, s)
	}
}

// P8.2: what is declared, and not named, changes nothing of the rest.
func TestWhatIsNotNamed(t *testing.T) {
	extra := []string{
		"type zz = ZA | ZB of int; ", "type zz a b = ZA of a | ZB of b, zz b a; ", "let zz = 1; ", "let zz = fun x -> x; ", "let rec zz = fun x -> zz x; ",
		"let zz = tvar (fun x -> x); ", "let zz = raise 1; ", "let zz = print \"a\"; ", "let zz = spawn (atomically retry); ",
	}
	for _, l := range [][]string{
		{"do 1"}, {"let x = 1; ", "do x"}, {"let f = fun x -> x; ", "let g = f f; ", "do g 1"}, {list, "let r = tvar Nil; ", "let f = fun x -> write r x; ", "do atomically (f Nil)"},
		{list, "let rec map = fun f -> fun l -> match l with | Nil -> Nil | Cons h t -> Cons (f h) (map f t) end; ", "do map"},
		{pair, "let f = fun x -> Pair x x; ", "let g = fun y -> f (f y); ", "do g"}, {"let f = fun x -> x; ", "do f 1 + f \"a\""}, {"let x = tvar 1; ", "do read x"},
	} {
		r, _, wrong := infer.Program(node(t, strings.Join(l, "")))
		for _, e := range extra {
			for i := range l {
				s := strings.Join(l[:i], "") + e + strings.Join(l[i:], "")
				is, _, fault := infer.Program(node(t, s))
				if fault != wrong || told(without(is, "zz")) != told(r) {
					t.Errorf("%s: %s, %v, not %s, %v", s, told(is), fault, told(r), wrong)
				}
			}
		}
	}
}

// without is a result without the lets, and the type, of a name.
func without(r api.Result, name string) api.Result {
	is := api.Result{Main: r.Main}
	for _, c := range r.Cons {
		if c.Of != name {
			is.Cons = append(is.Cons, c)
		}
	}
	for i, n := range r.Names {
		if n != name {
			is.Names, is.Types = append(is.Names, n), append(is.Types, r.Types[i])
		}
	}
	return is
}
