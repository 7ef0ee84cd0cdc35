package infer_test

import (
	"testing"

	"selvage/api"
)

// P8.1: names that there are not.
func TestNamesThatThereAreNot(t *testing.T) {
	for _, s := range []string{
		"do @x", "do 1 + @x", "do @x + 1", "do fun y -> @x", "do (fun x -> 1) @x", "do (fun x -> x) 1 + @x", "let y = 1; do @x", "let x = @x; do x", "let x = 1; let y = x; do @z",
		"do let x = @x in x", "do let x = 1 in x + @y", "do (let x = 1 in x) + @x", "do let rec f = fun x -> @y in f", "do let rec f = fun x -> x in @x", "do (let rec f = fun x -> x in 1) + @f",
		"do match 1 with | x -> @y end", "do match @x with | x -> x end", "do match 1 with | 0 -> @x | x -> x end", "do match 1 with | x -> x | _ -> @x end", "do (match 1 with | x -> x end) + @x",
		"do try @e with e -> e end", "do try 1 with e -> @f end", "do (try 1 with e -> e end) + @e", "let rec f = fun x -> @g; let g = 1; do 1", "let x = 1; do x + @x1", "let x = 1; do @xx",
		"do @int", "type t = A; do @t", "type t a = A of a; do @a", "do print @x", "do raise @x", "do spawn @x", "do atomically @x", "do tvar @x", "do atomically (read @x)", "do atomically (write @x 1)",
		"do atomically (orelse @x 1)", "do atomically (orelse 1 @x)", "do if @x then 1 else 2", "do if True then @x else 2", "do if True then 1 else @x", "do 1; @x", "do @x; 1",
		"do @A", "do @A 1", "do @Nil", "do @TRUE", "do fun x -> @A x", "type t = A; do @B", "type t = A; do @AA", "let x = @A; type t = A; do x",
		"do match 1 with | @A -> 1 end", "do match 1 with | @A x -> 1 end", "do match 1 with | x -> 1 | @A -> 1 end", pair + "do match Pair 1 2 with | Pair x @A -> 1 end",
		"type t = A of @a; do 1", "type t = A of @list; do 1", "type t a = A of @b; do 1", "type t a = A of a, @b; do 1", "type t a = A of t @b; do 1", "type t = A | B of @u; type u = C; do 1",
		"type t = A of @int1; do 1", "type t = A of var @x; do 1", "type t = A of @x int; do 1", "type t a = A of @u a; type u a = B of a; do 1", "type t a = A of a; type u = B of @a; do 1",
		"type t = A of @unit1; do 1", "type t a = A of var (var @b); do 1", "type t = A of @x; do y", "type t = A of int, string, unit, @float; do 1", "type t = A of @stm; do 1",
	} {
		fails(t, s, api.ErrName)
	}
}

// P8.1: names that there are already.
func TestNamesThatThereAre(t *testing.T) {
	for _, s := range []string{
		"@type int = A; do 1", "@type string = A; do 1", "@type unit = A; do 1", "@type bool = A; do 1", "@type var = A; do 1", "@type var a = A; do 1", "let x = 1; @type int = A; do 1",
		"type t = A; @type t = B; do 1", "type t = A; @type t a = B; do 1", "type t = A; type u = B; let x = 1; @type t = C; do 1",
		"@type t a a = A; do 1", "@type t a b a = A; do 1", "@type t a b b = A; do 1", "@type t a b c b = A of x; do 1", "@type t a b c c = True; do 1",
		"type t = A | @A; do 1", "type t = A | B | @A; do 1", "type t = @True; do 1", "type t = A | @False; do 1", "type t = A; type u = @A; do 1", "type t = A; type u = B | @A of x; do 1",
		"type t = A | B; let x = 1; type u a = C | @B of a; do 1", "type t = A of int | @A of int; do 1",
		pair + "do match Pair 1 2 with | Pair x @x -> 1 end", pair + "do match Pair (Pair 1 2) 3 with | Pair (Pair x y) @x -> 1 end", pair + "do match Pair 1 (Pair 2 3) with | Pair x (Pair y @x) -> 1 end",
		pair + "do match Pair 1 (Pair 2 3) with | Pair x (Pair y @y) -> 1 end", pair + "do match Pair 1 2 with | _ -> 1 | Pair x @x -> 1 end", "type t = A of int, int, int; do match A 1 2 3 with | A x _ @x -> 1 end",
		"type t = A of int, int, int; do match A 1 2 3 with | A x @x x -> 1 end",
	} {
		fails(t, s, api.ErrTwice)
	}
	// Names may be given anew; and a name of something else is no such name.
	for _, s := range []string{
		"let x = 1; let x = 2; do x", "do let x = 1 in let x = 2 in x", "do fun x -> fun x -> x", "do match 1 with | 0 -> 1 | x -> x | x -> x end", "do match 1 with | x -> match 2 with | x -> x end end",
		"let int = 1; do int", "type a a = A of a; do A 1", "type t = T; do T", "type x = X; let x = 1; do x", "let x = 1; type x = X; do x", "type t a = A of a; type u a = B of a; do 1",
		pair + "do match Pair 1 2 with | Pair _ _ -> 1 end", "do try try 1 with e -> e end with e -> e end", "do let x = 1 in match 2 with | x -> x end", "do fun x -> match x with | x -> x end",
		pair + "do match Pair 1 2 with | Pair x y -> x | Pair y x -> y end", "type t int = A of int; do 1", "type t bool = A of bool; do A 1", "type t u = A of u; type u t = B of t; do 1",
		"let f = fun x -> x; let rec f = fun x -> f x; do f", "type real = A; do A",
	} {
		right(t, s)
	}
}

// P8.1: too few, or too many, beside a constructor or a type.
func TestTooFewAndTooMany(t *testing.T) {
	for _, s := range []string{
		list + "do @Cons", list + "do @Cons 1", list + "do @Cons 1 Nil Nil", list + "do @Nil 1", "do @True 1", "do @False ()", list + "do Cons 1 (@Cons 2)", list + "do Cons @Cons Nil", list + "do 1 + @Cons",
		"type t = A of int, int, int, int; do @A 1 2 3", "type t = A of int; do @A", "type t = A of int; do @A 1 2", "type t = A; do @A 1", "do @True x", list + "do @Cons x",
		list + "do match Nil with | @Cons -> 1 end", list + "do match Nil with | @Cons x -> 1 end", list + "do match Nil with | @Cons x y z -> 1 end", list + "do match Nil with | @Nil x -> 1 end",
		list + "do match Nil with | Cons 1 (@Cons 2) -> 1 end", list + "do match Nil with | Cons 1 @Cons -> 1 end", "do match True with | @True _ -> 1 end", list + "do match 1 with | @Cons x x x -> 1 end",
		"type t = A of @int int; do 1", "type t = A of @var; do 1", "type t = A of @var int int; do 1", "type t a = A of @a int; do 1", "type t a = A of @a a; do 1", "type t a = A of @t; do 1",
		"type t a = A of @t a a; do 1", "type t = A of @t int; do 1", list + "type t = A of @list; do 1", list + "type t = A of @list int int; do 1", list + "type t = A of list @list; do 1",
		list + "type t = A of list (@list int int); do 1", pair + "type t = A of @pair int; do 1", pair + "type t = A of int, @pair; do 1", "type t a = A of @bool x; do 1", "type t a = A of @a x; do 1",
		"type t = A of @var x y; do 1", "type t var = A of @var int; do 1", "type t int = A of @int int; do 1", "type t t = A of @t t; do 1", "type t a = A of a | B of @unit a; do 1", "type t = A of @string t; do 1",
	} {
		fails(t, s, api.ErrArity)
	}
}

// P8.1: types that must be one, and can't.
func TestTypesThatDoNotGoTogether(t *testing.T) {
	for _, s := range []string{
		"do @1 2", "do @\"a\" 1", "do @() 1", "do @1 2 3", "do (@fun x -> 1) 2 3", "do (@fun x -> x + 1) \"a\"", "do (@fun f -> f 1) 2", "do (@fun f -> f 1) (fun s -> s ^ \"a\")",
		"do fun f -> (f 1; @f \"a\")", "do fun f -> (f 1; f 2 + 3; @f 1 ^ \"a\"; 1)",
		"do @\"a\" + 1", "do 1 + @\"a\"", "do @() - 1", "do 1 - @()", "do @True * 1", "do 1 * @True", "do (@fun x -> x) / 1", "do 1 / (@fun x -> x)", "do @\"a\" % 1", "do 1 % @\"a\"",
		"do @\"a\" = \"a\"", "do 1 = @\"a\"", "do @True = True", "do @() < 1", "do 1 < @()", "do @1 ^ \"a\"", "do \"a\" ^ @1", "do @1 + 2 ^ \"a\"", "do \"a\" ^ @1 ^ 2", "do 1 = 2 + @\"a\"", "do @\"a\" = 2 + \"a\"",
		"do if @1 then 2 else 3", "do if @() then 2 else 3", "do if @\"True\" then 2 else 3", "do if True then 1 else @\"a\"", "do if True then 1 else @()", "do if True then fun x -> x + 1 else @fun x -> x ^ \"a\"",
		"do match 1 with | 0 -> 1 | 1 -> @\"a\" end", "do match 1 with | 0 -> 1 | 1 -> 2 | _ -> @\"a\" end", "do match 1 with | 0 -> 1 | 1 -> @\"a\" | _ -> \"b\" end",
		"do match 1 with | @True -> 1 end", "do match True with | @1 -> 1 end", "do match \"a\" with | @1 -> 1 end", "do match () with | @1 -> 1 end", "do match 1 with | 1 -> 1 | @True -> 1 end", "do match True with | True -> 1 | @0 -> 1 end",
		list + "do match 1 with | @Nil -> 1 end", list + "do match Nil with | @True -> 1 end", list + "do match Cons 1 Nil with | Cons @True x -> 1 end", list + "do match Cons 1 Nil with | Cons x (Cons @True y) -> 1 end",
		list + "do match Nil with | Cons 1 (Cons @True y) -> 1 end", list + "do match Cons 1 Nil with | Cons 1 @1 -> 1 end", list + "do match Nil with | Cons 1 x -> 1 | Cons @True y -> 2 end", list + "do fun x -> match x with | Cons 1 y -> 2 | @0 -> 1 end",
		pair + "do match Pair 1 \"a\" with | Pair x y -> x + @y end", "do match 1 with | x -> x + 1 | x -> @x ^ \"a\" end",
		"do try 1 with e -> @\"a\" end", "do try () with e -> @e end", "do try \"a\" with e -> @e ^ \"b\" end", "do try 1 with e -> e + @() end",
		"do raise @\"a\"", "do raise @()", "do print @1", "do print @()", "do atomically (read @1)", "do atomically (read @())", "do atomically (@read (tvar 1) ^ \"a\")",
		"do atomically (write @1 2)", "do atomically (write (@tvar 1) \"a\")", "do atomically (write (@tvar \"a\") 1)", "do fun x -> (write x 1; write @x \"a\")", "do atomically (orelse 1 @\"a\")", "do atomically (orelse (read (tvar 1)) @())",
		list + "do Cons 1 @2", list + "do Cons 1 (@Cons \"a\" Nil)", list + "do Cons 1 (Cons \"a\" (@Cons 2 Nil))", pair + list + "do Cons (Pair 1 2) (@Cons (Pair 1 \"a\") Nil)",
		"type t = A of int; do A @\"a\"", "type t = A of int, string; do A 1 @2", "type t = A of int, string; do A @() 2", "type t a = A of a, a; do A 1 @\"a\"", "type t a b = A of a, b, a; do A 1 \"a\" @\"a\"", "type t = A of var int; do A (@tvar \"a\")",
		"type t = A of bool; do A @1", "type t = A of unit; do A @1", "type t = A; type u = B; type v = C of t; do C @B", "type t a = A of t int | B of a; do A (@B \"a\")",
		"let x = 1; do @x ^ \"a\"", "let f = fun x -> x + 1; do @f \"a\"", "let rec f = fun x -> f 1 2 + @f x; do f", "let rec f = fun x -> (f 1 + 1; @f 1 ^ \"a\"); do f",
		"do let rec f = @fun x -> (f 1 + 1; \"a\") in f", "let rec f = @fun x -> (f 1 + 1; \"a\"); do f", "do let x = 1 in @x ^ \"a\"", "do fun x -> (x + 1; @x ^ \"a\")",
		"do fun x -> fun y -> ((if x then y else 1); if @y then 1 else 2)", "do @print \"a\" + 1", "do @atomically () + 1", "do @spawn 1 + 1", "do @tvar 1 + 1",
	} {
		fails(t, s, api.ErrType)
	}
}

// P8.1: a type that would be a part of itself.
func TestTypesThatAreAPartOfThemselves(t *testing.T) {
	for _, s := range []string{
		"do fun x -> @x x", "do fun x -> fun y -> (x y; @x x)", "do let f = fun x -> @x x in 1", "let rec f = @fun x -> f; do 1", "do let rec f = @fun x -> f in 1", "do fun f -> fun x -> (f x; @f f)",
		list + "do fun x -> Cons x @x", list + "do fun x -> Cons x (Cons x @x)", list + "do fun x -> match x with | Cons y z -> if True then y else @x | _ -> x end", "do fun x -> if True then x else @tvar x",
		"do fun x -> (atomically (write @x x))", "do fun x -> if True then x else @fun y -> x", "do fun x -> match x with | 0 -> fun y -> @y y | _ -> raise 1 end",
		list + "do fun l -> match l with | Cons x (Cons y z) -> Cons l @z | _ -> Nil end",
		list + "do fun l -> match l with | Cons x y -> match x with | Cons z y -> if True then y else @l | _ -> y end | _ -> l end",
		"do fun x -> try x with e -> @tvar x end",
		"do fun x -> atomically (orelse x (@tvar x))", "let r = tvar (raise 1); do atomically (write @r r)",
	} {
		fails(t, s, api.ErrLoop)
	}
}

// P8.1: effects that do not go together.
func TestEffectsThatDoNotGoTogether(t *testing.T) {
	for _, s := range []string{
		"do @read (tvar 1)", "do @write (tvar 1) 2", "do @retry", "do @orelse 1 2", "do 1 + @read (tvar 1)", "let x = @read (tvar 1); do 1", "let x = @retry; do 1", "do spawn (@read (tvar 1))", "do spawn @retry",
		"do atomically (@print \"a\")", "do atomically (@spawn 1)", "do atomically (@atomically 1)", "do atomically (1; @print \"a\")", "do atomically (orelse (@print \"a\") ())", "do atomically (orelse () (@print \"a\"))",
		"do fun x -> (print \"a\"; @read x)", "do fun x -> (read x; @print \"a\")", "do fun x -> (spawn 1; @retry)", "do fun x -> (retry; @spawn 1)", "do fun x -> (atomically 1; @write x 1)", "do fun x -> (write x 1; @atomically 1)",
		"do fun x -> (orelse 1 2; @atomically 1)", "do fun x -> (print \"a\"; @orelse 1 2)", "do (print \"a\"; @retry)", "do atomically (@spawn (print \"a\"))", "do @read (tvar (fun x -> print x))",
		"do try @retry with e -> 1 end", "do try 1 with e -> @retry end", "do match @retry with | x -> x end", "do match 1 with | x -> @retry end", "do if @retry then 1 else 2", "do if True then @retry else 2", "do if True then 2 else @retry",
		"do let x = @retry in x", "do let x = 1 in @retry", "do tvar @retry", "do raise @retry", "do print @retry", "do (fun x -> x) @retry", "do @retry 1", list + "do Cons @retry Nil", "do atomically (if True then @print \"a\" else ())",
		"do fun f -> (f 1; print \"a\"; @retry)", "do fun x -> let y = print \"a\" in @read x", "do atomically (@spawn 1)", "do spawn (spawn @retry)", "do atomically (@atomically retry)", "do let rec f = fun x -> (print \"a\"; @retry) in f",
		"do fun f -> (f (print \"a\"); @retry)", "do atomically (read (tvar (@print \"a\")))", "do (fun x -> x) (atomically (let g = fun y -> print y in @print \"a\"))",
	} {
		fails(t, s, api.ErrEffect)
	}
	// A function's type has its effect: where it is called, the two types can't be one.
	for _, s := range []string{
		"do (@fun x -> read x) (tvar 1)", "let f = fun x -> read x; do @f (tvar 1)", "let f = fun x -> print x; do atomically (@f \"a\")", "do atomically ((@fun x -> print x) \"a\")", "do let f = fun x -> retry in @f 1",
		"do let rec f = fun x -> retry in @f 1", "do (fun f -> (atomically (f 1); @f 1)) (fun x -> x)", "do fun x -> (print \"a\"; (@fun y -> read y) x)", "do (@fun f -> atomically (f \"a\")) (fun s -> print s)",
		"do (@fun f -> (print \"a\"; f 1)) (fun x -> retry)", "do if True then fun x -> print \"a\" else @fun x -> (read x)", "do spawn ((@fun x -> retry) 1)", "let r = tvar (fun x -> print x); do atomically ((@read r) \"a\")",
	} {
		fails(t, s, api.ErrType)
	}
	// Each place has an effect of its own.
	for _, s := range []string{
		"do (atomically retry; print \"a\")", "do fun x -> (print x; fun y -> read y)", "do fun x -> ((fun y -> print y); read x)", "do atomically (fun x -> print x; 1)", "do atomically (let f = fun x -> print x in 1)",
		"do ((fun x -> read x); print \"a\")", "do (print \"a\"; let f = fun x -> retry in ())", "do (spawn (print \"a\"); atomically (read (tvar 1)))", "do fun x -> (spawn (print \"a\"); print x)", "do fun x -> atomically (read x)",
		"do atomically (let f = fun x -> x in (f 1; retry))", "let f = fun x -> x; do (f (); atomically (f (read (tvar 1))); print \"a\")", "do (atomically (orelse retry (read (tvar 1))); print \"a\")", "do fun t -> orelse (read t) (write t 1; retry)",
	} {
		right(t, s)
	}
}

// P8.1: of several errors the one that is met first is told.
func TestWhatIsMetFirst(t *testing.T) {
	for s, want := range map[string]api.Errno{
		// From the left on: a part's own errors, then what must hold of it, then the next part.
		"do @x + y": api.ErrName, "do @\"a\" + x": api.ErrType, "do 1 + @\"a\" + x": api.ErrType, "do (1 + @\"a\") ^ x": api.ErrType, "do \"a\" ^ @1 ^ x": api.ErrType,
		"do if @1 then x else y": api.ErrType, "do if @x then 1 + \"a\" else y": api.ErrName, "do if True then 1 else @\"a\" + x": api.ErrType, "do if True then 1 else \"a\" ^ @x": api.ErrName,
		"do fun x -> if x then @x + 1 else 2": api.ErrType, "do fun x -> x + (@x ^ \"a\"; 1)": api.ErrType, "do fun x -> ((x ^ \"a\"; 1) + @x)": api.ErrType,
		"do @x; y": api.ErrName, "do 1; @x; y": api.ErrName, "do @\"a\" + 1; x": api.ErrType, "do @x y": api.ErrName, "do 1 @x": api.ErrName,
		// What is called is held against what it is called with behind both.
		"do 1 (@\"a\" + 1)": api.ErrType, "do (fun x -> x + 1) (\"a\" ^ @1)": api.ErrType,
		// A constructor's name, then how much stands behind it, then that.
		"do @A x": api.ErrName, "do @True x": api.ErrArity, list + "do @Cons x": api.ErrArity, list + "do Cons @x 1": api.ErrName, list + "do Cons 1 @x": api.ErrName, list + "do Cons (@\"a\" + 1) 1": api.ErrType,
		list + "do Cons 1 (@Cons 2)": api.ErrArity, "type t = A of int, int; do A @\"a\" x": api.ErrType, "type t = A of int, int; do A @x \"a\"": api.ErrName, "type t a = A of a, a, a; do A 1 @\"a\" x": api.ErrType,
		// Of a pattern: what it is of, and then its parts; all of a row ahead of its body, and of the next row.
		list + "do match 1 with | @Nil -> x end": api.ErrType, list + "do match 1 with | @Cons x x -> 1 end": api.ErrType, list + "do match 1 with | @Cons x -> 1 end": api.ErrArity, list + "do match 1 with | @A x -> 1 end": api.ErrName,
		pair + "do match Pair 1 2 with | Pair x @x -> y end": api.ErrTwice, pair + "do match Pair 1 2 with | Pair @True x -> y end": api.ErrType, pair + "do match Pair 1 1 with | Pair @True (True x) -> y end": api.ErrType,
		pair + "do match Pair True 1 with | Pair True (@True x) -> y end": api.ErrArity, pair + "do match Pair 1 (Pair 1 2) with | Pair x (Pair @x True) -> 1 end": api.ErrTwice, pair + "do match Pair 1 (Pair 1 2) with | Pair x (Pair @True x) -> 1 end": api.ErrType,
		"do match @x with | A -> 1 end": api.ErrName, "do match 1 with | @True -> x end": api.ErrType, "do match 1 with | 1 -> @x | True -> 1 end": api.ErrName, "do match 1 with | 1 -> 1 | 2 -> @\"a\" | True -> 1 end": api.ErrType,
		"do match 1 with | 1 -> 1 | @True -> \"a\" end": api.ErrType, "do match 1 with | 1 -> 1 | 2 -> \"a\" ^ @x end": api.ErrName, "do match 1 with | 1 -> @\"a\" + 1 | 2 -> x end": api.ErrType,
		// A let's value ahead of what stands behind it.
		"do let x = @y in z": api.ErrName, "do let x = @\"a\" + 1 in z": api.ErrType, "do let rec f = @fun x -> f in z": api.ErrLoop, "let x = @y; let z = w; do 1": api.ErrName, "let x = @y; type t = A of b; do 1": api.ErrName,
		"type t = A of @b; let x = y; do 1": api.ErrName, "let x = 1; do @y": api.ErrName, "do let rec f = fun x -> (f 1; @f \"a\"; y) in z": api.ErrType, "do let rec f = fun x -> (f 1; @y) in f 1 2 3": api.ErrName,
		"do try @x with e -> y end": api.ErrName, "do try 1 with e -> \"a\" ^ @x end": api.ErrName, "do try 1 + @\"a\" with e -> x end": api.ErrType,
		// An effect behind the parts, and what must hold of them.
		"do read @x": api.ErrName, "do read @1": api.ErrType, "do @read (tvar 1) + \"a\"": api.ErrEffect, "do write @x 1": api.ErrName, "do write (tvar 1) @x": api.ErrName, "do write (@tvar 1) \"a\"": api.ErrType, "do write 1 @x": api.ErrName,
		"do atomically (print @1)": api.ErrType, "do atomically (print @x)": api.ErrName, "do atomically (spawn @x)": api.ErrName, "do atomically (spawn @retry)": api.ErrEffect, "do atomically (atomically (@print \"a\"))": api.ErrEffect,
		"do atomically (atomically (1 + @\"a\"))": api.ErrType, "do atomically (@atomically 1 + \"a\")": api.ErrEffect, "do orelse @x 1": api.ErrName, "do orelse 1 @x": api.ErrName, "do orelse (@print \"a\") x": api.ErrEffect, "do orelse 1 (@print \"a\")": api.ErrEffect,
		// Where both parts of an orelse are gone through comes its effect, and then that the second one is what the first one is.
		"do @orelse 1 \"a\"": api.ErrEffect, "do atomically (orelse 1 @\"a\"; x)": api.ErrType, "do fun x -> (print \"a\"; @orelse 1 x; y)": api.ErrEffect,
		"do (@retry; x)": api.ErrEffect, "do raise (@\"a\" + x)": api.ErrType, "do raise @\"a\" + \"b\"": api.ErrType, "do tvar @x": api.ErrName,
		// Of a declaration of a type: its name and its parameters, then each constructor's name and what stands behind it.
		"@type int a a = A; do x": api.ErrTwice, "@type t a a = True of b; do x": api.ErrTwice, "type t = @True of b; do x": api.ErrTwice, "type t = A of @b | True; do x": api.ErrName, "type t = A | @A of b; do x": api.ErrTwice,
		"type t = A of @b, int int; do 1": api.ErrName, "type t = A of @int int, b; do 1": api.ErrArity, "type t = A of @int b; do 1": api.ErrArity, "type t = A of var @b | A; do 1": api.ErrName, "type t = A of var (@int b); do 1": api.ErrArity,
		pair + "type t = A of pair @b c; do 1": api.ErrName, pair + "type t = A of pair (@int b) c; do 1": api.ErrArity, pair + "type t = A of pair int (pair @b c); do 1": api.ErrName, "type t = A of @b c; do 1": api.ErrName, "type t = A of @x; type t = B; do 1": api.ErrName,
		"type t = A; @type t = A; do 1": api.ErrTwice, "type t = A of int; type u = B | @A of x | B; do 1": api.ErrTwice,
		// Of two types that can't be made one, the first two parts that can't.
		pair + "do fun x -> if True then Pair x 1 else @Pair (tvar x) \"a\"": api.ErrLoop, pair + "do fun x -> if True then Pair 1 x else @Pair \"a\" (tvar x)": api.ErrType,
		pair + "do fun f -> fun x -> if True then f x else @f (tvar x) 2": api.ErrLoop, "do fun f -> fun x -> (f 1 x; @f \"a\" (tvar x))": api.ErrType,
	} {
		fails(t, s, want)
	}
}
