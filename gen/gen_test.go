package gen_test

import (
	"slices"
	"strings"
	"testing"

	"selvage/api"
	"selvage/gen"
)

// P15.1: exps without Kids.
func TestWords(t *testing.T) {
	becomes(t, "7", "Int 0, Return")
	becomes(t, "\"a\"", "Text 0, Return")
	becomes(t, "%0", "Local 0, Return")
	becomes(t, "%8", "Local 8, Return")
	becomes(t, "^0", "Kept 0, Return")
	becomes(t, "^3", "Kept 3, Return")
	becomes(t, "$0", "Name 0, Return")
	becomes(t, "$4", "Name 4, Return")
	becomes(t, "self", "Self, Return")
	becomes(t, "retry", "Retry, Return")
}

// P15.1: exps that are one instruction behind their Kids.
func TestOneBehindKids(t *testing.T) {
	becomes(t, "(make 0 %1)", "Local 1, Make 0 1, Return")
	becomes(t, "(make 199 %1 %2 %3 %4)", "Local 1, Local 2, Local 3, Local 4, Make 199 4, Return")
	becomes(t, "(make 2 (make 1 %1 %2) (make 3 %3))", "Local 1, Local 2, Make 1 2, Local 3, Make 3 1, Make 2 2, Return")
	becomes(t, "(fun 2 %1 ^2)", "Local 1, Kept 2, Fun 2 2, Return")
	becomes(t, "(fun 3 self ^2 %5)", "Self, Kept 2, Local 5, Fun 3 3, Return")
	becomes(t, "(fun 1 (fun 2 %0 %1) ^2 %5 $0)", "Local 0, Local 1, Fun 2 2, Kept 2, Local 5, Name 0, Fun 1 4, Return")
	becomes(t, "(print %1)", "Local 1, Print, Return")
	becomes(t, "(raise %1)", "Local 1, Raise, Return")
	becomes(t, "(spawn (fun 2 %1 %2))", "Local 1, Local 2, Fun 2 2, Spawn, Return")
	becomes(t, "(spawn %1)", "Local 1, Spawn, Return")
	becomes(t, "(tvar %1)", "Local 1, Tvar, Return")
	becomes(t, "(read %1)", "Local 1, Read, Return")
	becomes(t, "(write %1 %2)", "Local 1, Local 2, Write, Return")
	becomes(t, "(print (read (tvar \"a\")))", "Text 0, Tvar, Read, Print, Return")
	for i, sign := range []string{"+", "-", "*", "/", "%", "=", "<"} {
		becomes(t, "("+sign+" %1 %2)", "Local 1, Local 2, Sum "+string(rune('0'+i))+", Return")
	}
	becomes(t, "(^ %1 %2)", "Local 1, Local 2, Join, Return")
	becomes(t, "(- (* %1 %2) (/ (< %3 %4) %5))", "Local 1, Local 2, Sum 2, Local 3, Local 4, Sum 6, Local 5, Sum 3, Sum 1, Return")
}

// P15.1: a closure of none keeps none.
func TestFunWithoutKids(t *testing.T) {
	f := []api.Fun{{Body: read("(fun 1)")}, retry(0)}
	if c, at, e := gen.Code(f, nil, 0); e != api.OK || at != 0 || listed(c.Funs[0].Code) != "Fun 1 0, Return" {
		t.Errorf("%s, %d, %v", told(c), at, e)
	}
}

// P15.1: a call, and one that is last.
func TestCalls(t *testing.T) {
	becomes(t, "(call %1 %2)", "Local 1, Local 2, Tail")
	becomes(t, "(call (call %1 %2) %3)", "Local 1, Local 2, Call, Local 3, Tail")
	becomes(t, "(call %1 (call %2 %3))", "Local 1, Local 2, Local 3, Call, Tail")
	becomes(t, "(print (call %1 %2))", "Local 1, Local 2, Call, Print, Return")
	becomes(t, "(make 1 (call %1 %2))", "Local 1, Local 2, Call, Make 1 1, Return")
	becomes(t, "(+ (call %1 %2) (call %3 %4))", "Local 1, Local 2, Call, Local 3, Local 4, Call, Sum 0, Return")
	becomes(t, "(raise (call %1 %2))", "Local 1, Local 2, Call, Raise, Return")
}

// P15.1: lets, and what is done one behind the other.
func TestLetsAndSeqs(t *testing.T) {
	becomes(t, "(let 3 %1 %3)", "Local 1, Set 3, Local 3, Return")
	becomes(t, "(let 3 (call %1 %2) (call %3 %4))", "Local 1, Local 2, Call, Set 3, Local 3, Local 4, Tail")
	becomes(t, "(let 3 (let 4 %1 %4) (let 5 %3 (+ %3 %5)))", "Local 1, Set 4, Local 4, Set 3, Local 3, Set 5, Local 3, Local 5, Sum 0, Return")
	becomes(t, "(+ (let 3 %1 (call %3 %3)) %2)", "Local 1, Set 3, Local 3, Local 3, Call, Local 2, Sum 0, Return")
	becomes(t, "(seq %1 %2)", "Local 1, Pop, Local 2, Return")
	becomes(t, "(seq (call %1 %2) (call %3 %4))", "Local 1, Local 2, Call, Pop, Local 3, Local 4, Tail")
	becomes(t, "(seq (seq %1 %2) (seq %3 %4))", "Local 1, Pop, Local 2, Pop, Local 3, Pop, Local 4, Return")
	becomes(t, "(+ (seq %1 (call %2 %3)) %4)", "Local 1, Pop, Local 2, Local 3, Call, Local 4, Sum 0, Return")
	becomes(t, "(seq (store 0 %1) %2)", "Local 1, Store 0, Local 2, Return")
	becomes(t, "(seq (store 4 (call %1 %2)) (call $4 $3))", "Local 1, Local 2, Call, Store 4, Name 4, Name 3, Tail")
	becomes(t, "(seq (store 0 1) (seq (store 1 $0) (seq %1 $1)))", "Int 0, Store 0, Name 0, Store 1, Local 1, Pop, Name 1, Return")
	becomes(t, "(seq (store 0 (seq %1 %2)) (seq (seq (store 1 %1) %2) %3))", "Local 1, Pop, Local 2, Store 0, Local 1, Store 1, Local 2, Pop, Local 3, Return")
}

// P15.1: an if, where it is last and where it is not.
func TestIfs(t *testing.T) {
	becomes(t, "(if %1 %2 %3)", "Local 1, False 4, Local 2, Return, Local 3, Return")
	becomes(t, "(if %1 (call %2 %3) (call %4 %5))", "Local 1, False 5, Local 2, Local 3, Tail, Local 4, Local 5, Tail")
	becomes(t, "(if (call %1 %2) (if %3 %4 %5) (if %6 %7 %8))", "Local 1, Local 2, Call, False 10, Local 3, False 8, Local 4, Return, Local 5, Return, Local 6, False 14, Local 7, Return, Local 8, Return")
	becomes(t, "(print (if %1 %2 %3))", "Local 1, False 4, Local 2, Jump 5, Local 3, Print, Return")
	becomes(t, "(if (if %1 %2 %3) %4 %5)", "Local 1, False 4, Local 2, Jump 5, Local 3, False 8, Local 4, Return, Local 5, Return")
	becomes(t, "(seq (if %1 (call %2 %3) (call %4 %5)) %6)", "Local 1, False 6, Local 2, Local 3, Call, Jump 9, Local 4, Local 5, Call, Pop, Local 6, Return")
	becomes(t, "(+ %1 (if %2 (if %3 %4 %5) %6))", "Local 1, Local 2, False 9, Local 3, False 7, Local 4, Jump 8, Local 5, Jump 10, Local 6, Sum 0, Return")
	becomes(t, "(if %1 (raise %2) retry)", "Local 1, False 5, Local 2, Raise, Return, Retry, Return")
}

// P15.1: a try, a part that is atomic, and one that may wait; nothing within is last.
func TestMarks(t *testing.T) {
	becomes(t, "(try 3 %1 %2)", "Try 4, Local 1, Done, Jump 6, Set 3, Local 2, Return")
	becomes(t, "(try 3 (call %1 %2) (call %3 %4))", "Try 6, Local 1, Local 2, Call, Done, Jump 10, Set 3, Local 3, Local 4, Call, Return")
	becomes(t, "(print (try 3 %1 %3))", "Try 4, Local 1, Done, Jump 6, Set 3, Local 3, Print, Return")
	becomes(t, "(try 3 (try 4 %1 %4) (try 5 %3 %5))", "Try 9, Try 5, Local 1, Done, Jump 7, Set 4, Local 4, Done, Jump 16, Set 3, Try 14, Local 3, Done, Jump 16, Set 5, Local 5, Return")
	becomes(t, "(try 3 (if %1 (call %2 %3) %4) (let 5 %6 (call %5 %5)))", "Try 10, Local 1, False 7, Local 2, Local 3, Call, Jump 8, Local 4, Done, Jump 16, Set 3, Local 6, Set 5, Local 5, Local 5, Call, Return")
	becomes(t, "(atomically %1)", "Begin, Local 1, Commit, Return")
	becomes(t, "(atomically (call %1 %2))", "Begin, Local 1, Local 2, Call, Commit, Return")
	becomes(t, "(atomically (seq %1 (if %2 (call %3 %4) %5)))", "Begin, Local 1, Pop, Local 2, False 9, Local 3, Local 4, Call, Jump 10, Local 5, Commit, Return")
	becomes(t, "(print (atomically %1))", "Begin, Local 1, Commit, Print, Return")
	becomes(t, "(orelse %1 %2)", "Else 4, Local 1, Joined, Jump 5, Local 2, Return")
	becomes(t, "(orelse (call %1 %2) (call %3 %4))", "Else 6, Local 1, Local 2, Call, Joined, Jump 9, Local 3, Local 4, Call, Return")
	becomes(t, "(print (orelse retry %2))", "Else 4, Retry, Joined, Jump 5, Local 2, Print, Return")
	becomes(t, "(orelse (orelse %1 %2) (orelse %3 %4))", "Else 8, Else 5, Local 1, Joined, Jump 6, Local 2, Joined, Jump 13, Else 12, Local 3, Joined, Jump 13, Local 4, Return")
	becomes(t, "(atomically (orelse (try 3 (raise 1) %3) (write %1 %2)))", "Begin, Else 11, Try 7, Int 0, Raise, Done, Jump 9, Set 3, Local 3, Joined, Jump 14, Local 1, Local 2, Write, Commit, Return")
	becomes(t, "(atomically (match 3 %1 r0 (row (call %2 %3))))", "Begin, Local 1, Set 3, Jump 4, Local 2, Local 3, Call, Commit, Return")
}

// P15.1: what is last within a try, an atomic part, an orelse is last by none of its parts.
func TestNothingIsLastWithinMarks(t *testing.T) {
	for _, body := range []string{"(call %1 %2)", "(let 1 %2 (call %1 %2))", "(seq %1 (call %1 %2))", "(if %1 (call %1 %2) (call %3 %4))", "(match 1 %2 r0 (row (call %1 %2)))", "(seq (store 0 %1) (call $0 %2))"} {
		for _, around := range []string{"(try 3 # %1)", "(try 3 %1 #)", "(atomically #)", "(orelse # %1)", "(orelse %1 #)", "(let 3 # %1)", "(seq # %1)", "(if # %1 %2)", "(match 3 # r0 (row %1))", "(seq (store 1 #) %1)", "(call # %1)", "(call %1 #)", "(make 1 %1 #)", "(fun 2 # %1)", "(print #)", "(raise #)", "(+ %1 #)", "(write # %1)", "(spawn #)"} {
			s := strings.Replace(around, "#", body, 1)
			c, _, e := gen.Code(among(read(s)), cons(), fewLets)
			tails := 0
			for _, i := range c.Funs[1].Code {
				if i.Op == api.OpTail {
					tails++
				}
			}
			want := 0
			if strings.HasPrefix(around, "(call") {
				want = 1
			}
			if e != api.OK || tails != want {
				t.Errorf("%s becomes %s, %v", s, listed(c.Funs[1].Code), e)
			}
		}
		c, _, e := gen.Code(among(read(body)), cons(), fewLets)
		if e != api.OK || !strings.Contains(listed(c.Funs[1].Code), "Tail") || strings.Contains(listed(c.Funs[1].Code), "Return") {
			t.Errorf("%s becomes %s, %v", body, listed(c.Funs[1].Code), e)
		}
	}
}

// P15.1: constants and texts stand in the order of their first place, in whichever function, and each once.
func TestConstants(t *testing.T) {
	f := []api.Fun{
		{Body: read("(+ (+ 7 -3) (+ 7 (^ \"b\" \"a\")))")},
		{Body: read("(make 1 -3 (let 0 \"a\" \"c\") 0 \"b\")"), Locals: 1},
		{Body: read("(match 0 4 (ask @ 9 r1 else r0) (row \"\") (row 5))"), Locals: 1},
		{Body: read("(if 7 4611686018427387903 -4611686018427387904)")},
	}
	c, at, e := gen.Code(f, nil, 0)
	want := []string{"Int 0, Int 1, Sum 0, Int 0, Text 0, Text 1, Join, Sum 0, Sum 0, Return", "Int 1, Text 1, Set 0, Text 2, Int 2, Text 0, Make 1 4, Return", "Int 3, Set 0, Local 0, Case 9 5, Jump 6, Jump 8, Text 3, Return, Int 4, Return", "Int 0, False 4, Int 5, Return, Int 6, Return"}
	if e != api.OK || at != 0 || !slices.Equal(c.Ints, []int{7, -3, 0, 4, 5, 1<<62 - 1, -1 << 62}) || !slices.Equal(c.Texts, []string{"b", "a", "c", ""}) {
		t.Fatalf("%s, %d, %v", told(c), at, e)
	}
	for i, f := range c.Funs {
		if got := listed(f.Code); got != want[i] {
			t.Errorf("%d becomes %s, not %s", i, got, want[i])
		}
	}
}

// P15.1: functions stand in their order, with what they keep and their locals, and there are as many lets as it was told.
func TestFunctions(t *testing.T) {
	f := []api.Fun{{Locals: 3, Body: read("(fun 1 1 2)")}, {Kept: 2, Locals: 1, Body: read("(+ %0 ^1)")}, {Kept: 59, Locals: 60, Body: read("%59")}, {Body: read("(read $59)")}}
	c, at, e := gen.Code(f, nil, 60)
	if got, want := told(c), "60 lets; ints 1 2; texts\n0 3 2: Int 0, Int 1, Fun 1 2, Return\n2 1 2: Local 0, Kept 1, Sum 0, Return\n59 60 1: Local 59, Return\n0 0 1: Name 59, Read, Return"; e != api.OK || at != 0 || got != want {
		t.Errorf("%s, %d, %v; not %s", got, at, e, want)
	}
}

// P15.1: what a body needs.
func TestStack(t *testing.T) {
	needs(t, 1, "1", "\"a\"", "%0", "self", "retry", "(print %0)", "(raise %0)", "(spawn (spawn %0))", "(tvar %0)", "(read %0)", "(make 0 %0)", "(let 0 1 2)", "(if 1 2 3)", "(try 0 1 2)", "(seq 1 2)", "(orelse 1 2)", "(atomically 1)", "(match 0 1 r0 (row 1))", "(seq (store 0 1) 2)", "(match 0 1 (ask @ 0 (ask @0.0.0 1 r1 else r0) else r1) (row %1@0.0 1) (row 2))")
	needs(t, 2, "(+ 1 2)", "(call 1 2)", "(write 1 2)", "(make 0 1 2)", "(fun 2 1 2)", "(^ 1 2)", "(print (+ 1 2))", "(+ (+ 1 2) 3)", "(call (call (call 1 2) 3) 4)", "(let 0 (+ 1 2) 3)", "(let 0 1 (+ 2 3))", "(if (+ 1 2) 3 4)", "(if 1 (+ 2 3) 4)", "(if 1 2 (+ 3 4))", "(try 0 (+ 1 2) 3)", "(try 0 1 (+ 2 3))", "(seq (+ 1 2) 3)", "(seq 1 (+ 2 3))", "(orelse (+ 1 2) 3)", "(orelse 1 (+ 2 3))", "(atomically (+ 1 2))", "(match 0 (+ 1 2) r0 (row 1))", "(match 0 1 r1 (row 1) (row (+ 1 2)))", "(seq (store 0 (+ 1 2)) 3)", "(seq (store 0 1) (+ 2 3))", "(+ 1 (let 0 1 2))", "(+ 1 retry)")
	needs(t, 3, "(+ 1 (+ 2 3))", "(make 0 1 2 3)", "(make 0 1 (+ 2 3))", "(fun 2 1 (write 2 3))", "(+ 1 (let 0 2 (+ 3 4)))", "(+ 1 (if 2 3 (+ 4 5)))", "(+ 1 (try 0 2 (+ 3 4)))", "(+ 1 (match 0 2 r0 (row (+ 3 4))))", "(+ 1 (seq (store 0 (+ 1 2)) 3))", "(make 0 (+ 1 (+ 2 3)) 1 2)", "(make 0 1 (print (orelse 1 (+ 2 3))))", "(+ (+ 1 (+ 2 3)) 4)")
	needs(t, 4, "(make 0 1 2 3 4)", "(+ 1 (+ 2 (+ 3 4)))", "(fun 3 1 2 (+ 3 4))", "(fun 1 1 2 3 4)", "(make 0 1 2 (call 3 4))", "(call 1 (atomically (call 2 (call 3 4))))")
	needs(t, 6, "(make 0 1 2 3 (make 0 1 2 3))")
}

// The chapter's example.
func TestExample(t *testing.T) {
	c, at, e := gen.Code([]api.Fun{{Body: read("(+ 1 1)")}}, nil, 0)
	if got := told(c); got != "0 lets; ints 1; texts\n0 0 2: Int 0, Int 0, Sum 0, Return" || at != 0 || e != api.OK {
		t.Errorf("%s, %d, %v", got, at, e)
	}
}
