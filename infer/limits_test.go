package infer_test

import (
	"reflect"
	"slices"
	"strings"
	"testing"

	"selvage/api"
	"selvage/types"
)

// P8.1: types that are too great: more than 40 in one another, or more than 200 names and variables in all.

// both is a type of two things, of which each counts. With a let of deep30 the type of d has 30 in one another.
const both = "type q a b = Q of a, b; "

func deep30() string { return "let d = " + deep(30, "1") + "; " }

// wide is an atom whose type has so many names in all; it needs both.
func wide(many int) string {
	switch many {
	case 1:
		return "1"
	case 2:
		return "(tvar 1)"
	}
	half := (many - 1) / 2
	return "(Q " + wide(half) + " " + wide(many-1-half) + ")"
}

// deep is an atom whose type has so many in one another, with what stands at its end.
func deep(many int, end string) string {
	return strings.Repeat("(tvar ", many-1) + end + strings.Repeat(")", many-1)
}

// at is an atom in brackets, with an @ where it begins within them.
func at(atom string) string { return "(@" + atom[1:] }

// width, and depth, are how great a type is.
func width(t api.Type) int {
	many := 1
	for _, arg := range t.Args {
		many += width(arg)
	}
	return many
}

func depth(t api.Type) int {
	most := 0
	for _, arg := range t.Args {
		most = max(most, depth(arg))
	}
	return most + 1
}

func TestGreatTypes(t *testing.T) {
	for many := 1; many <= 200; many++ {
		r := right(t, both+"let x = "+wide(many)+"; do x")
		if width(r.Main) != many || !reflect.DeepEqual(r.Types[0].Type, r.Main) {
			t.Errorf("a type of %d: %s", many, types.Show(r.Main))
		}
	}
	for many := 1; many <= 39; many++ {
		if r := right(t, "let x = "+deep(many, "1")+"; do x"); depth(r.Main) != many {
			t.Errorf("a type of %d in one another: %s", many, types.Show(r.Main))
		}
	}
	for many := 1; many <= 11; many++ {
		if r := right(t, deep30()+"do "+deep(many, "d")); depth(r.Main) != many+29 {
			t.Errorf("a type of %d in one another: %s", many+29, types.Show(r.Main))
		}
	}
	fails(t, "do @tvar "+deep(40, "1"), api.ErrMany)
}

// An exp whose type is too great is told, wherever it stands.
func TestExpsThatAreTooGreat(t *testing.T) {
	for _, round := range [][2]string{
		{"do ", ""}, {"let x = ", "; do 1"}, {"do let x = ", " in 1"}, {"do let x = 1 in ", ""}, {"do fun x -> ", ""}, {"do (", "; 1)"}, {"do (1; ", ")"}, {"do (if True then ", " else 1)"}, {"do if ", " then 1 else 1"},
		{"do if True then 1 else ", ""}, {"do match ", " with | _ -> 1 end"}, {"do match 1 with | _ -> ", " end"}, {"do match 1 with | 0 -> 1 | _ -> ", " end"}, {"do try ", " with e -> 1 end"}, {"do try 1 with e -> ", " end"},
		{"do print ", ""}, {"do spawn ", ""}, {"do raise ", ""}, {"do atomically (read ", ")"}, {"do atomically (write 1 ", ")"}, {"do atomically (write ", " 1)"}, {"do atomically (orelse ", " 1)"}, {"do atomically (orelse 1 ", ")"},
		{"do atomically ", ""}, {"do tvar ", ""}, {"do 1 ", ""}, {"do (", " 1)"}, {"do 1 + ", ""}, {"do (", " + 1)"}, {"do 1 = ", ""}, {"do \"a\" ^ ", ""}, {"do Q 1 ", ""}, {"do Q ", " 1"}, {"let rec f = fun x -> ", "; do 1"},
	} {
		for _, many := range []int{201, 202, 203} {
			fails(t, both+round[0]+at(wide(many))+round[1], api.ErrMany)
		}
		fails(t, both+deep30()+round[0]+at(deep(12, "d"))+round[1], api.ErrMany)
	}
}

// Each of these makes a greater type of a part's, or makes what was there already greater.
func TestWhatMakesTypesTooGreat(t *testing.T) {
	for _, l := range []struct {
		s          string // with a dot where a part stands, and an @ where it is told that it is too great
		wide, deep int    // the greatest that the part may be
	}{
		{"do match @tvar . with | _ -> 1 end", 199, 39},
		{"do match @Q 1 . with | _ -> 1 end", 198, 39},
		{"do match @Q . 1 with | _ -> 1 end", 198, 39},
		{"do match @fun x -> . with | _ -> 1 end", 197, 39},
		{"do match @fun x -> fun y -> . with | _ -> 1 end", 194, 38},
		{"do match @fun x -> if True then x else . with | _ -> 1 end", 99, 39},
		{"do match @fun x -> ((if True then x else .); 1) with | _ -> 1 end", 197, 39},
		// What is called is of a type, too: with what it is called with, an effect, and what comes of it.
		{"do (@fun x -> 1) .", 197, 39},
		{"do (@fun x -> fun y -> 1) .", 194, 39},
		{"do match (@fun x -> raise 1) . with | _ -> 1 end", 197, 39},
		{"do match (@fun x -> x) . with | _ -> 1 end", 99, 39},
		{"do match (@fun x -> tvar x) . with | _ -> 1 end", 98, 38},
		{"do match (@raise 1) . with | _ -> 1 end", 197, 39},
		{"do let f = raise 1 in match @f . with | _ -> 1 end", 197, 39},
		// So is a var that is written.
		{"do let x = raise 1 in atomically (write @x .)", 199, 39},
		{"do atomically (write (@raise 1) .)", 199, 39},
		// A name whose type has grown since.
		{"do let x = raise 1 in let y = Q x x in ((if True then x else .); @y; 1)", 99, 39},
		{"do let x = raise 1 in let y = tvar x in ((if True then x else .); @y; 1)", 199, 39},
		{"do let x = raise 1 in let y = (fun z -> Q z z) x in ((if True then x else .); @y; 1)", 99, 39},
		{"do let x = raise 1 in let y = fun z -> x in ((if True then x else .); @y; 1)", 197, 39},
		{"let x = raise 1; let y = Q x x; do ((if True then x else .); @y; 1)", 99, 39},
		{"do let x = raise 1 in match Q x x with | y -> ((if True then x else .); @y; 1) end", 99, 39},
		// Two that must be one are too great then.
		{"do let x = raise 1 in let y = raise 1 in ((if True then y else Q x x); match if True then x else . with | _ -> @y end; 1)", 99, 39},
		{"do let x = raise 1 in let y = raise 1 in ((if True then y else Q x x); (if True then Q x 1 else @Q . 2); 1)", 198, 39},
		{"do let x = raise 1 in match tvar x with | y -> ((if True then x else .); 1) end", 200, 40},
		{"do let x = raise 1 in match Q x x with | _ -> ((if True then x else .); 1) | @Q _ _ -> 1 end", 99, 39},
		{"do let x = raise 1 in match Q x x with | _ -> ((if True then x else .); 1) | _ -> 1 end", 200, 40},
		{"do let x = raise 1 in match 1 with | 0 -> Q x x | _ -> (@if True then x else .); raise 1 end", 99, 39},
		{"do let x = raise 1 in match if True then Q x x else ((@if True then x else .); raise 1) with | _ -> 1 end", 99, 39},
		{"do let x = raise 1 in match try Q x x with e -> ((@if True then x else .); raise 1) end with | _ -> 1 end", 99, 39},
		{"do let x = raise 1 in match atomically (orelse (Q x x) ((@if True then x else .); raise 1)) with | _ -> 1 end", 99, 39},
		{"do let x = raise 1 in let f = fun z -> Q x x in match @f ((if True then x else .); 1) with | _ -> 1 end", 98, 38},
		{"do let x = raise 1 in let f = tvar (Q x x) in match atomically (write @f ((if True then x else .); raise 1)) with | _ -> 1 end", 99, 38},
	} {
		for many := l.wide - 1; many <= min(l.wide+1, 200); many++ {
			greatest(t, l.s, both, wide(many), many <= l.wide)
		}
		for many := l.deep - 1; many <= min(l.deep+1, 40); many++ {
			greatest(t, l.s, both+deep30(), deep(many-29, "d"), many <= l.deep)
		}
	}
}

// greatest holds whether a source may have a part at a dot; where not, it is too great where an @ stands.
func greatest(t *testing.T, s, ahead, part string, may bool) {
	t.Helper()
	s = ahead + strings.Replace(s, ".", part, 1)
	if may {
		right(t, strings.Replace(s, "@", "", 1))
	} else {
		fails(t, s, api.ErrMany)
	}
}

// A constructor's declaration: its name with what stands behind it, and the declared type, is a type that may be.
func TestConstructorsThatAreTooGreat(t *testing.T) {
	// ty is a tyapp of q of so many names in all; a part of a greater one stands in brackets.
	var ty func(many int, part bool) string
	ty = func(many int, part bool) string {
		s := "int"
		switch half := (many - 1) / 2; {
		case many == 2:
			s = "var int"
		case many > 2:
			s = "q " + ty(half, true) + " " + ty(many-1-half, true)
		}
		if part && many > 1 {
			s = "(" + s + ")"
		}
		return s
	}
	for many := 190; many <= 203; many++ {
		for _, l := range []struct {
			s     string
			other int // how many others there are
		}{
			{"type t = @A of .; do 1", 2}, {"type t a = @A of .; do 1", 3}, {"type t a b c d = @A of .; do 1", 6}, {"type t = A | @B of .; do A", 2}, {"type t = @A of int, .; do 1", 3},
			{"type t = @A of ., int; do 1", 3}, {"type t a = @A of a, ., a, t a; do 1", 7}, {"type t a = @A of var (var a), .; do 1", 6},
		} {
			greatest(t, l.s, both, ty(many, false), many+l.other <= 200)
		}
	}
	for deep := 30; deep <= 40; deep++ {
		s := strings.Repeat("var (", deep-2) + "var int" + strings.Repeat(")", deep-2)
		for _, l := range []string{"type t = @A of .; do 1", "type t = @A of ., int; do 1", "type t = A | B | @C of int, .; do 1"} {
			greatest(t, l, "", s, deep < 40)
		}
	}
	// It is told behind all that stands behind the constructor, and ahead of the next one.
	great := ty(199, false)
	for s, want := range map[string]api.Errno{
		"type t = A of ., @x; do 1": api.ErrName, "type t = A of ., @int int; do 1": api.ErrArity, "type t = @A of . | A; do 1": api.ErrMany, "type t = @A of . | B of x; do 1": api.ErrMany,
		"type t = A | @A of .; do 1": api.ErrTwice, "type t = @A of .; do x": api.ErrMany, "type t = B of @x | A of .; do 1": api.ErrName,
	} {
		fails(t, both+strings.Replace(s, ".", great, 1), want)
	}
}

// P8.1: a let's name has no scheme, where what is kept is too great.
func TestWhatIsKeptIsTooGreat(t *testing.T) {
	const grow = "(if True then x else .)"
	for _, l := range []struct {
		s    string
		wide int // the greatest that the part may be
	}{
		{"do let x = raise 1 in let y = (fun z -> Q z z) x in (" + grow + "; @let f = fun z -> z in 1)", 99},
		{"do let x = raise 1 in let y = (fun z -> Q z z) x in (" + grow + "; @let f = 1 in 1)", 99},
		{"do let x = raise 1 in let y = (fun z -> Q z z) x in (" + grow + "; @let f = True in 1)", 99},
		{"do let x = raise 1 in let y = (fun z -> Q z z) x in (" + grow + "; @let rec f = fun z -> z in 1)", 99},
		{"do let x = raise 1 in let y = (fun z -> Q z z) x in let y = raise 1 in (" + grow + "; @let f = fun z -> z in 1)", 99},
		{"let x = raise 1; let y = (fun z -> Q z z) x; let w = (" + grow + "; 1); @let f = fun z -> z; do 1", 99},
		{"let x = raise 1; let y = (fun z -> Q z z) x; let w = (" + grow + "; 1); @let rec f = fun z -> z; do 1", 99},
		{"let x = raise 1; let y = (fun z -> Q z z) x; let w = (" + grow + "; 1); @let f = 1; do 1", 99},
		{"let x = raise 1; let y = (fun z -> Q z z) x; let y = raise 1; do (" + grow + "; @let f = 1 in 1)", 99},
		{"do let x = raise 1 in match Q x x with | y -> (" + grow + "; @let f = 1 in 1) end", 99},
		{"do let x = raise 1 in match Q 1 (Q x x) with | Q z y -> (" + grow + "; @let f = 1 in 1) end", 99},
		{"do let x = raise 1 in match Q x x with | y -> 1 end + (" + grow + "; let f = 1 in 1)", 200},
		{"do let x = raise 1 in (let y = (fun z -> Q z z) x in 1) + (" + grow + "; let f = 1 in 1)", 200},
		{"do let x = raise 1 in let y = Q x x in (" + grow + "; let f = 1 in 1)", 200},
		{"do let x = raise 1 in let y = fun z -> Q x x in (" + grow + "; let f = 1 in 1)", 200},
		{"do let x = raise 1 in let y = (fun z -> Q z z) x in (" + grow + "; let f = (fun z -> z) 1 in f)", 200},
		{"let x = raise 1; let y = (fun z -> Q z z) x; let w = (" + grow + "; 1); do w", 200},
	} {
		for many := l.wide - 1; many <= min(l.wide+1, 200); many++ {
			greatest(t, l.s, both, wide(many), many <= l.wide)
		}
	}
	for _, s := range []string{
		"do let x = raise 1 in fun y -> ((if True then tvar y else tvar (Q x x)); " + grow + "; @let f = 1 in 1)",
		"do let x = raise 1 in let rec g = fun y -> ((if True then tvar y else tvar (Q x x)); " + grow + "; @let f = 1 in 1) in 1",
		"do let x = raise 1 in let rec g = fun y -> ((if True then g else fun z -> Q x x); " + grow + "; @let f = 1 in 1) in 1",
	} {
		greatest(t, s, both, wide(100), false)
	}
	// It is told behind the value, and ahead of what stands behind the let.
	ahead := both + "do let x = raise 1 in let y = (fun z -> Q z z) x in (" + strings.Replace(grow, ".", wide(100), 1) + "; "
	fails(t, ahead+"@let f = fun z -> z in w)", api.ErrMany)
	fails(t, ahead+"let f = fun z -> @w in 1)", api.ErrName)
	fails(t, ahead+"let f = @w in 1)", api.ErrName)
	fails(t, ahead+"let f = (fun z -> z) 1 in @w)", api.ErrName)
	fails(t, ahead+"let f = @y in 1)", api.ErrMany)
	fails(t, ahead+"let rec f = @fun z -> f in 1)", api.ErrLoop)
}

// P8.1: what has become too great in the end is told by the zero type, and where it is kept, no variable is general.
func TestWhatIsTooGreatInTheEnd(t *testing.T) {
	zero := api.Scheme{}
	for _, l := range []struct {
		s    string
		zero []int // the lets that are too great in the end
		many []int // of each let, how many variables are general
	}{
		{"let x = raise 1; let f = fun z -> z; let y = Q x x; do ((if True then x else .); 1)", []int{2}, []int{0, 2, 0}},
		{"let x = raise 1; let f = fun z -> z; let y = fun z -> Q x z; let w = Q x x; do ((if True then x else .); 1)", []int{3}, []int{0, 2, 2, 0}},
		{"let x = raise 1; let f = fun z -> z; let y = (fun z -> Q z z) x; do ((if True then x else .); 1)", []int{2}, []int{0, 0, 0}},
		{"let f = fun z -> z; let x = raise 1; let y = (fun z -> Q z z) x; let g = fun z -> fun w -> x; do ((if True then x else .); 1)", []int{2}, []int{0, 0, 0, 0}},
		{"let f = fun z -> z; let x = raise 1; let y = (fun z -> Q z z) x; let y = 1; do ((if True then x else .); 1)", []int{2}, []int{0, 0, 0, 0}},
		{"let f = fun z -> z; let x = raise 1; let y = let w = (fun z -> Q z z) x in 1; do ((if True then x else .); 1)", nil, []int{2, 0, 0}},
	} {
		for many := 99; many <= 100; many++ {
			r := right(t, both+strings.Replace(l.s, ".", wide(many), 1))
			if types.Show(r.Main) != "int" || len(r.Types) != len(l.many) {
				t.Fatalf("%s: %s", l.s, told(r))
			}
			for i, c := range r.Types {
				great := many > 99 && slices.Contains(l.zero, i)
				if great != reflect.DeepEqual(c, zero) || many > 99 && c.Many != l.many[i] {
					t.Errorf("%s, of %d: %s is %d %s", l.s, many, r.Names[i], c.Many, types.Show(c.Type))
				}
			}
		}
	}
}
