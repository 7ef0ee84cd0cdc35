package gen

import (
	"math"
	"slices"
	"strings"

	"selvage/api"
	"selvage/code"
)

// form is how a core of a kind is gone through, how many Kids it has, and, of one that becomes these and one instruction, which Op that has.
type form struct {
	rule        func(w *walk, c api.Core, s spot)
	least, most int
	op          int
}

// many is how many Kids there may be where there is no limit.
const many = math.MaxInt

// forms are those of all kinds. A store stands in a seq alone.
func forms() map[int]form {
	return map[int]form{
		api.CoreInt:   {rule: (*walk).number},
		api.CoreText:  {rule: (*walk).text},
		api.CoreLocal: {(*walk).plain, 0, 0, api.OpLocal},
		api.CoreKept:  {(*walk).plain, 0, 0, api.OpKept},
		api.CoreSelf:  {(*walk).plain, 0, 0, api.OpSelf},
		api.CoreName:  {(*walk).plain, 0, 0, api.OpName},
		api.CoreMake:  {(*walk).plain, 0, many, api.OpMake},
		api.CoreFun:   {(*walk).plain, 0, many, api.OpFun},
		api.CoreCall:  {rule: (*walk).call, least: 2, most: 2},
		api.CoreLet:   {rule: (*walk).let, least: 2, most: 2},
		api.CoreIf:    {rule: (*walk).choice, least: 3, most: 3},
		api.CoreMatch: {rule: (*walk).match, least: 1, most: many},
		api.CoreTry:   {rule: (*walk).try, least: 2, most: 2},
		api.CoreOp:    {rule: (*walk).operation, least: 2, most: 2},
		api.CoreSeq:   {rule: (*walk).seq, least: 2, most: 2},
		api.CorePrint: {(*walk).plain, 1, 1, api.OpPrint},
		api.CoreRaise: {(*walk).plain, 1, 1, api.OpRaise},
		api.CoreSpawn: {(*walk).plain, 1, 1, api.OpSpawn},
		api.CoreAtom:  {rule: (*walk).atom, least: 1, most: 1},
		api.CoreRetry: {(*walk).plain, 0, 0, api.OpRetry},
		api.CoreElse:  {rule: (*walk).orelse, least: 2, most: 2},
		api.CoreTvar:  {(*walk).plain, 1, 1, api.OpTvar},
		api.CoreRead:  {(*walk).plain, 1, 1, api.OpRead},
		api.CoreWrite: {(*walk).plain, 2, 2, api.OpWrite},
	}
}

// spot is where a core stands: how many things the stack has there, and whether it is last.
type spot struct {
	depth int
	last  bool
}

// within is the same spot for what is not last.
func (s spot) within() spot { return spot{depth: s.depth} }

// exp puts what becomes of a core. Of what is none there come its Kids and an instruction that there is not, with which no code may be.
func (w *walk) exp(c api.Core, s spot) {
	// Each core becomes an instruction at least, though that may stand behind all its Kids.
	w.cores++
	limit(w.cores, api.MaxCode)
	// A core needs a place more than the stack has there, and as many as its Kids do.
	w.body.Stack = max(w.body.Stack, s.depth+1)
	limit(w.body.Stack, api.MaxStack)
	is, known := w.forms[c.Kind]
	if !known || len(c.Kids) < is.least || len(c.Kids) > is.most {
		w.each(c, s)
		w.put(0, 0, 0)
		return
	}
	is.rule(w, c, s)
	if s.last && !leaves(c) {
		w.put(api.OpReturn, 0, 0)
	}
}

// leaves tells whether a core that is last leaves the function by itself.
func leaves(c api.Core) bool {
	switch c.Kind {
	case api.CoreCall, api.CoreLet, api.CoreSeq, api.CoreIf:
		return true
	case api.CoreMatch:
		return len(c.Kids) > 1
	}
	return false
}

// each puts what becomes of a core's Kids, one on the other, if its kind does not part them.
func (w *walk) each(c api.Core, s spot) {
	for i, k := range c.Kids {
		if parts(c.Kind) {
			i = 0
		}
		w.exp(k, spot{depth: s.depth + i})
	}
}

// parts tells whether none of a core's Kids stands on another one.
func parts(kind int) bool {
	switch kind {
	case api.CoreLet, api.CoreSeq, api.CoreIf, api.CoreMatch, api.CoreTry, api.CoreElse, api.CoreAtom:
		return true
	}
	return false
}

// place is where a thing stands among those of a list; behind the others, if it did not stand there.
func place[T comparable](l *[]T, thing T) int {
	at := slices.Index(*l, thing)
	if at < 0 {
		at = len(*l)
		*l = append(*l, thing)
		limit(len(*l), api.MaxConsts)
	}
	return at
}

func (w *walk) number(c api.Core, _ spot) { w.put(api.OpInt, place(&w.code.Ints, c.Number), 0) }

func (w *walk) text(c api.Core, _ spot) {
	w.put(api.OpText, place(&w.code.Texts, strings.Clone(c.Text)), 0)
}

// plain is for a core that becomes its Kids, and one instruction, by its number and how many Kids it has, if the Op uses these.
func (w *walk) plain(c api.Core, s spot) {
	w.each(c, s)
	switch op := w.forms[c.Kind].op; code.Uses(op) {
	case 2:
		w.put(op, c.Number, len(c.Kids))
	case 1:
		w.put(op, c.Number, 0)
	default:
		w.put(op, 0, 0)
	}
}

func (w *walk) call(c api.Core, s spot) {
	w.each(c, s)
	if s.last {
		w.put(api.OpTail, 0, 0)
	} else {
		w.put(api.OpCall, 0, 0)
	}
}

func (w *walk) operation(c api.Core, s spot) {
	w.each(c, s)
	if c.Text == "^" {
		w.put(api.OpJoin, 0, 0)
		return
	}
	w.put(api.OpSum, slices.Index([]string{"+", "-", "*", "/", "%", "=", "<"}, c.Text), 0)
}

func (w *walk) let(c api.Core, s spot) {
	w.exp(c.Kids[0], s.within())
	w.put(api.OpSet, c.Number, 0)
	w.exp(c.Kids[1], s)
}

func (w *walk) seq(c api.Core, s spot) {
	if first := c.Kids[0]; first.Kind == api.CoreStore && len(first.Kids) == 1 {
		w.exp(first.Kids[0], s.within())
		w.put(api.OpStore, first.Number, 0)
	} else {
		w.exp(first, s.within())
		w.put(api.OpPop, 0, 0)
	}
	w.exp(c.Kids[1], s)
}

func (w *walk) choice(c api.Core, s spot) {
	w.exp(c.Kids[0], s.within())
	other := w.put(api.OpFalse, nowhere, 0)
	w.exp(c.Kids[1], s)
	var end []int
	if !s.last {
		end = append(end, w.put(api.OpJump, nowhere, 0))
	}
	w.lands(other)
	w.exp(c.Kids[2], s)
	w.lands(end...)
}

func (w *walk) atom(c api.Core, s spot) {
	w.put(api.OpBegin, 0, 0)
	w.exp(c.Kids[0], s.within())
	w.put(api.OpCommit, 0, 0)
}

func (w *walk) try(c api.Core, s spot) {
	end := w.part(c, s, api.OpTry, api.OpDone)
	w.put(api.OpSet, c.Number, 0)
	w.exp(c.Kids[1], s.within())
	w.lands(end)
}

func (w *walk) orelse(c api.Core, s spot) {
	end := w.part(c, s, api.OpElse, api.OpJoined)
	w.exp(c.Kids[1], s.within())
	w.lands(end)
}

// part puts what becomes of a core's first Kid, between an Op that goes to what is put next and one by which this is over; and a jump, whose place
// it tells.
func (w *walk) part(c api.Core, s spot, begin, over int) int {
	from := w.put(begin, nowhere, 0)
	w.exp(c.Kids[0], s.within())
	w.put(over, 0, 0)
	end := w.put(api.OpJump, nowhere, 0)
	w.lands(from)
	return end
}
