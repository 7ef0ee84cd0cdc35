package verify

import "selvage/api"

// sums is how many sums there are.
const sums = 7

// rule tells of an instruction how many things it takes and puts, and whether its operands are right.
type rule func(w *walk, i api.Instr) (takes, puts int, right bool)

// rules are those of all Ops.
func rules() map[int]rule {
	lets := func(w *walk) int { return w.code.Lets }
	locals := func(w *walk) int { return w.body.Locals }
	return map[int]rule{
		api.OpInt:    below(0, 1, func(w *walk) int { return len(w.code.Ints) }),
		api.OpText:   below(0, 1, func(w *walk) int { return len(w.code.Texts) }),
		api.OpLocal:  below(0, 1, locals),
		api.OpKept:   below(0, 1, func(w *walk) int { return w.body.Kept }),
		api.OpSelf:   self,
		api.OpName:   below(0, 1, lets),
		api.OpSet:    below(1, 0, locals),
		api.OpStore:  below(1, 0, lets),
		api.OpPop:    plain(1, 0),
		api.OpMake:   block,
		api.OpFun:    closure,
		api.OpField:  below(1, 1, func(*walk) int { return api.MaxArity }),
		api.OpCall:   plain(2, 1),
		api.OpTail:   plain(2, 0),
		api.OpReturn: plain(1, 0),
		api.OpJump:   plain(0, 0),
		api.OpFalse:  plain(1, 0),
		api.OpCase:   plain(1, 0),
		api.OpSum:    below(2, 1, func(*walk) int { return sums }),
		api.OpJoin:   plain(2, 1),
		api.OpTry:    plain(0, 0),
		api.OpDone:   plain(0, 0),
		api.OpRaise:  plain(1, 0),
		api.OpPrint:  plain(1, 1),
		api.OpSpawn:  plain(1, 1),
		api.OpBegin:  plain(0, 0),
		api.OpCommit: plain(0, 0),
		api.OpElse:   plain(0, 0),
		api.OpJoined: plain(0, 0),
		api.OpRetry:  plain(0, 0),
		api.OpTvar:   plain(1, 1),
		api.OpRead:   plain(1, 1),
		api.OpWrite:  plain(2, 1),
	}
}

// plain is the rule of an Op whose operands are right whatever they are; where they tell an instruction, the walk finds out whether there is one.
func plain(takes, puts int) rule {
	return func(*walk, api.Instr) (int, int, bool) { return takes, puts, true }
}

// below is the rule of an Op whose A must be below some number.
func below(takes, puts int, limit func(*walk) int) rule {
	return func(w *walk, i api.Instr) (int, int, bool) { return takes, puts, i.A < limit(w) }
}

// self is the rule of OpSelf: what the program does is no closure.
func self(w *walk, _ api.Instr) (takes, puts int, right bool) { return 0, 1, w.number != 0 }

// block is the rule of OpMake.
func block(_ *walk, i api.Instr) (takes, puts int, right bool) {
	return i.B, 1, i.A <= api.MaxTag && 1 <= i.B && i.B <= api.MaxArity
}

// closure is the rule of OpFun.
func closure(w *walk, i api.Instr) (takes, puts int, right bool) {
	return i.B, 1, 0 < i.A && i.A < len(w.code.Funs) && i.B == w.code.Funs[i.A].Kept
}
