package show

import (
	"strconv"

	"selvage/api"
	"selvage/strs"
)

// How loosely a node binds, the loosest ones last. Where a place asks for one of these, those ahead of it may stand there, too.
// Pats and tyapps are as exps are: atoms, or with something behind a constructor or a name.
const (
	none = iota // what stands in brackets, whatever it is
	atom
	call // what may be called, as it is called itself
	app  // with something behind a key, a constructor, or a type's name
	prod
	sum
	cmp
	open // what goes on as far as it can: let, fun, if
	seq
)

// loose tells how loosely a node binds.
func loose(n api.Node) int {
	switch n.Kind {
	case api.NodeCon, api.NodeTy:
		if len(n.Kids) > 0 {
			return app
		}
	case api.NodePrint, api.NodeRaise, api.NodeSpawn, api.NodeAtom, api.NodeTvar, api.NodeRead, api.NodeWrite, api.NodeElse:
		return app
	case api.NodeCall:
		return call
	case api.NodeOp:
		return looseOp(n.Text)
	case api.NodeLet, api.NodeRec, api.NodeFun, api.NodeIf:
		return open
	case api.NodeSeq:
		return seq
	}
	return atom
}

// looseOp tells how loosely an operation binds, by its sign.
func looseOp(sign string) int {
	switch sign {
	case "*", "/", "%":
		return prod
	case "+", "-", "^":
		return sum
	}
	return cmp
}

// key is the word ahead of atoms that make a node of a kind with it.
func key(kind int) string {
	switch kind {
	case api.NodePrint:
		return "print"
	case api.NodeRaise:
		return "raise"
	case api.NodeSpawn:
		return "spawn"
	case api.NodeAtom:
		return "atomically"
	case api.NodeElse:
		return "orelse"
	case api.NodeTvar:
		return "tvar"
	case api.NodeRead:
		return "read"
	case api.NodeWrite:
		return "write"
	}
	return ""
}

// writer writes exps, pats and tyapps.
type writer struct {
	loosest int // that may stand where an exp is asked for: a seq's sign would end a declaration
}

// anywhere writes what stands where a seq may stand.
func anywhere() writer { return writer{seq} }

// text is a node's text, without brackets round it.
func (w writer) text(n api.Node) string {
	switch n.Kind {
	case api.NodeInt:
		return strconv.Itoa(n.Number)
	case api.NodeText:
		return strs.Quote(n.Text)
	case api.NodeUnit:
		return words("(", ")")
	case api.NodeRetry:
		return "retry"
	case api.NodeAny:
		return "_"
	case api.NodeName, api.NodeCon, api.NodeTy:
		return w.atoms(n.Text, n)
	case api.NodeFun:
		return w.parts(n, words("fun", n.Text, "->"))
	case api.NodeCall:
		return words(w.called(kid(n, 0)), w.as(atom, kid(n, 1)))
	case api.NodeLet:
		return w.parts(n, words("let", n.Text, "="), "in")
	case api.NodeRec:
		return w.parts(n, words("let", "rec", n.Text, "="), "in")
	case api.NodeIf:
		return w.parts(n, "if", "then", "else")
	case api.NodeMatch:
		return words(anywhere().parts(n, matchWords(len(n.Kids))...), "end")
	case api.NodeTry:
		return words(anywhere().parts(n, "try", words("with", n.Text, "->")), "end")
	case api.NodeOp:
		return w.op(n)
	case api.NodeSeq:
		return words(w.as(cmp, kid(n, 0)), ";", w.exp(kid(n, 1)))
	}
	return w.atoms(key(n.Kind), n)
}

// as is the text of a node where the place asks for what binds so loosely at most: in brackets, if it is not that.
func (w writer) as(most int, n api.Node) string {
	if loose(n) > most {
		return words("(", anywhere().text(n), ")")
	}
	return w.text(n)
}

// exp is the text of a node where the place asks for an exp, or a pat.
func (w writer) exp(n api.Node) string { return w.as(w.loosest, n) }

// called is the text of what is called. What stands behind a constructor is its own, so none is called without brackets.
func (w writer) called(n api.Node) string {
	if n.Kind == api.NodeCon {
		return w.as(none, n)
	}
	return w.as(call, n)
}

// parts are the texts of what stands in a node, with a word ahead of each.
func (w writer) parts(n api.Node, ahead ...string) string {
	var all []string
	for i, word := range ahead {
		all = append(all, word, w.exp(kid(n, i)))
	}
	return words(all...)
}

// matchWords are the words ahead of so many parts of a match.
func matchWords(many int) []string {
	all := []string{"match", "with |"}
	for len(all) < many {
		all = append(all, "->", "|")
	}
	return all[:many]
}

// atoms is a word, with a node's parts behind it.
func (w writer) atoms(word string, n api.Node) string {
	all := []string{word}
	for _, k := range n.Kids {
		all = append(all, w.as(atom, k))
	}
	return words(all...)
}

// op is an operation's text. On its right stands what binds less loosely; on its left also what binds as it does, but no other cmp.
func (w writer) op(n api.Node) string {
	level := looseOp(n.Text)
	return words(w.as(min(level, sum), kid(n, 0)), n.Text, w.as(level-1, kid(n, 1)))
}
