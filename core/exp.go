package core

import (
	"slices"

	"selvage/api"
	"selvage/cover"
	"selvage/tree"
)

// rule goes through a node, and is what becomes of it.
type rule func(*walk, api.Node) api.Core

// exps tells how an exp is gone through, by its kind.
func exps() map[int]rule {
	return map[int]rule{
		api.NodeInt:   (*walk).digits,
		api.NodeText:  (*walk).text,
		api.NodeUnit:  (*walk).unit,
		api.NodeName:  (*walk).name,
		api.NodeCon:   (*walk).con,
		api.NodeFun:   (*walk).fun,
		api.NodeCall:  (*walk).like,
		api.NodeLet:   (*walk).let,
		api.NodeRec:   (*walk).let,
		api.NodeIf:    (*walk).like,
		api.NodeMatch: (*walk).match,
		api.NodeTry:   (*walk).try,
		api.NodeOp:    (*walk).like,
		api.NodeSeq:   (*walk).like,
		api.NodePrint: (*walk).like,
		api.NodeRaise: (*walk).like,
		api.NodeSpawn: (*walk).spawn,
		api.NodeAtom:  (*walk).like,
		api.NodeRetry: (*walk).like,
		api.NodeElse:  (*walk).like,
		api.NodeTvar:  (*walk).like,
		api.NodeRead:  (*walk).like,
		api.NodeWrite: (*walk).like,
	}
}

// likes tells of exps that become the like of their Kids, by their kinds, what that is.
func likes() map[int]int {
	return map[int]int{
		api.NodeCall:  api.CoreCall,
		api.NodeIf:    api.CoreIf,
		api.NodeOp:    api.CoreOp,
		api.NodeSeq:   api.CoreSeq,
		api.NodePrint: api.CorePrint,
		api.NodeRaise: api.CoreRaise,
		api.NodeAtom:  api.CoreAtom,
		api.NodeRetry: api.CoreRetry,
		api.NodeElse:  api.CoreElse,
		api.NodeTvar:  api.CoreTvar,
		api.NodeRead:  api.CoreRead,
		api.NodeWrite: api.CoreWrite,
	}
}

// exp goes through an exp.
func (w *walk) exp(n api.Node) api.Core {
	if w.fault != api.OK {
		return api.Core{}
	}
	return w.exps[n.Kind](w, n)
}

// each goes through a node's Kids.
func (w *walk) each(n api.Node) []api.Core {
	var l []api.Core
	for _, k := range n.Kids {
		l = append(l, w.exp(k))
	}
	return l
}

// like is for an exp that becomes the like of its Kids. None but an operation has a text.
func (w *walk) like(n api.Node) api.Core {
	return api.Core{Kind: w.likes[n.Kind], Text: n.Text, Kids: w.each(n)}
}

func (w *walk) digits(n api.Node) api.Core { return api.Core{Kind: api.CoreInt, Number: n.Number} }

func (w *walk) text(n api.Node) api.Core { return api.Core{Kind: api.CoreText, Text: n.Text} }

func (w *walk) unit(api.Node) api.Core { return api.Core{Kind: api.CoreInt} }

func (w *walk) name(n api.Node) api.Core {
	if is, known := w.means(n.Text); known {
		return is
	}
	for let, name := range slices.Backward(w.lets) {
		if name == n.Text {
			return api.Core{Kind: api.CoreName, Number: let}
		}
	}
	w.fail(n, api.ErrName)
	return api.Core{}
}

func (w *walk) con(n api.Node) api.Core {
	c, known := w.named[n.Text]
	if !known {
		w.fail(n, api.ErrName)
	}
	if len(n.Kids) == 0 {
		return api.Core{Kind: api.CoreInt, Number: c.Tag}
	}
	return api.Core{Kind: api.CoreMake, Number: c.Tag, Kids: w.each(n)}
}

func (w *walk) fun(n api.Node) api.Core { return w.closure(n, "", n.Text) }

func (w *walk) spawn(n api.Node) api.Core {
	return api.Core{Kind: api.CoreSpawn, Kids: []api.Core{w.closure(n, "", "")}}
}

func (w *walk) let(n api.Node) api.Core { return w.binds(n, api.CoreLet, w.value(n)) }

func (w *walk) try(n api.Node) api.Core { return w.binds(n, api.CoreTry, w.exp(n.Kids[0])) }

// binds is for a node whose name is a local in its second Kid, behind what became of the first one.
func (w *walk) binds(n api.Node, kind int, first api.Core) api.Core {
	local := w.local(n, n.Text)
	second := w.exp(n.Kids[1])
	w.leaves(local)
	return api.Core{Kind: kind, Number: local, Kids: []api.Core{first, second}}
}

func (w *walk) match(n api.Node) api.Core {
	value := w.exp(n.Kids[0])
	m := api.Core{Kind: api.CoreMatch, Kids: []api.Core{value}, Tree: w.tree(n)}
	m.Number = w.local(n, "")
	for i := 1; i < len(n.Kids); i += 2 {
		m.Binds = append(m.Binds, w.row(n, n.Kids[i]))
		m.Kids = append(m.Kids, w.exp(n.Kids[i+1]))
		w.leaves(m.Number + 1)
	}
	w.leaves(m.Number)
	return m
}

// tree is the tree of a match's rows, if they leave nothing out, and each is reached.
func (w *walk) tree(n api.Node) api.Tree {
	if w.fault != api.OK {
		return api.Tree{}
	}
	var rows []api.Node
	for i := 1; i < len(n.Kids); i += 2 {
		rows = append(rows, n.Kids[i])
	}
	switch at, e := cover.Check(rows, w.cons); e {
	case api.ErrUseless:
		w.fail(rows[at], e)
	case api.ErrCover:
		w.fail(n, e)
	}
	// Where Check tells ErrArg, Build does, too.
	t, e := tree.Build(rows, w.cons)
	if e != api.OK {
		w.fail(n, api.ErrMany)
	}
	return t
}

// row makes a match's locals of the names in a row's pattern.
func (w *walk) row(n, pattern api.Node) []api.Bind {
	var l []api.Bind
	for _, place := range tree.Names(pattern) {
		l = append(l, api.Bind{Local: w.local(n, place.Name), Path: place.Path})
	}
	return l
}
