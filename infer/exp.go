package infer

import "selvage/api"

// rule goes through an exp's parts, and is the exp's type.
type rule func(*walk, api.Node) api.Type

// exps tells how an exp is gone through, by its kind.
func exps() map[int]rule {
	return map[int]rule{
		api.NodeInt:   (*walk).digits,
		api.NodeText:  (*walk).text,
		api.NodeUnit:  (*walk).unit,
		api.NodeName:  (*walk).name,
		api.NodeCon:   (*walk).con,
		api.NodeFun:   (*walk).fun,
		api.NodeCall:  (*walk).call,
		api.NodeLet:   (*walk).let,
		api.NodeRec:   (*walk).let,
		api.NodeIf:    (*walk).cond,
		api.NodeMatch: (*walk).match,
		api.NodeTry:   (*walk).try,
		api.NodeOp:    (*walk).op,
		api.NodeSeq:   (*walk).seq,
		api.NodePrint: (*walk).print,
		api.NodeRaise: (*walk).raise,
		api.NodeSpawn: (*walk).spawn,
		api.NodeAtom:  (*walk).atom,
		api.NodeRetry: (*walk).retry,
		api.NodeElse:  (*walk).orelse,
		api.NodeTvar:  (*walk).tvar,
		api.NodeRead:  (*walk).read,
		api.NodeWrite: (*walk).write,
	}
}

// exp goes through an exp, and is its type, applied.
func (w *walk) exp(n api.Node) api.Type {
	if w.fault != api.OK {
		return api.Type{}
	}
	t := w.state.Apply(w.exps[n.Kind](w, n))
	if none(t) {
		w.fail(n, api.ErrMany)
	}
	return t
}

// as goes through an exp that must be of a type.
func (w *walk) as(n api.Node, t api.Type) api.Type {
	w.one(n, w.exp(n), t)
	return t
}

// within goes through an exp in a place of an effect.
func (w *walk) within(effect string, n api.Node) api.Type {
	defer w.scope()()
	w.in(of(effect))
	return w.exp(n)
}

func (w *walk) digits(api.Node) api.Type { return of("int") }

func (w *walk) text(api.Node) api.Type { return of("string") }

func (w *walk) unit(api.Node) api.Type { return of("unit") }

func (w *walk) name(n api.Node) api.Type {
	is, known := w.knows(n.Text, 0)
	if !known {
		w.fail(n, api.ErrName)
	}
	return w.state.Instance(is)
}

func (w *walk) con(n api.Node) api.Type {
	parts, is := w.made(n)
	for i, part := range parts {
		w.as(n.Kids[i], part)
	}
	return is
}

// made is what must stand behind a node's constructor, and what that makes; none, if not as much stands there.
func (w *walk) made(n api.Node) ([]api.Type, api.Type) {
	makes, known := w.makes[n.Text]
	last := len(makes.Type.Args) - 1
	switch {
	case !known:
		w.fail(n, api.ErrName)
	case len(n.Kids) != last:
		w.fail(n, api.ErrArity)
	default:
		args := w.state.Instance(makes).Args
		return args[:last], args[last]
	}
	return nil, api.Type{}
}

func (w *walk) fun(n api.Node) api.Type {
	defer w.scope()()
	param, effect := w.state.Fresh(), w.state.Fresh()
	w.alone(n.Text, param)
	w.in(effect)
	return of("->", param, effect, w.exp(n.Kids[0]))
}

func (w *walk) call(n api.Node) api.Type {
	f, x := w.exp(n.Kids[0]), w.exp(n.Kids[1])
	comes := w.state.Fresh()
	w.one(n, f, of("->", x, w.place, comes))
	return comes
}

func (w *walk) let(n api.Node) api.Type {
	defer w.scope()()
	w.bind(n)
	return w.exp(n.Kids[1])
}

func (w *walk) cond(n api.Node) api.Type {
	w.as(n.Kids[0], of("bool"))
	t := w.exp(n.Kids[1])
	return w.as(n.Kids[2], t)
}

func (w *walk) match(n api.Node) api.Type {
	value := w.exp(n.Kids[0])
	first := w.row(n.Kids[1], n.Kids[2], value)
	for i := 3; i < len(n.Kids); i += 2 {
		body := n.Kids[i+1]
		w.one(body, w.row(n.Kids[i], body, value), first)
	}
	return first
}

// row goes through a row of a match, and is its body's type.
func (w *walk) row(pattern, body api.Node, value api.Type) api.Type {
	defer w.scope()()
	w.pattern(pattern, value, len(w.names))
	return w.exp(body)
}

// pattern goes through a pattern of a type. The names of the pattern that it stands in are known from a place on.
func (w *walk) pattern(n api.Node, t api.Type, from int) {
	switch n.Kind {
	case api.NodeName:
		if _, twice := w.knows(n.Text, from); twice {
			w.fail(n, api.ErrTwice)
		}
		w.alone(n.Text, t)
	case api.NodeInt:
		w.one(n, of("int"), t)
	case api.NodeCon:
		parts, is := w.made(n)
		w.one(n, is, t)
		for i, part := range parts {
			w.pattern(n.Kids[i], part, from)
		}
	}
}

func (w *walk) try(n api.Node) api.Type {
	t := w.exp(n.Kids[0])
	defer w.scope()()
	w.alone(n.Text, of("int"))
	return w.as(n.Kids[1], t)
}

func (w *walk) op(n api.Node) api.Type {
	both, is := of("int"), of("int")
	switch n.Text {
	case "=", "<":
		is = of("bool")
	case "^":
		both, is = of("string"), of("string")
	}
	w.as(n.Kids[0], both)
	w.as(n.Kids[1], both)
	return is
}

func (w *walk) seq(n api.Node) api.Type {
	w.exp(n.Kids[0])
	return w.exp(n.Kids[1])
}

func (w *walk) print(n api.Node) api.Type {
	w.as(n.Kids[0], of("string"))
	w.effect(n, "IO")
	return of("unit")
}

func (w *walk) raise(n api.Node) api.Type {
	w.as(n.Kids[0], of("int"))
	return w.state.Fresh()
}

func (w *walk) spawn(n api.Node) api.Type {
	w.within("IO", n.Kids[0])
	w.effect(n, "IO")
	return of("unit")
}

func (w *walk) atom(n api.Node) api.Type {
	t := w.within("STM", n.Kids[0])
	w.effect(n, "IO")
	return t
}

func (w *walk) retry(n api.Node) api.Type {
	w.effect(n, "STM")
	return w.state.Fresh()
}

func (w *walk) orelse(n api.Node) api.Type {
	t, second := w.within("STM", n.Kids[0]), w.within("STM", n.Kids[1])
	w.effect(n, "STM")
	w.one(n.Kids[1], second, t)
	return t
}

func (w *walk) tvar(n api.Node) api.Type {
	return of("var", w.exp(n.Kids[0]))
}

func (w *walk) read(n api.Node) api.Type {
	t := w.state.Fresh()
	w.as(n.Kids[0], of("var", t))
	w.effect(n, "STM")
	return t
}

func (w *walk) write(n api.Node) api.Type {
	t, second := w.exp(n.Kids[0]), w.exp(n.Kids[1])
	w.one(n.Kids[0], t, of("var", second))
	w.effect(n, "STM")
	return of("unit")
}
