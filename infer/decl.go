package infer

import (
	"strings"

	"selvage/api"
	"selvage/types"
)

// declared is a type that is declared.
type declared struct {
	is     api.Type       // the variables 1, 2, .. in it stand for its parameters
	params map[string]int // the variables of these
	many   int            // how many constructors it has
}

// program goes through a program, and is the type of what is done.
func (w *walk) program(n api.Node) api.Type {
	last := len(n.Kids) - 1
	for _, k := range n.Kids[:last] {
		if k.Kind == api.NodeType {
			w.typeDecl(k)
		} else {
			w.bind(k)
		}
	}
	return w.exp(n.Kids[last])
}

// typeDecl goes through a declaration of a type.
func (w *walk) typeDecl(n api.Node) {
	d := declared{is: of(strings.Clone(n.Text)), params: map[string]int{}, many: len(n.Kids)}
	for i, name := range n.Names {
		d.params[name] = i + 1
		d.is.Args = append(d.is.Args, api.Type{Var: i + 1})
	}
	if _, is := w.many[n.Text]; is || len(d.params) < len(n.Names) {
		w.fail(n, api.ErrTwice)
		return
	}
	w.many[d.is.Name] = len(n.Names)
	for tag, def := range n.Kids {
		w.def(def, tag, d)
	}
}

// def goes through a constructor of a declaration.
func (w *walk) def(n api.Node, tag int, d declared) {
	if _, is := w.makes[n.Text]; is {
		w.fail(n, api.ErrTwice)
		return
	}
	t := of(strings.Clone(n.Text))
	for _, k := range n.Kids {
		t.Args = append(t.Args, w.tyapp(k, d.params))
	}
	t.Args = append(t.Args, d.is)
	if types.Show(t) == "" {
		w.fail(n, api.ErrMany)
	}
	w.makes[t.Name] = api.Scheme{Many: len(d.params), Type: t}
	w.cons = append(w.cons, api.Con{Name: t.Name, Of: d.is.Name, Tag: tag, Arity: len(n.Kids), Many: d.many})
}

// tyapp is the type that stands behind a constructor.
func (w *walk) tyapp(n api.Node, params map[string]int) api.Type {
	v, isParam := params[n.Text]
	many, isType := w.many[n.Text]
	if isParam {
		many = 0
	}
	switch {
	case !isParam && !isType:
		w.fail(n, api.ErrName)
	case len(n.Kids) != many:
		w.fail(n, api.ErrArity)
	case isParam:
		return api.Type{Var: v}
	}
	t := of(strings.Clone(n.Text))
	for _, k := range n.Kids {
		t.Args = append(t.Args, w.tyapp(k, params))
	}
	return t
}

// bind goes through a let's value: behind it the let's name is known.
func (w *walk) bind(n api.Node) {
	value := w.exp
	if n.Kind == api.NodeRec || n.Kind == api.NodeValRec {
		value = w.own(n.Text)
	}
	t := value(n.Kids[0])
	if !still(n.Kids[0]) {
		w.alone(n.Text, t)
		return
	}
	is := w.state.General(t, w.kept)
	if none(is.Type) {
		w.fail(n, api.ErrMany)
	}
	w.know(n.Text, is)
}

// own goes through a value in which its name is known itself.
func (w *walk) own(name string) func(api.Node) api.Type {
	return func(n api.Node) api.Type {
		defer w.scope()()
		t := w.state.Fresh()
		w.alone(name, t)
		return w.as(n, t)
	}
}

// still tells whether a value is one whose name is general.
func still(n api.Node) bool {
	switch n.Kind {
	case api.NodeFun, api.NodeName, api.NodeInt, api.NodeText, api.NodeUnit:
		return true
	case api.NodeCon:
		for _, k := range n.Kids {
			if !still(k) {
				return false
			}
		}
		return true
	}
	return false
}
