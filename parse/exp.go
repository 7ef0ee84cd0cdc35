package parse

import "selvage/api"

// exps tells what reads an exp, by the word that it begins with; other ones begin with a cmp.
func exps() map[string]part {
	return map[string]part{
		"let": (*parser).let,
		"fun": (*parser).fun,
		"if":  (*parser).cond,
	}
}

// atoms tells what reads an atom, by the word that it begins with; other ones are one token that is no word.
func atoms() map[string]part {
	return map[string]part{
		"(":     (*parser).brackets,
		"retry": (*parser).retry,
		"match": (*parser).match,
		"try":   (*parser).try,
	}
}

// keyed tells what node a key makes with atoms behind it, and how many; none of a word that is no such key.
func keyed(word string) (kind, atoms int) {
	switch word {
	case "print":
		return api.NodePrint, 1
	case "raise":
		return api.NodeRaise, 1
	case "spawn":
		return api.NodeSpawn, 1
	case "atomically":
		return api.NodeAtom, 1
	case "tvar":
		return api.NodeTvar, 1
	case "read":
		return api.NodeRead, 1
	case "write":
		return api.NodeWrite, 2
	case "orelse":
		return api.NodeElse, 2
	}
	return 0, 0
}

// leafKind tells what node a token makes by itself; none, if it is a word, or the end.
func leafKind(t api.Token) int {
	switch t.Kind {
	case api.TokInt:
		return api.NodeInt
	case api.TokText:
		return api.NodeText
	case api.TokName:
		return api.NodeName
	case api.TokCon:
		return api.NodeCon
	}
	return 0
}

// leaf reads a token that makes a node by itself.
func (p *parser) leaf() api.Node {
	t := p.take()
	return api.Node{Kind: leafKind(t), Text: t.Text, Number: t.Number, At: t.At}
}

// exp reads an exp that stands in what is read.
func (p *parser) exp() api.Node { return p.deeper((*parser).anyExp) }

// anyExp reads an exp.
func (p *parser) anyExp() api.Node {
	if read := p.exps[p.word()]; read != nil {
		return read(p)
	}
	return p.seq()
}

// let reads an exp with a name for a value.
func (p *parser) let() api.Node {
	n := p.bind(api.NodeLet, api.NodeRec)
	p.expect("in")
	n.Kids = append(n.Kids, p.exp())
	return n
}

// fun reads an exp that begins with fun.
func (p *parser) fun() api.Node {
	n := p.begin(api.NodeFun)
	p.expect("fun")
	n.Text = p.name()
	p.expect("->")
	n.Kids = []api.Node{p.exp()}
	return n
}

// cond reads an exp that begins with if.
func (p *parser) cond() api.Node {
	n := p.begin(api.NodeIf)
	for _, word := range [...]string{"if", "then", "else"} {
		p.expect(word)
		n.Kids = append(n.Kids, p.exp())
	}
	return n
}

// seq reads a cmp, and an exp behind a `;`, where that does not end a declaration.
func (p *parser) seq() api.Node {
	n := p.cmp()
	if p.joins && p.accept(";") {
		n = pair(api.NodeSeq, "", n, p.exp())
	}
	return n
}

// pair is a node of two, which begins as the first one does.
func pair(kind int, text string, a, b api.Node) api.Node {
	return api.Node{Kind: kind, Text: text, At: a.At, Kids: []api.Node{a, b}}
}

// cmp reads sums, two at most.
func (p *parser) cmp() api.Node {
	n := p.sum()
	if p.is("=", "<") {
		n = p.op(n, (*parser).sum)
	}
	return n
}

// sum reads products, from the left.
func (p *parser) sum() api.Node {
	n := p.prod()
	for p.is("+", "-", "^") {
		n = p.op(n, (*parser).prod)
	}
	return n
}

// prod reads apps, from the left.
func (p *parser) prod() api.Node {
	n := p.app()
	for p.is("*", "/", "%") {
		n = p.op(n, (*parser).app)
	}
	return n
}

// op reads a sign and what stands on its right; n stands on its left.
func (p *parser) op(n api.Node, read part) api.Node {
	sign := p.take().Text
	return pair(api.NodeOp, sign, n, read(p))
}

// app reads an atom, and those that stand behind it.
func (p *parser) app() api.Node {
	if kind, atoms := keyed(p.word()); kind != 0 {
		n := p.begin(kind)
		p.take()
		for range atoms {
			n.Kids = append(n.Kids, p.atom())
		}
		return n
	}
	if p.token().Kind == api.TokCon {
		return p.con((*parser).atAtom, (*parser).atom)
	}
	n := p.atom()
	for p.atAtom() {
		n = pair(api.NodeCall, "", n, p.atom())
	}
	return n
}

// con reads a constructor, and what stands behind it as long as there is more.
func (p *parser) con(more func(*parser) bool, read part) api.Node {
	n := p.leaf()
	for more(p) {
		if len(n.Kids) == api.MaxArity {
			return p.fail(api.ErrMany)
		}
		n.Kids = append(n.Kids, read(p))
	}
	return n
}

// atAtom tells whether an atom is next.
func (p *parser) atAtom() bool {
	return leafKind(p.token()) != 0 || p.atoms[p.word()] != nil
}

// atom reads an atom.
func (p *parser) atom() api.Node {
	if leafKind(p.token()) != 0 {
		return p.leaf()
	}
	if read := p.atoms[p.word()]; read != nil {
		return read(p)
	}
	return p.fail(api.ErrSyntax)
}

// brackets reads `()`, or an exp in brackets, which leave no trace.
func (p *parser) brackets() api.Node {
	defer p.joining()()
	n := p.begin(api.NodeUnit)
	p.expect("(")
	if p.accept(")") {
		return n
	}
	return p.bracketed((*parser).anyExp)
}

// joining has a `;` make a NodeSeq; what it answers has it be as it was.
func (p *parser) joining() func() {
	was := p.joins
	p.joins = true
	return func() { p.joins = was }
}

// retry reads an atom that is this key.
func (p *parser) retry() api.Node {
	n := p.begin(api.NodeRetry)
	p.take()
	return n
}

// match reads a match: its rows are one or more.
func (p *parser) match() api.Node {
	defer p.joining()()
	n := p.begin(api.NodeMatch)
	p.expect("match")
	n.Kids = []api.Node{p.exp()}
	p.expect("with")
	for rows := 0; rows == 0 || p.is("|"); rows++ {
		if rows == api.MaxRows {
			return p.fail(api.ErrMany)
		}
		p.expect("|")
		n.Kids = append(n.Kids, p.deeper((*parser).pat))
		p.expect("->")
		n.Kids = append(n.Kids, p.exp())
	}
	p.expect("end")
	return n
}

// try reads a try, up to its end.
func (p *parser) try() api.Node {
	defer p.joining()()
	n := p.begin(api.NodeTry)
	p.expect("try")
	n.Kids = []api.Node{p.exp()}
	p.expect("with")
	n.Text = p.name()
	p.expect("->")
	n.Kids = append(n.Kids, p.exp())
	p.expect("end")
	return n
}

// pat reads a pattern.
func (p *parser) pat() api.Node {
	if p.token().Kind != api.TokCon {
		return p.patom()
	}
	return p.con((*parser).atPatom, (*parser).patom)
}

// atPatom tells whether a patom is next: all that is an atom by itself, but a string.
func (p *parser) atPatom() bool {
	kind := leafKind(p.token())
	return kind != 0 && kind != api.NodeText || p.is("_", "(")
}

// patom reads a pattern that needs no brackets, or one in brackets.
func (p *parser) patom() api.Node {
	switch {
	case !p.atPatom():
		return p.fail(api.ErrSyntax)
	case p.accept("("):
		return p.bracketed((*parser).pat)
	case p.is("_"):
		n := p.begin(api.NodeAny)
		p.take()
		return n
	}
	return p.leaf()
}
