package parse

import "selvage/api"

// program reads declarations, and what is done, up to the end.
func (p *parser) program() api.Node {
	n := p.begin(api.NodeProg)
	for p.is("type", "let") {
		if len(n.Kids) == api.MaxDecls {
			return p.fail(api.ErrMany)
		}
		n.Kids = append(n.Kids, p.decl())
	}
	p.expect("do")
	p.joins = true
	n.Kids = append(n.Kids, p.exp())
	if p.token().Kind != api.TokEnd {
		return p.fail(api.ErrSyntax)
	}
	return n
}

// decl reads a declaration.
func (p *parser) decl() api.Node {
	read := (*parser).valDecl
	if p.is("type") {
		read = (*parser).typeDecl
	}
	n := read(p)
	p.expect(";")
	return n
}

// valDecl reads a declaration of a name.
func (p *parser) valDecl() api.Node { return p.bind(api.NodeVal, api.NodeValRec) }

// bind reads a let up to its value, as a node of the one kind, or of the other one behind rec.
func (p *parser) bind(plain, rec int) api.Node {
	n, read := p.begin(plain), part((*parser).anyExp)
	p.expect("let")
	if p.accept("rec") {
		n.Kind, read = rec, (*parser).fun
	}
	n.Text = p.name()
	p.expect("=")
	n.Kids = []api.Node{p.deeper(read)}
	return n
}

// typeDecl reads a declaration of a type.
func (p *parser) typeDecl() api.Node {
	n := p.begin(api.NodeType)
	p.expect("type")
	n.Text = p.name()
	for p.token().Kind == api.TokName {
		if len(n.Names) == api.MaxArity {
			return p.fail(api.ErrMany)
		}
		n.Names = append(n.Names, p.name())
	}
	p.expect("=")
	n.Kids = p.list("|", api.MaxCons, (*parser).def)
	return n
}

// def reads a constructor of a declaration.
func (p *parser) def() api.Node {
	n := p.begin(api.NodeDef)
	n.Text = p.text(api.TokCon)
	if p.accept("of") {
		n.Kids = p.list(",", api.MaxArity, (*parser).outerTyapp)
	}
	return n
}

// outerTyapp reads a tyapp that stands in no other one.
func (p *parser) outerTyapp() api.Node { return p.deeper((*parser).tyapp) }

// tyapp reads a type's name, and what stands behind it.
func (p *parser) tyapp() api.Node {
	n := p.begin(api.NodeTy)
	n.Text = p.name()
	for p.token().Kind == api.TokName || p.is("(") {
		n.Kids = append(n.Kids, p.tyatom())
	}
	return n
}

// tyatom reads a type's name by itself, or a tyapp in brackets.
func (p *parser) tyatom() api.Node {
	if p.accept("(") {
		return p.bracketed((*parser).tyapp)
	}
	n := p.begin(api.NodeTy)
	n.Text = p.name()
	return n
}
