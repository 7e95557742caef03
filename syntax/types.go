package syntax

import "holdfast/api"

func (p *parser) anyType() api.Node {
	if p.token().Kind == api.TokName {
		return p.pathType()
	}
	return p.read(p.types)
}

func (p *parser) pathType() api.Node {
	n := p.node(api.YPath)
	n.Name = p.path(2)
	if p.skip("<") {
		arg := &lifesFirst{parser: p, life: p.life, other: p.anyType}
		n.Kids = list(p, some(">"), arg.read)
	}
	return n
}

func (p *parser) life() api.Node {
	n := p.node(api.YLife)
	n.Name = p.takeKind(api.TokLife).Text
	return n
}

// maybeLife reads the name of a lifetime that need not stand there.
func (p *parser) maybeLife() string {
	if p.token().Kind != api.TokLife {
		return ""
	}
	return p.take().Text
}

func (p *parser) refType() api.Node {
	at := p.token().At
	if p.skip("&&") {
		return api.Node{Kind: api.YRef, At: at, Kids: []api.Node{p.lentType(at + 1)}}
	}
	p.must("&")
	return p.lentType(at)
}

// lentType reads what stands behind the `&` of a reference at a place.
func (p *parser) lentType(at int) api.Node {
	n := api.Node{Kind: api.YRef, At: at, Name: p.maybeLife()}
	if p.skip("mut") {
		n.N = 1
	}
	n.Kids = []api.Node{p.anyType()}
	return n
}

func (p *parser) fnType() api.Node {
	n := p.node(api.YFn)
	p.must("fn")
	n.Name = p.maybeLife()
	n.N = p.fnKind()
	p.must("(")
	n.Kids = list(p, maybe(")"), p.anyType)
	p.must("->")
	n.Kids = append(n.Kids, p.anyType())
	return n
}

// fnKind reads the word that says of which kind a closure is, if one does.
func (p *parser) fnKind() int {
	switch {
	case p.skip("mut"):
		return api.FnMut
	case p.skip("once"):
		return api.FnOnce
	}
	return api.FnFn
}
