package syntax

import "holdfast/api"

func (p *parser) block() api.Node {
	n := p.node(api.EBlock)
	p.must("{")
	for !p.skip("}") {
		statement, given := p.statement()
		n.Kids = append(n.Kids, statement)
		if given {
			n.N = 1
		}
	}
	return n
}

// statement reads a statement, and says whether it is what its block gives.
func (p *parser) statement() (api.Node, bool) {
	if p.is("let") {
		return p.let(), false
	}
	if read := p.begun(p.alone); read != nil {
		n := read(p)
		return n, !p.skip(";") && p.is("}")
	}
	n := p.expression()
	if p.is("}") {
		return n, true
	}
	p.must(";")
	return n, false
}

func (p *parser) let() api.Node {
	n := p.node(api.ELet)
	p.must("let")
	if p.skip("mut") {
		n.M = 1
	}
	n.Name = p.name()
	if p.skip(":") {
		n.N++
		n.Kids = append(n.Kids, p.anyType())
	}
	if p.skip("=") {
		n.N += 2
		n.Kids = append(n.Kids, p.expression())
	}
	p.must(";")
	return n
}
