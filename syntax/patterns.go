package syntax

import (
	"strings"

	"holdfast/api"
)

func (p *parser) pattern() api.Node {
	switch p.token().Kind {
	case api.TokInt:
		return p.number(api.PInt)
	case api.TokName:
		return p.pathPattern()
	}
	return p.read(p.patterns)
}

// pathPattern reads a name, or a variant with what is in it.
func (p *parser) pathPattern() api.Node {
	n := p.node(api.PBind)
	n.Name = p.path(3)
	if !strings.Contains(n.Name, "::") {
		return n
	}
	n.Kind = api.PCase
	if p.skip("(") {
		n.Kids = list(p, some(")"), p.pattern)
	}
	return n
}

func (p *parser) negativePattern() api.Node {
	n := p.node(api.PInt)
	p.must("-")
	n.N = -p.takeKind(api.TokInt).N
	return n
}

func (p *parser) refPattern() api.Node {
	n := p.node(api.PBind)
	p.must("ref")
	n.N = 1
	if p.skip("mut") {
		n.N = 2
	}
	n.Name = p.name()
	return n
}

func (p *parser) mutPattern() api.Node {
	n := p.node(api.PBind)
	p.must("mut")
	n.M = 1
	n.Name = p.name()
	return n
}
