package syntax

import "holdfast/api"

// operator is a sign between two operands: on which line of the grammar it stands, and what node it makes.
type operator struct {
	sign       string
	line, kind int
}

const (
	firstLine   = 2
	compareLine = 4
	lastLine    = 6
)

var operators = [...]operator{
	{"||", 2, api.EOr},
	{"&&", 3, api.EAnd},
	{"==", compareLine, api.EBin}, {"!=", compareLine, api.EBin},
	{"<=", compareLine, api.EBin}, {">=", compareLine, api.EBin},
	{"<", compareLine, api.EBin}, {">", compareLine, api.EBin},
	{"+", 5, api.EBin}, {"-", 5, api.EBin},
	{"*", 6, api.EBin}, {"/", 6, api.EBin}, {"%", 6, api.EBin},
}

func (p *parser) expression() api.Node {
	left := p.operation(firstLine)
	if !p.is("=") {
		return left
	}
	n := p.node(api.EAssign)
	p.take()
	n.Kids = []api.Node{left, p.expression()}
	return n
}

// operation reads an expression of a line of the grammar from 2 to 6, or of those that bind more.
func (p *parser) operation(line int) api.Node {
	if line > lastLine {
		return p.prefixed()
	}
	left := p.operation(line + 1)
	for kind, ok := p.operator(line); ok; kind, ok = p.operator(line) {
		n := p.node(kind)
		sign := p.take().Text
		if kind == api.EBin {
			n.Name = sign
		}
		n.Kids = []api.Node{left, p.operation(line + 1)}
		left = n
		// One comparison at most: whether another may stand behind it, what is around it says.
		if line == compareLine {
			return left
		}
	}
	return left
}

// operator answers what node the token that stands there makes, if it is an operator of a line.
func (p *parser) operator(line int) (int, bool) {
	for _, o := range operators {
		if o.line == line && p.is(o.sign) {
			return o.kind, true
		}
	}
	return 0, false
}

// prefixed reads an expression of line 7.
func (p *parser) prefixed() api.Node {
	n := p.node(api.EUn)
	switch {
	case p.is("-"), p.is("!"):
		n.Name = p.take().Text
	case p.skip("*"):
		n.Kind = api.EDeref
	case p.skip("&"):
		return p.lent(n.At)
	case p.skip("&&"):
		n.Kind = api.ERef
		n.Kids = []api.Node{p.lent(n.At + 1)}
		return n
	default:
		return p.extended()
	}
	n.Kids = []api.Node{p.prefixed()}
	return n
}

// lent reads what stands behind the `&` of a reference at a place.
func (p *parser) lent(at int) api.Node {
	n := api.Node{Kind: api.ERef, At: at}
	if p.skip("mut") {
		n.N = 1
	}
	n.Kids = []api.Node{p.prefixed()}
	return n
}

// extended reads an expression of line 8: a thing with calls and fields behind it.
func (p *parser) extended() api.Node {
	left := p.thing()
	for {
		n := p.node(api.ECall)
		n.Kids = []api.Node{left}
		switch {
		case p.skip("("):
			n.Kids = append(n.Kids, list(p, maybe(")"), p.expression)...)
		case p.skip("."):
			n.Kind = api.EField
			p.fieldName(&n)
		default:
			return left
		}
		left = n
	}
}

// fieldName reads the name or number of a field.
func (p *parser) fieldName(n *api.Node) {
	if p.token().Kind == api.TokInt {
		n.N = p.take().N
		return
	}
	n.Name = p.name()
}

// thing reads an expression of line 9.
func (p *parser) thing() api.Node {
	switch p.token().Kind {
	case api.TokInt:
		return p.number(api.EInt)
	case api.TokName:
		n := p.node(api.EPath)
		n.Name = p.path(3)
		n.Kids = p.typesBehind()
		return n
	}
	return p.read(p.alone, p.others)
}

// typesBehind reads the types that may stand behind a path of an expression.
func (p *parser) typesBehind() []api.Node {
	if !p.is("::") || p.behind().Text != "<" {
		return nil
	}
	p.must("::")
	p.must("<")
	return list(p, some(">"), p.anyType)
}

func (p *parser) ifThing() api.Node {
	n := p.node(api.EIf)
	p.must("if")
	n.Kids = []api.Node{p.expression(), p.block()}
	if !p.skip("else") {
		return n
	}
	if p.is("if") {
		n.Kids = append(n.Kids, p.ifThing())
	} else {
		n.Kids = append(n.Kids, p.block())
	}
	return n
}

func (p *parser) matchThing() api.Node {
	n := p.node(api.EMatch)
	p.must("match")
	n.Kids = append(n.Kids, p.expression())
	p.must("{")
	n.Kids = append(n.Kids, list(p, loose("}"), p.arm)...)
	return n
}

func (p *parser) arm() api.Node {
	n := p.node(api.Arm)
	pattern := p.pattern()
	p.must("=>")
	n.Kids = []api.Node{pattern, p.expression()}
	return n
}

func (p *parser) whileThing() api.Node {
	n := p.node(api.EWhile)
	p.must("while")
	n.Kids = []api.Node{p.expression(), p.block()}
	return n
}

func (p *parser) loopThing() api.Node {
	n := p.node(api.ELoop)
	p.must("loop")
	n.Kids = []api.Node{p.block()}
	return n
}

func (p *parser) returnThing() api.Node {
	n := p.node(api.EReturn)
	p.must("return")
	switch p.token().Text {
	case ";", "}", ")", ",", "]":
		return n
	}
	n.Kids = []api.Node{p.expression()}
	return n
}

func (p *parser) makeThing() api.Node {
	n := p.node(api.EMake)
	p.must("make")
	n.Name = p.path(2)
	n.Kids = p.typesBehind()
	n.M = len(n.Kids)
	p.must("{")
	n.Kids = append(n.Kids, list(p, loose("}"), p.fieldValue)...)
	return n
}

// fieldValue reads what a field of a new struct gets.
func (p *parser) fieldValue() api.Node {
	n := p.node(api.EInit)
	n.Name = p.name()
	p.must(":")
	n.Kids = []api.Node{p.expression()}
	return n
}

func (p *parser) closureThing() api.Node {
	n := p.node(api.EClosure)
	p.must("fn")
	n.N = p.fnKind()
	n.Kids = p.captures()
	n.M = len(n.Kids)
	n.Kids = append(n.Kids, p.params()...)
	n.Kids = append(n.Kids, p.result(), p.block())
	return n
}

func (p *parser) spawnThing() api.Node {
	n := p.node(api.ESpawn)
	p.must("spawn")
	n.Kids = p.captures()
	n.M = len(n.Kids)
	n.Kids = append(n.Kids, p.result(), p.block())
	return n
}

func (p *parser) captures() []api.Node {
	p.must("[")
	return list(p, maybe("]"), p.capture)
}

func (p *parser) capture() api.Node {
	n := p.node(api.ECapture)
	if p.skip("&") {
		n.N = 1
		if p.skip("mut") {
			n.N = 2
		}
	}
	n.Name = p.name()
	return n
}
