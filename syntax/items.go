package syntax

import "holdfast/api"

func (p *parser) program() api.Node {
	n := p.node(api.Prog)
	for p.token().Kind != api.TokEnd {
		n.Kids = append(n.Kids, p.module())
	}
	return n
}

func (p *parser) module() api.Node {
	n := p.node(api.Mod)
	p.must("mod")
	n.Name = p.name()
	p.must("{")
	for p.is("use") {
		n.Kids = append(n.Kids, p.use())
	}
	for !p.skip("}") {
		n.Kids = append(n.Kids, p.item())
	}
	return n
}

func (p *parser) use() api.Node {
	n := p.node(api.Use)
	p.must("use")
	n.Name = p.name()
	p.must("::")
	n.Name += "::" + p.name()
	p.must(";")
	return n
}

func (p *parser) item() api.Node {
	if p.is("impl") {
		return p.implItem()
	}
	at, mark := p.token().At, 0
	if p.skip("pub") {
		mark = 1
	}
	// A `copy` with nothing to copy behind it is left standing: no item begins with it.
	if p.is("copy") && (p.behind().Text == "struct" || p.behind().Text == "enum") {
		p.take()
		mark += 2
	}
	n := p.read(p.items)
	n.At, n.M = at, mark
	return n
}

func (p *parser) structItem() api.Node {
	n := p.node(api.Data)
	p.must("struct")
	n.Name = p.name()
	gens := p.plainGens()
	variant := p.node(api.Variant)
	p.must("{")
	variant.Kids = list(p, loose("}"), p.field)
	n.Kids = []api.Node{gens, variant}
	return n
}

func (p *parser) enumItem() api.Node {
	n := p.node(api.Data)
	p.must("enum")
	n.Name = p.name()
	n.N = 1
	n.Kids = append(n.Kids, p.plainGens())
	p.must("{")
	n.Kids = append(n.Kids, list(p, loose("}"), p.variant)...)
	return n
}

func (p *parser) variant() api.Node {
	n := p.node(api.Variant)
	n.Name = p.name()
	if p.skip("(") {
		n.Kids = list(p, some(")"), p.part)
	}
	return n
}

// part reads a field of an enum's variant: its type alone.
func (p *parser) part() api.Node {
	kid := p.anyType()
	return api.Node{Kind: api.Field, At: kid.At, Kids: []api.Node{kid}}
}

func (p *parser) field() api.Node {
	return p.typed(api.Field, "pub")
}

func (p *parser) param() api.Node {
	return p.typed(api.Param, "mut")
}

// typed reads a name with its type, ahead of which a word may stand.
func (p *parser) typed(kind int, word string) api.Node {
	n := p.node(kind)
	if p.skip(word) {
		n.M = 1
	}
	n.Name = p.name()
	p.must(":")
	n.Kids = []api.Node{p.anyType()}
	return n
}

func (p *parser) traitItem() api.Node {
	n := p.node(api.Trait)
	p.must("trait")
	n.Name = p.name()
	p.must("{")
	for !p.skip("}") {
		n.Kids = append(n.Kids, p.signature(p.noGens))
		p.must(";")
	}
	return n
}

func (p *parser) implItem() api.Node {
	n := p.node(api.Impl)
	p.must("impl")
	gens := p.boundGens()
	n.Name = p.path(2)
	p.must("for")
	n.Kids = []api.Node{gens, p.anyType()}
	p.must("{")
	for !p.skip("}") {
		n.Kids = append(n.Kids, p.function(p.noGens))
	}
	return n
}

func (p *parser) fnItem() api.Node {
	return p.function(p.boundGens)
}

func (p *parser) function(gens func() api.Node) api.Node {
	n := p.signature(gens)
	n.Kids = append(n.Kids, p.block())
	return n
}

// signature reads a function up to its block.
func (p *parser) signature(gens func() api.Node) api.Node {
	n := p.node(api.Fn)
	p.must("fn")
	n.Name = p.name()
	n.Kids = append(n.Kids, gens())
	params := p.params()
	n.N = len(params)
	n.Kids = append(n.Kids, params...)
	n.Kids = append(n.Kids, p.result())
	return n
}

func (p *parser) params() []api.Node {
	p.must("(")
	return list(p, maybe(")"), p.param)
}

// result reads the type behind a `->`; without it the type is the empty tuple.
func (p *parser) result() api.Node {
	if p.skip("->") {
		return p.anyType()
	}
	return p.node(api.YTuple)
}

func (p *parser) noGens() api.Node {
	return p.node(api.Gens)
}

func (p *parser) plainGens() api.Node {
	return p.gens(p.lifeGen, p.typeGen)
}

func (p *parser) boundGens() api.Node {
	return p.gens(p.boundLifeGen, p.boundTypeGen)
}

func (p *parser) gens(life, other func() api.Node) api.Node {
	n := p.node(api.Gens)
	if p.skip("<") {
		gen := &lifesFirst{parser: p, life: life, other: other}
		n.Kids = list(p, some(">"), gen.read)
	}
	return n
}

func (p *parser) lifeGen() api.Node {
	n := p.node(api.GLife)
	n.Name = p.takeKind(api.TokLife).Text
	return n
}

func (p *parser) typeGen() api.Node {
	n := p.node(api.GType)
	n.Name = p.name()
	return n
}

func (p *parser) boundLifeGen() api.Node {
	n := p.lifeGen()
	n.Kids = p.bounds(p.life)
	return n
}

func (p *parser) boundTypeGen() api.Node {
	n := p.typeGen()
	n.Kids = p.bounds(p.bound)
	return n
}

// bounds reads what stands behind a `:`, if it does.
func (p *parser) bounds(bound func() api.Node) []api.Node {
	if !p.skip(":") {
		return nil
	}
	return list(p, row{between: "+"}, bound)
}

// bound reads a bound of a type: a lifetime or a trait.
func (p *parser) bound() api.Node {
	if p.token().Kind == api.TokLife {
		return p.life()
	}
	n := p.node(api.YPath)
	n.Name = p.path(2)
	return n
}
