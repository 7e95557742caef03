package syntax

import "holdfast/api"

// reader reads what begins with a word or a sign.
type reader struct {
	begin string
	read  func(*parser) api.Node
}

// begun answers the reader, of these tables, of what begins with the token that stands there, or nil.
func (p *parser) begun(tables ...[]reader) func(*parser) api.Node {
	for _, table := range tables {
		for _, r := range table {
			if p.is(r.begin) {
				return r.read
			}
		}
	}
	return nil
}

// read reads what these tables have a reader for.
func (p *parser) read(tables ...[]reader) api.Node {
	read := p.begun(tables...)
	if read == nil {
		panic(p.wrong())
	}
	return read(p)
}

// bare reads a thing that is one token.
func bare(kind, n int) func(*parser) api.Node {
	return func(p *parser) api.Node {
		node := p.node(kind)
		node.N = n
		p.take()
		return node
	}
}

func itemReaders() []reader {
	return []reader{
		{"struct", (*parser).structItem},
		{"enum", (*parser).enumItem},
		{"trait", (*parser).traitItem},
		{"fn", (*parser).fnItem},
	}
}

func typeReaders() []reader {
	return []reader{
		{"int", bare(api.YInt, 0)},
		{"bool", bare(api.YBool, 0)},
		{"fn", (*parser).fnType},
		{"&", (*parser).refType},
		{"&&", (*parser).refType},
		{"(", func(p *parser) api.Node { return p.group(api.YTuple, p.anyType) }},
	}
}

func aloneReaders() []reader {
	return []reader{
		{"if", (*parser).ifThing},
		{"match", (*parser).matchThing},
		{"while", (*parser).whileThing},
		{"loop", (*parser).loopThing},
		{"{", (*parser).block},
	}
}

func otherReaders() []reader {
	return []reader{
		{"true", bare(api.EBool, 1)},
		{"false", bare(api.EBool, 0)},
		{"break", bare(api.EBreak, 0)},
		{"next", bare(api.ENext, 0)},
		{"panic", bare(api.EPanic, 0)},
		{"return", (*parser).returnThing},
		{"make", (*parser).makeThing},
		{"fn", (*parser).closureThing},
		{"spawn", (*parser).spawnThing},
		{"(", func(p *parser) api.Node { return p.group(api.ETuple, p.expression) }},
	}
}

func patternReaders() []reader {
	return []reader{
		{"_", bare(api.PAny, 0)},
		{"true", bare(api.PBool, 1)},
		{"false", bare(api.PBool, 0)},
		{"-", (*parser).negativePattern},
		{"ref", (*parser).refPattern},
		{"mut", (*parser).mutPattern},
		{"(", func(p *parser) api.Node { return p.group(api.PTuple, p.pattern) }},
	}
}
