package syntax

import "holdfast/api"

// misplaced is what is thrown at a token that cannot stand where it does.
type misplaced struct {
	at int
}

// parser reads tokens from the left. Its tables say how things are read whose first token is a word or a sign.
type parser struct {
	tokens []api.Token
	next   int // which token stands there

	items    []reader
	types    []reader
	alone    []reader // expressions that are statements without anything behind them
	others   []reader // all other expressions
	patterns []reader
}

func newParser(tokens []api.Token) *parser {
	return &parser{
		tokens:   tokens,
		items:    itemReaders(),
		types:    typeReaders(),
		alone:    aloneReaders(),
		others:   otherReaders(),
		patterns: patternReaders(),
	}
}

// token is the token that stands there.
func (p *parser) token() api.Token {
	return p.tokens[p.next]
}

// behind is the token behind that one. It may be asked for only if that one is not the end.
func (p *parser) behind() api.Token {
	return p.tokens[p.next+1]
}

// take goes on to the next token. It may be called only if the one that stands there is not the end.
func (p *parser) take() api.Token {
	token := p.token()
	p.next++
	return token
}

// wrong is what to throw if the token that stands there cannot.
func (p *parser) wrong() misplaced {
	return misplaced{at: p.token().At}
}

// is says whether a word or sign stands there. No other token has its text.
func (p *parser) is(text string) bool {
	return p.token().Text == text
}

// skip goes on if a word or sign stands there, and says whether it did.
func (p *parser) skip(text string) bool {
	if !p.is(text) {
		return false
	}
	p.take()
	return true
}

// must goes on behind a word or sign that has to stand there.
func (p *parser) must(text string) {
	if !p.skip(text) {
		panic(p.wrong())
	}
}

// takeKind goes on behind a token of a kind that has to stand there.
func (p *parser) takeKind(kind int) api.Token {
	if p.token().Kind != kind {
		panic(p.wrong())
	}
	return p.take()
}

func (p *parser) name() string {
	return p.takeKind(api.TokName).Text
}

// node is a node that begins with the token that stands there.
func (p *parser) node(kind int) api.Node {
	return api.Node{Kind: kind, At: p.token().At}
}

func (p *parser) number(kind int) api.Node {
	n := p.node(kind)
	n.N = p.takeKind(api.TokInt).N
	return n
}

// path reads a path of at most so many names. It is left to whoever asks for it what a `::` behind it means.
func (p *parser) path(most int) string {
	path := p.name()
	for names := 1; p.is("::") && p.behind().Kind == api.TokName; names++ {
		if names == most {
			panic(p.wrong())
		}
		p.take()
		path += "::" + p.name()
	}
	return path
}

// row is how a list is written: what stands between its things; what stands behind them, if anything has to; whether there may be none; whether the last one may have behind it what stands between two.
type row struct {
	between, end string
	none, loose  bool
}

// some is a row of one thing at least.
func some(end string) row {
	return row{between: ",", end: end}
}

// maybe is a row that may be empty.
func maybe(end string) row {
	return row{between: ",", end: end, none: true}
}

// loose is a row that may be empty, and may have a `,` behind its last thing.
func loose(end string) row {
	return row{between: ",", end: end, none: true, loose: true}
}

// list reads the things of a row, up to its end.
func list[T any](p *parser, r row, read func() T) []T {
	if r.none && p.skip(r.end) {
		return nil
	}
	things := []T{read()}
	for p.skip(r.between) {
		if r.loose && p.skip(r.end) {
			return things
		}
		things = append(things, read())
	}
	if r.end != "" {
		p.must(r.end)
	}
	return things
}

// lifesFirst reads the things of a row in which no lifetime stands behind anything else.
type lifesFirst struct {
	parser      *parser
	life, other func() api.Node
	begun       bool // whether something else has stood there
}

func (l *lifesFirst) read() api.Node {
	if !l.begun && l.parser.token().Kind == api.TokLife {
		return l.life()
	}
	l.begun = true
	return l.other()
}

// group reads things in `( )`: one of them is itself, otherwise they are a tuple.
func (p *parser) group(kind int, read func() api.Node) api.Node {
	tuple := p.node(kind)
	p.must("(")
	tuple.Kids = list(p, maybe(")"), read)
	if len(tuple.Kids) == 1 {
		return tuple.Kids[0]
	}
	return tuple
}
