package check

import (
	"holdfast/api"
	"holdfast/shapes"
)

// control looks at an expression that says where to go on, or at a statement.
func (b *body) control(n api.Node, wanted shapes.Type) (api.Node, shapes.Type) {
	switch n.Kind {
	case api.EIf:
		return b.choice(n, wanted)
	case api.EWhile:
		condition, _ := b.value(n.Kids[0], shapes.Bool)
		block, _ := b.loop(n.Kids[1])
		return with(n, condition, block), shapes.Empty
	case api.ELoop:
		block, breaks := b.loop(n.Kids[0])
		if breaks == 0 {
			return with(n, block), shapes.Never
		}
		return with(n, block), shapes.Empty
	case api.EBreak, api.ENext:
		b.leave(n)
		return n, shapes.Never
	case api.EReturn:
		return b.giveBack(n), shapes.Never
	case api.EPanic:
		return n, shapes.Never
	case api.ELet:
		return b.let(n), shapes.Empty
	}
	return b.block(n, wanted)
}

func (b *body) choice(n api.Node, wanted shapes.Type) (api.Node, shapes.Type) {
	condition, _ := b.value(n.Kids[0], shapes.Bool)
	if len(n.Kids) == 2 {
		block, _ := b.look(n.Kids[1], shapes.Empty)
		return with(n, condition, block), shapes.Empty
	}
	first, t := b.look(n.Kids[1], wanted)
	if t != shapes.Never { // otherwise what is wanted, if anything is, still helps
		wanted = t
	}
	second, other := b.look(n.Kids[2], wanted)
	if t == shapes.Never {
		t = other
	}
	return with(n, condition, first, second), t
}

// loop looks at the block of a loop, and answers how many EBreaks are of it.
func (b *body) loop(n api.Node) (api.Node, int) {
	b.loops = append(b.loops, 0)
	block, _ := b.look(n, shapes.Empty)
	last := len(b.loops) - 1
	breaks := b.loops[last]
	b.loops = b.loops[:last]
	return block, breaks
}

// leave is an EBreak or ENext, which must be of a loop.
func (b *body) leave(n api.Node) {
	if len(b.loops) == 0 {
		refuse(api.ErrOut, n.At)
	}
	if n.Kind == api.EBreak {
		b.loops[len(b.loops)-1]++
	}
}

func (b *body) giveBack(n api.Node) api.Node {
	if len(n.Kids) == 0 {
		if b.out != shapes.Empty {
			refuse(api.ErrType, n.At)
		}
		return n
	}
	kid, _ := b.value(n.Kids[0], b.out)
	return with(n, kid)
}

// block looks at the statements of a block, whose names are in sight up to its end.
func (b *body) block(n api.Node, wanted shapes.Type) (api.Node, shapes.Type) {
	names := len(b.names)
	var kids []api.Node
	t, goes := shapes.Empty, false
	for i, statement := range n.Kids {
		if n.N == 1 && i == len(n.Kids)-1 {
			statement, t = b.look(statement, wanted)
		} else {
			statement, _ = b.look(statement, shapes.None)
			goes = goes || goesElsewhere(statement)
		}
		kids = append(kids, statement)
	}
	b.names = b.names[:names]
	if goes {
		t = shapes.Never
	}
	return with(n, kids...), t
}

// goesElsewhere says whether nothing comes about behind a statement.
func goesElsewhere(statement api.Node) bool {
	if statement.Kind == api.ELet {
		return statement.M == 1 && statement.Kids[0].Type.Kind == api.TyNever
	}
	return statement.Type.Kind == api.TyNever
}

func (b *body) let(n api.Node) api.Node {
	if n.N == 0 {
		refuse(api.ErrGuess, n.At)
	}
	t, kids := shapes.None, n.Kids
	if n.N&1 != 0 {
		t, kids = b.written(kids[0], false), kids[1:]
	}
	out := api.Node{Kind: api.ELet, At: n.At, Name: n.Name}
	if len(kids) > 0 {
		value, own := b.value(kids[0], t)
		t = own
		out.M, out.Kids = 1, []api.Node{value}
	}
	out.N = b.variable(n.Name, n.M == 1, t)
	return out
}
