package lower

import (
	"slices"

	"holdfast/api"
	"holdfast/traits"
)

// at is a local as a place.
func at(local int) api.Place {
	return api.Place{Local: local}
}

// step is a place one step further on.
func step(p api.Place, s api.Step) api.Place {
	return api.Place{Local: p.Local, Steps: append(slices.Clone(p.Steps), s)}
}

func field(p api.Place, n int) api.Place {
	return step(p, api.Step{Kind: api.StepField, N: n})
}

func deref(p api.Place) api.Place {
	return step(p, api.Step{Kind: api.StepDeref})
}

// moved is all that a local has.
func moved(local int) api.Oper {
	return api.Oper{Kind: api.OpMove, Place: at(local)}
}

// taken is what is taken from a place.
func (m *maker) taken(from api.Place, t api.Type) api.Oper {
	if traits.Has(m.program, m.Sig.Gens, api.TrCopy, t) {
		return api.Oper{Kind: api.OpCopy, Place: from}
	}
	return api.Oper{Kind: api.OpMove, Place: from}
}

// place is the place of an expression. One that is no place gets a temporary.
func (m *maker) place(n api.Node) api.Place {
	switch n.Kind {
	case api.EVar:
		return at(m.locals[n.N])
	case api.ECap:
		return field(m.captured(), n.N)
	case api.EField:
		return field(m.place(n.Kids[0]), n.N)
	case api.EDeref:
		return deref(m.place(n.Kids[0]))
	}
	return at(m.held(n))
}

// captured is where a closure's function finds what has been captured.
func (m *maker) captured() api.Place {
	if m.Kind == api.FnFn || m.Kind == api.FnMut {
		return deref(at(1))
	}
	return at(1)
}

// held makes an expression into a new temporary.
func (m *maker) held(n api.Node) int {
	held := m.temporary(n.Type)
	m.into(n, held)
	return held
}

func (m *maker) operand(n api.Node) api.Oper {
	switch n.Kind {
	case api.EInt:
		return api.Oper{Kind: api.OpInt, N: n.N}
	case api.EBool:
		return api.Oper{Kind: api.OpBool, N: n.N}
	}
	return moved(m.held(n))
}

func (m *maker) operands(nodes []api.Node) []api.Oper {
	var out []api.Oper
	for _, n := range nodes {
		out = append(out, m.operand(n))
	}
	return out
}
