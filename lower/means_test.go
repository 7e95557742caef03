package lower

import (
	"slices"

	"holdfast/api"
	"holdfast/traits"
)

// meaning is a call of a function, of which the typed body is gone through: what it does is what its code has to do.
type meaning struct {
	*world
	f    api.FnDef
	vars []*cell
	env  *cell // what has been captured
	open []int // the variables that have not ended
}

// These are thrown by what goes elsewhere.
type (
	breaks  struct{}
	nexts   struct{}
	returns struct{ v any }
)

// mean calls a function by its body, and says whether it has returned.
func (w *world) mean(fn int, args []any) (v any, ok bool) {
	m := &meaning{world: w, f: w.p.Fns[fn]}
	m.vars = make([]*cell, len(m.f.Vars))
	for i, arg := range args {
		m.vars[i] = &cell{arg}
		m.open = append(m.open, i)
	}
	if m.f.Kind != api.FnPlain {
		m.env = m.vars[0]
		if m.f.Kind == api.FnFn || m.f.Kind == api.FnMut {
			m.env = args[0].(leads).to
		}
	}
	defer func() {
		switch thrown := recover().(type) {
		case nil:
			m.endTo(0)
		case returns:
			v, ok = thrown.v, true
			m.endTo(0)
		case stop:
			if thrown.why != "panic" {
				panic(thrown)
			}
			v, ok = nil, false
		default:
			panic(thrown)
		}
	}()
	return m.value(m.f.Body), true
}

// endTo ends all variables but the first so many open ones, the last one first.
func (m *meaning) endTo(open int) {
	for _, n := range slices.Backward(m.open[open:]) {
		m.end(m.f.Vars[n].Name, m.vars[n])
	}
	m.open = m.open[:open]
}

// begin gives a variable a cell.
func (m *meaning) begin(n int) *cell {
	m.vars[n] = &cell{}
	m.open = append(m.open, n)
	return m.vars[n]
}

func (m *meaning) place(n api.Node) *cell {
	switch n.Kind {
	case api.EVar:
		return m.vars[n.N]
	case api.ECap:
		return m.env.v.(many).parts[n.N]
	case api.EField:
		return m.place(n.Kids[0]).v.(many).parts[n.N]
	case api.EDeref:
		return m.place(n.Kids[0]).v.(leads).to
	}
	return &cell{m.value(n)}
}

// taken is what stands in a cell. It stays there if it can be copied.
func (m *meaning) taken(c *cell, t api.Type) any {
	v := fresh(c.v)
	if !traits.Has(m.p, m.f.Sig.Gens, api.TrCopy, t) {
		c.v = nil
	}
	return v
}

func (m *meaning) values(nodes []api.Node) []any {
	var out []any
	for _, n := range nodes {
		out = append(out, m.value(n))
	}
	return out
}

// called is what a call gives, if it does not panic.
func called(v any, ok bool) any {
	if !ok {
		panic(stop{"panic"})
	}
	return v
}

func (m *meaning) value(n api.Node) any {
	switch n.Kind {
	case api.EInt:
		return n.N
	case api.EBool:
		return n.N == 1
	case api.EVar, api.ECap, api.EField, api.EDeref:
		return m.taken(m.place(n), n.Type)
	case api.ERef:
		return leads{m.place(n.Kids[0])}
	case api.EUn:
		return reckon(map[string]int{"-": api.ONeg, "!": api.ONot}[n.Name], m.value(n.Kids[0]), nil)
	case api.EBin:
		signs := map[string]int{"+": api.OAdd, "-": api.OSub, "*": api.OMul, "/": api.ODiv, "%": api.ORem, "==": api.OEq, "!=": api.ONe, "<": api.OLt, "<=": api.OLe, ">": api.OGt, ">=": api.OGe}
		kids := m.values(n.Kids)
		return reckon(signs[n.Name], kids[0], kids[1])
	case api.EAnd:
		return m.value(n.Kids[0]).(bool) && m.value(n.Kids[1]).(bool)
	case api.EOr:
		return m.value(n.Kids[0]).(bool) || m.value(n.Kids[1]).(bool)
	case api.ETuple:
		return manyOf(0, m.values(n.Kids)...)
	case api.ECase:
		return manyOf(n.M, m.values(n.Kids)...)
	case api.EMake:
		made := many{parts: make([]*cell, len(n.Kids))}
		for _, init := range n.Kids {
			made.parts[init.N] = &cell{m.value(init.Kids[0])}
		}
		return made
	case api.EFn:
		return called(m.mean(n.N, m.values(n.Kids)))
	case api.EMethod:
		return called(m.mean(m.method(n.N, n.M, n.Args[0]), m.values(n.Kids)))
	case api.ELib:
		return m.lib(n.N, m.values(n.Kids))
	case api.EClosure:
		return shut{n.N, &cell{m.captured(n)}}
	case api.ESpawn:
		v, ok := m.mean(n.N, []any{m.captured(n)})
		return ended{v, ok}
	case api.EInvoke:
		return m.invoke(n)
	}
	return m.control(n)
}

func (m *meaning) captured(n api.Node) many {
	var parts []any
	for _, capture := range n.Kids {
		if capture.N == 0 {
			parts = append(parts, m.value(capture.Kids[0]))
		} else {
			parts = append(parts, leads{m.place(capture.Kids[0])})
		}
	}
	return manyOf(0, parts...)
}

func (m *meaning) invoke(n api.Node) any {
	closure := m.place(n.Kids[0]).v.(shut)
	var self any = leads{closure.env}
	if n.N == api.FnOnce {
		self = closure.env.v
	}
	return called(m.mean(closure.fn, append([]any{self}, m.values(n.Kids[1:])...)))
}

func (m *meaning) control(n api.Node) any {
	switch n.Kind {
	case api.EAssign:
		v := m.value(n.Kids[1])
		m.place(n.Kids[0]).v = v
	case api.EIf:
		if m.value(n.Kids[0]).(bool) {
			return m.value(n.Kids[1])
		}
		if len(n.Kids) == 3 {
			return m.value(n.Kids[2])
		}
	case api.EWhile:
		for m.value(n.Kids[0]).(bool) && m.turn(n.Kids[1]) {
		}
	case api.ELoop:
		for m.turn(n.Kids[0]) {
		}
	case api.EBreak:
		panic(breaks{})
	case api.ENext:
		panic(nexts{})
	case api.EReturn:
		if len(n.Kids) == 1 {
			panic(returns{m.value(n.Kids[0])})
		}
		panic(returns{many{}})
	case api.EPanic:
		panic(stop{"panic"})
	case api.EBlock:
		return m.block(n)
	case api.EMatch:
		return m.match(n)
	}
	return many{}
}

// turn goes through the block of a loop once, and says whether the loop goes on.
func (m *meaning) turn(block api.Node) (on bool) {
	open := len(m.open)
	defer func() {
		switch thrown := recover().(type) {
		case nil:
		case breaks:
			m.endTo(open)
			on = false
		case nexts:
			m.endTo(open)
			on = true
		default:
			panic(thrown)
		}
	}()
	m.value(block)
	return true
}

func (m *meaning) block(n api.Node) any {
	open := len(m.open)
	var last any = many{}
	for _, statement := range n.Kids {
		if statement.Kind != api.ELet {
			last = m.value(statement)
			continue
		}
		c := m.begin(statement.N)
		for _, value := range statement.Kids {
			c.v = m.value(value)
		}
	}
	m.endTo(open)
	if n.N == 0 {
		return many{}
	}
	return last
}

func (m *meaning) match(n api.Node) any {
	c := m.place(n.Kids[0])
	for _, arm := range n.Kids[1:] {
		if !takes(arm.Kids[0], c) {
			continue
		}
		open := len(m.open)
		m.bind(arm.Kids[0], c)
		v := m.value(arm.Kids[1])
		m.endTo(open)
		return v
	}
	panic(stop{"no arm takes a value"})
}

func takes(pattern api.Node, c *cell) bool {
	switch pattern.Kind {
	case api.PInt:
		return c.v == pattern.N
	case api.PBool:
		return c.v == (pattern.N == 1)
	case api.PCase:
		if c.v.(many).tag != pattern.M {
			return false
		}
	}
	for i, kid := range pattern.Kids {
		if !takes(kid, c.v.(many).parts[i]) {
			return false
		}
	}
	return true
}

func (m *meaning) bind(pattern api.Node, c *cell) {
	if pattern.Kind == api.PBind {
		if pattern.M == 0 {
			m.begin(pattern.N).v = m.taken(c, pattern.Type)
		} else {
			m.begin(pattern.N).v = leads{c}
		}
	}
	for i, kid := range pattern.Kids {
		m.bind(kid, c.v.(many).parts[i])
	}
}
