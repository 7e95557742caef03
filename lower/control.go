package lower

import "holdfast/api"

// control makes an expression that says where to go on, or a statement.
func (m *maker) control(n api.Node, to int) {
	switch n.Kind {
	case api.EAssign:
		m.assign(n, to)
	case api.EIf:
		m.choice(n, to)
	case api.EWhile:
		held := m.temporary(n.Kids[0].Type)
		top := len(m.Code)
		m.loop(n, top, m.condition(n.Kids[0], held))
		m.empty(to, n.At)
	case api.ELoop:
		m.loop(n, len(m.Code))
		m.empty(to, n.At)
	case api.EBreak, api.ENext:
		m.leaveLoop(n)
	case api.EReturn:
		m.giveBack(n)
	case api.EPanic:
		m.emit(api.Instr{Op: api.IPanic, At: n.At})
	case api.EBlock:
		m.block(n, to)
	case api.EMatch:
		m.match(n, to)
	}
}

// empty makes the empty tuple.
func (m *maker) empty(to, where int) {
	if to != nowhere {
		m.emit(api.Instr{Op: api.ITuple, At: where, To: at(to)})
	}
}

func (m *maker) assign(n api.Node, to int) {
	value := m.operand(n.Kids[1])
	i := api.Instr{Op: api.IUse, At: n.At, To: m.place(n.Kids[0]), Args: []api.Oper{value}}
	if Owns(m.program, m.Sig.Gens, n.Kids[0].Type) {
		i.Op = api.IPut
	}
	m.emit(i)
	m.empty(to, n.At)
}

// condition makes a condition into its temporary, and the jump that is taken if it is false.
func (m *maker) condition(n api.Node, held int) int {
	open := len(m.open)
	m.into(n, held)
	m.end(open, n.At)
	return m.unless(held, n.At)
}

func (m *maker) choice(n api.Node, to int) {
	no := m.condition(n.Kids[0], m.temporary(n.Kids[0].Type))
	if len(n.Kids) == 2 {
		m.into(n.Kids[1], nowhere)
		m.land(no)
		m.empty(to, n.At)
		return
	}
	m.into(n.Kids[1], to)
	done := m.jump(n.At)
	m.land(no)
	m.into(n.Kids[2], to)
	m.land(done)
}

// loop makes the block of a loop, which is its last kid; the jumps are those that lead out of it already.
func (m *maker) loop(n api.Node, top int, ways ...int) {
	around := len(m.loops)
	m.loops = append(m.loops, loop{top: top, open: len(m.open), ways: ways})
	m.into(n.Kids[len(n.Kids)-1], nowhere)
	m.emit(api.Instr{Op: api.IJump, At: n.At, N: top})
	ways = m.loops[around].ways
	m.loops = m.loops[:around]
	m.land(ways...)
}

// leaveLoop makes an EBreak or ENext of the innermost loop.
func (m *maker) leaveLoop(n api.Node) {
	inner := &m.loops[len(m.loops)-1]
	m.leave(inner.open, n.At)
	if n.Kind == api.ENext {
		m.emit(api.Instr{Op: api.IJump, At: n.At, N: inner.top})
		return
	}
	inner.ways = append(inner.ways, m.jump(n.At))
}

func (m *maker) giveBack(n api.Node) {
	open := len(m.open)
	if len(n.Kids) == 1 {
		m.into(n.Kids[0], 0)
	} else {
		m.empty(0, n.At)
	}
	m.leave(0, n.At)
	m.emit(api.Instr{Op: api.IRet, At: n.At})
	m.open = m.open[:open]
}

func (m *maker) block(n api.Node, to int) {
	open := len(m.open)
	for i, statement := range n.Kids {
		switch {
		case statement.Kind == api.ELet:
			m.let(statement)
		case n.N == 1 && i == len(n.Kids)-1:
			m.statement(statement, to)
		default:
			m.statement(statement, nowhere)
		}
	}
	if n.N == 0 {
		m.empty(to, n.At)
	}
	m.end(open, n.At)
}

// statement makes a statement, and ends what it has opened.
func (m *maker) statement(n api.Node, to int) {
	open := len(m.open)
	m.into(n, to)
	m.end(open, n.At)
}

// let opens a variable, which stays open, and makes its value, if it has one.
func (m *maker) let(n api.Node) {
	variable := m.variable(n.N)
	open := len(m.open)
	for _, value := range n.Kids {
		m.into(value, variable)
	}
	m.end(open, n.At)
}
