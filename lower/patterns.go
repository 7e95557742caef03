package lower

import "holdfast/api"

func (m *maker) match(n api.Node, to int) {
	matched := m.place(n.Kids[0])
	var failed, done []int
	for _, arm := range n.Kids[1:] {
		m.land(failed...)
		open := len(m.open)
		failed = m.tests(arm.Kids[0], matched)
		m.names(arm.Kids[0], matched)
		m.into(arm.Kids[1], to)
		m.end(open, arm.At)
		done = append(done, m.jump(arm.At))
	}
	m.land(failed...)
	m.emit(api.Instr{Op: api.IPanic, At: n.At})
	m.land(done...)
}

// tests makes the tests whether a pattern takes what stands at a place, and answers the jumps that are taken if it does not.
func (m *maker) tests(pattern api.Node, place api.Place) []int {
	var failed []int
	switch pattern.Kind {
	case api.PBool:
		failed = m.equal(pattern, api.Oper{Place: place, Kind: api.OpCopy}, api.Oper{Kind: api.OpBool, N: pattern.N})
	case api.PInt:
		failed = m.equal(pattern, api.Oper{Place: place, Kind: api.OpCopy}, api.Oper{Kind: api.OpInt, N: pattern.N})
	case api.PCase:
		tag := m.temporary(api.Type{Kind: api.TyInt})
		m.tag(place, tag, pattern.At)
		failed = m.equal(pattern, moved(tag), api.Oper{Kind: api.OpInt, N: pattern.M})
	}
	for i, kid := range pattern.Kids {
		failed = append(failed, m.tests(kid, part(pattern, place, i))...)
	}
	return failed
}

// tag makes the number of the variant that stands at a place.
func (m *maker) tag(from api.Place, to, where int) {
	m.emit(api.Instr{Op: api.ITag, At: where, To: at(to), From: from})
}

// equal makes a test whether two operands are equal.
func (m *maker) equal(pattern api.Node, a, b api.Oper) []int {
	held := m.temporary(api.Type{Kind: api.TyBool})
	m.emit(api.Instr{Op: api.IBin, At: pattern.At, N: api.OEq, To: at(held), Args: []api.Oper{a, b}})
	return []int{m.unless(held, pattern.At)}
}

// part is the place of what a kid of a pattern takes.
func part(pattern api.Node, place api.Place, n int) api.Place {
	if pattern.Kind == api.PCase {
		return step(place, api.Step{Kind: api.StepCase, N: pattern.M, M: n})
	}
	return field(place, n)
}

// names makes the locals of the names of a pattern.
func (m *maker) names(pattern api.Node, place api.Place) {
	if pattern.Kind == api.PBind {
		m.bind(pattern, place)
	}
	for i, kid := range pattern.Kids {
		m.names(kid, part(pattern, place, i))
	}
}

func (m *maker) bind(pattern api.Node, place api.Place) {
	to := m.variable(pattern.N)
	if pattern.M == 0 {
		m.use(m.taken(place, pattern.Type), to, pattern.At)
		return
	}
	m.refer(pattern.M == 2, place, to, pattern.At)
}
