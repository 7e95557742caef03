package lower

import (
	"slices"

	"holdfast/api"
)

// into makes an expression whose value goes into a local, or nowhere.
func (m *maker) into(n api.Node, to int) {
	switch n.Kind {
	case api.EAssign, api.EIf, api.EWhile, api.ELoop, api.EBreak, api.ENext, api.EReturn, api.EPanic, api.EBlock, api.EMatch:
		m.control(n, to)
		return
	}
	if to == nowhere {
		to = m.temporary(n.Type)
	}
	m.value(n, to)
}

// value makes an expression that has to go into a local.
func (m *maker) value(n api.Node, to int) {
	switch n.Kind {
	case api.EInt, api.EBool:
		m.use(m.operand(n), to, n.At)
	case api.EVar, api.ECap, api.EField, api.EDeref:
		m.use(m.taken(m.place(n), n.Type), to, n.At)
	case api.ERef:
		m.refer(n.N == 1, m.place(n.Kids[0]), to, n.At)
	case api.EAnd, api.EOr:
		m.both(n, to)
	default:
		i := m.call(n)
		i.At, i.To = n.At, at(to)
		m.emit(i)
	}
}

func (m *maker) use(what api.Oper, to, where int) {
	m.emit(api.Instr{Op: api.IUse, At: where, To: at(to), Args: []api.Oper{what}})
}

// refer makes a reference to a place, or a mut one.
func (m *maker) refer(mut bool, from api.Place, to, where int) {
	op := api.IRef
	if mut {
		op = api.IMut
	}
	m.emit(api.Instr{Op: op, At: where, To: at(to), From: from})
}

// both makes an EAnd or EOr: its second kid comes about only if the first one does not tell all.
func (m *maker) both(n api.Node, to int) {
	no := m.unless(m.held(n.Kids[0]), n.At)
	told := func(truth int) { m.use(api.Oper{Kind: api.OpBool, N: truth}, to, n.At) }
	if n.Kind == api.EAnd {
		m.into(n.Kids[1], to)
	} else {
		told(1)
	}
	done := m.jump(n.At)
	m.land(no)
	if n.Kind == api.EAnd {
		told(0)
	} else {
		m.into(n.Kids[1], to)
	}
	m.land(done)
}

// call makes the operands of an expression, and answers the instruction that they are for, which lacks its place and where it leads to.
func (m *maker) call(n api.Node) api.Instr {
	switch n.Kind {
	case api.EClosure:
		return api.Instr{Op: api.IClos, N: n.N, Args: m.captures(n.Kids), Types: m.params()}
	case api.ESpawn:
		return api.Instr{Op: api.ISpawn, N: n.N, Args: m.captures(n.Kids), Types: m.params()}
	case api.EInvoke:
		called := m.called(n)
		return api.Instr{Op: api.IInvoke, N: n.N, Args: append([]api.Oper{called}, m.operands(n.Kids[1:])...)}
	case api.EMake:
		return api.Instr{Op: api.IMake, N: n.N, Args: m.parts(n.Kids), Types: n.Args}
	case api.EUn, api.EBin:
		return operation(n, m.operands(n.Kids))
	case api.EFn, api.ELib, api.EMethod, api.ECase:
		return api.Instr{Op: callOf(n.Kind), N: n.N, M: n.M, Args: m.operands(n.Kids), Types: n.Args}
	}
	return api.Instr{Op: api.ITuple, Args: m.operands(n.Kids)}
}

// callOf is the instruction of a callee's node.
func callOf(kind int) int {
	switch kind {
	case api.EFn:
		return api.ICall
	case api.ELib:
		return api.ILib
	case api.EMethod:
		return api.IMethod
	}
	return api.IMake
}

func operation(n api.Node, args []api.Oper) api.Instr {
	if n.Kind == api.EBin {
		signs := []string{"+", "-", "*", "/", "%", "==", "!=", "<", "<=", ">", ">="}
		return api.Instr{Op: api.IBin, N: api.OAdd + slices.Index(signs, n.Name), Args: args}
	}
	if n.Name == "-" {
		return api.Instr{Op: api.IUn, N: api.ONeg, Args: args}
	}
	return api.Instr{Op: api.IUn, N: api.ONot, Args: args}
}

// params are the function's type parameters.
func (m *maker) params() []api.Type {
	var out []api.Type
	for n := range m.Sig.Gens {
		out = append(out, api.Type{Kind: api.TyParam, N: n})
	}
	return out
}

func (m *maker) captures(captures []api.Node) []api.Oper {
	var out []api.Oper
	for _, capture := range captures {
		kid := capture.Kids[0]
		if capture.N == 0 {
			out = append(out, m.operand(kid))
		} else {
			out = append(out, m.lent(capture.N == 2, m.place(kid), capture.Type, capture.At))
		}
	}
	return out
}

// lent is a reference to a place, in a new temporary of its type.
func (m *maker) lent(mut bool, from api.Place, t api.Type, where int) api.Oper {
	held := m.temporary(t)
	m.refer(mut, from, held, where)
	return moved(held)
}

// called is the closure of an EInvoke: itself, if it is called once, otherwise a reference to it.
func (m *maker) called(n api.Node) api.Oper {
	closure := n.Kids[0]
	if n.N == api.FnOnce {
		return m.operand(closure)
	}
	ref := api.Type{Kind: api.TyRef, Lives: []int{0}, Args: []api.Type{closure.Type}}
	if n.N == api.FnMut {
		ref.Kind = api.TyMut
	}
	return m.lent(n.N == api.FnMut, m.place(closure), ref, closure.At)
}

// parts are the operands of EInits, which are made in their order, but stand in that of the parts.
func (m *maker) parts(inits []api.Node) []api.Oper {
	out := make([]api.Oper, len(inits))
	for _, init := range inits {
		out[init.N] = m.operand(init.Kids[0])
	}
	return out
}
