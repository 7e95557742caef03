package lower

import (
	"slices"

	"holdfast/api"
	"holdfast/scope"
)

// nowhere is the local of a value that goes nowhere, and the number of a jump that cannot come about.
const nowhere = -1

// maker makes the code of a function. Of the function that it has embedded, Vars, Code and Clean are those that are being made.
type maker struct {
	api.FnDef
	program   api.Program
	variables []api.Local // those of the body
	locals    []int       // of each variable, which local it is
	open      []int       // the locals that have not ended
	loops     []loop      // those around
	lost      bool        // nothing comes about here, till a jump leads here
}

// loop is a loop: where it begins anew, how many locals were open ahead of it, the jumps that lead out of it.
type loop struct {
	top, open int
	ways      []int
}

// codeOf answers a function with the code of its body.
func codeOf(p api.Program, f api.FnDef, body api.Node) api.FnDef {
	m := &maker{FnDef: f, program: p, variables: f.Vars, locals: make([]int, len(f.Vars))}
	m.Vars = []api.Local{{Mut: true, Type: scope.Subst(f.Sig.Out, nil)}}
	for i := range m.Sig.Ins {
		m.variable(i)
	}
	m.into(body, 0)
	m.end(0, m.At)
	m.emit(api.Instr{Op: api.IRet, At: m.At})
	m.clean()
	return m.FnDef
}

// clean makes what a panic leads to.
func (m *maker) clean() {
	m.lost = false
	m.Clean = len(m.Code)
	for n := range slices.Backward(m.Vars) {
		m.emit(api.Instr{Op: api.IEnd, At: m.At, N: n})
	}
	m.emit(api.Instr{Op: api.IResume, At: m.At})
}

// emit adds an instruction, if it can come about, and answers its number. Code that is too long already is refused anyway: it does not grow on.
func (m *maker) emit(i api.Instr) int {
	if m.lost || len(m.Code) > api.MaxCode {
		return nowhere
	}
	m.lost = i.Op == api.IJump || i.Op == api.IRet || i.Op == api.IPanic
	m.Code = append(m.Code, owned(i))
	return len(m.Code) - 1
}

// owned is an instruction in memory of its own.
func owned(i api.Instr) api.Instr {
	i.To.Steps, i.From.Steps = slices.Clone(i.To.Steps), slices.Clone(i.From.Steps)
	i.Args, i.Types = slices.Clone(i.Args), slices.Clone(i.Types)
	for k := range i.Args {
		i.Args[k].Place.Steps = slices.Clone(i.Args[k].Place.Steps)
	}
	for k := range i.Types {
		i.Types[k] = scope.Subst(i.Types[k], nil)
	}
	return i
}

// jump adds a jump whose end is told later.
func (m *maker) jump(where int) int {
	return m.emit(api.Instr{Op: api.IJump, At: where})
}

// unless adds a jump that is taken if what a local has is false.
func (m *maker) unless(condition, where int) int {
	return m.emit(api.Instr{Op: api.IIf, At: where, Args: []api.Oper{moved(condition)}})
}

// land lets jumps lead to here.
func (m *maker) land(jumps ...int) {
	for _, jump := range jumps {
		if jump != nowhere {
			m.Code[jump].N = len(m.Code)
			m.lost = false
		}
	}
}

// local makes a local, if it can come about, and opens it.
func (m *maker) local(made api.Local) int {
	if m.lost {
		return nowhere
	}
	made.Type = scope.Subst(made.Type, nil)
	m.Vars = append(m.Vars, made)
	n := len(m.Vars) - 1
	m.open = append(m.open, n)
	return n
}

// variable makes the local of a variable.
func (m *maker) variable(n int) int {
	m.locals[n] = m.local(m.variables[n])
	return m.locals[n]
}

// temporary makes a local for what an expression of a type gives.
func (m *maker) temporary(t api.Type) int {
	if t.Kind == api.TyNever {
		t = api.Type{Kind: api.TyTuple}
	}
	return m.local(api.Local{Mut: true, Type: t})
}

// end ends all locals but the first so many open ones.
func (m *maker) end(open, where int) {
	m.leave(open, where)
	m.open = m.open[:open]
}

// leave ends the same locals on a way that leads elsewhere: here they stay open.
func (m *maker) leave(open, where int) {
	for _, n := range slices.Backward(m.open[open:]) {
		m.emit(api.Instr{Op: api.IEnd, At: where, N: n})
	}
}
