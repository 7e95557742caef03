package mono

import (
	"slices"

	"holdfast/api"
	"holdfast/scope"
	"holdfast/shapes"
)

// maker makes the instances of a program, one after the other.
type maker struct {
	shapes.Types
	program   api.Program
	numbers   roll // of instances
	instances []instance
	making    instance
	dropped   roll // data types, with types, that have a dropper
	drops     []api.Dropper
}

func newMaker(p api.Program) *maker {
	return &maker{Types: shapes.New(p.Datas), program: p, numbers: roll{}, dropped: roll{}}
}

// refuse says that there is too much of something in the function of which an instance is being made.
func (m *maker) refuse() {
	refuse(m.program.Fns[m.making.fn].At)
}

// all makes main's instance, and all that come up.
func (m *maker) all() api.Program {
	m.need(m.program.Main, nil)
	var fns []api.FnDef
	for len(fns) < len(m.instances) {
		m.making = m.instances[len(fns)]
		fns = append(fns, m.function(m.program.Fns[m.making.fn]))
	}
	datas := scope.Clone(api.Program{Datas: m.program.Datas}).Datas
	return api.Program{Datas: datas, Fns: fns, Drops: m.drops}
}

// function makes a function with the types of its instance. What is told of type parameters and lifetimes holds of it no more.
func (m *maker) function(f api.FnDef) api.FnDef {
	out := api.FnDef{Name: f.Name, At: f.At, Impl: -1, Kind: f.Kind, Clean: f.Clean}
	out.Sig.Ins = m.told(f.Sig.Ins)
	out.Sig.Out = m.Tell(m.made(f.Sig.Out))
	out.Env = m.told(f.Env)
	for _, v := range f.Vars {
		out.Vars = append(out.Vars, api.Local{Name: v.Name, Mut: v.Mut, Type: m.Tell(m.made(v.Type))})
	}
	for _, i := range f.Code {
		out.Code = append(out.Code, m.instr(i))
	}
	return out
}

// made puts the types of the instance in the place of type parameters.
func (m *maker) made(t api.Type) shapes.Type {
	out := m.Put(m.Of(t), m.making.types)
	if m.TooBig(out) {
		m.refuse()
	}
	return out
}

func (m *maker) madeAll(types []api.Type) []shapes.Type {
	var out []shapes.Type
	for _, t := range types {
		out = append(out, m.made(t))
	}
	return out
}

// told tells types that are made. Their lifetimes are 0.
func (m *maker) told(types []api.Type) []api.Type {
	return m.TellAll(m.madeAll(types))
}

// instr makes an instruction: what it needs gets the number of an instance.
func (m *maker) instr(i api.Instr) api.Instr {
	types := m.madeAll(i.Types)
	out := api.Instr{Op: i.Op, At: i.At, N: i.N, M: i.M, To: clonedPlace(i.To), From: clonedPlace(i.From), Args: clonedArgs(i.Args)}
	switch i.Op {
	case api.ICall, api.IClos, api.ISpawn:
		out.N = m.need(i.N, types)
	case api.IMethod:
		out.Op, out.N, out.M = api.ICall, m.needMethod(i.N, i.M, types[0]), 0
	case api.IMake:
		out.Types = m.TellAll(types)
		m.needDrop(i.N, types)
	case api.ILib:
		out.Types = m.TellAll(types)
	}
	return out
}

func clonedPlace(p api.Place) api.Place {
	return api.Place{Local: p.Local, Steps: slices.Clone(p.Steps)}
}

func clonedArgs(args []api.Oper) []api.Oper {
	out := slices.Clone(args)
	for n := range out {
		out[n].Place = clonedPlace(out[n].Place)
	}
	return out
}
