package mono

import (
	"slices"

	"holdfast/api"
	"holdfast/graph"
	"holdfast/scope"
	"holdfast/traits"
)

// need is an instance, as the oracle knows it.
type need struct {
	fn    int
	types []api.Type
}

// oracle makes instances slowly: types are trees, and what has come up is looked through from the beginning.
type oracle struct {
	p     api.Program
	needs []need
	out   api.Program
	many  bool // there is too much of something in the function that is made
}

func sameTypes(a, b []api.Type) bool {
	return slices.EqualFunc(a, b, scope.Same)
}

func (o *oracle) number(fn int, types []api.Type) int {
	for n, known := range o.needs {
		if known.fn == fn && sameTypes(known.types, types) {
			return n
		}
	}
	o.needs = append(o.needs, need{fn, types})
	o.many = o.many || len(o.needs) > api.MaxInstances
	return len(o.needs) - 1
}

// bared takes the lifetimes from a type.
func bared(t api.Type) api.Type {
	out := api.Type{Kind: t.Kind, N: t.N, Lives: make([]int, len(t.Lives))}
	for _, arg := range t.Args {
		out.Args = append(out.Args, bared(arg))
	}
	return out
}

func partsOf(t api.Type) int {
	parts := 1
	for _, arg := range t.Args {
		parts += partsOf(arg)
	}
	return parts
}

func (o *oracle) types(in need, types ...api.Type) []api.Type {
	var out []api.Type
	for _, t := range types {
		t = bared(scope.Subst(t, in.types))
		o.many = o.many || partsOf(t) > api.MaxParts
		out = append(out, t)
	}
	return out
}

func (o *oracle) instr(in need, i api.Instr) api.Instr {
	types := o.types(in, i.Types...)
	i.Types = nil
	if o.many {
		return i
	}
	switch i.Op {
	case api.ICall, api.IClos, api.ISpawn:
		i.N = o.number(i.N, types)
	case api.IMethod:
		impl, with, ok := traits.Find(o.p, nil, i.N, types[0])
		if !ok {
			o.many = true
			return i
		}
		i.Op, i.N, i.M = api.ICall, o.number(o.p.Impls[impl].Fns[i.M], with), 0
	case api.ILib:
		i.Types = types
	case api.IMake:
		i.Types = types
		drop := o.p.Datas[i.N].Drop
		if drop >= 0 && !slices.ContainsFunc(o.out.Drops, func(d api.Dropper) bool { return d.Data == i.N && sameTypes(d.Types, types) }) {
			o.out.Drops = append(o.out.Drops, api.Dropper{Data: i.N, Types: types, Fn: o.number(drop, types)})
		}
	}
	return i
}

func (o *oracle) function(in need) api.FnDef {
	f := o.p.Fns[in.fn]
	out := api.FnDef{Name: f.Name, At: f.At, Impl: -1, Kind: f.Kind, Clean: f.Clean}
	out.Sig.Ins, out.Sig.Out, out.Env = o.types(in, f.Sig.Ins...), o.types(in, f.Sig.Out)[0], o.types(in, f.Env...)
	for _, v := range f.Vars {
		v.Type = o.types(in, v.Type)[0]
		out.Vars = append(out.Vars, v)
	}
	for _, i := range f.Code {
		if o.many {
			break
		}
		out.Code = append(out.Code, o.instr(in, i))
	}
	return out
}

// slow is what Mono must answer.
func slow(p api.Program) (api.Program, api.Fault) {
	o := oracle{p: p, out: api.Program{Datas: p.Datas}}
	o.number(p.Main, nil)
	for n := 0; n < len(o.needs); n++ {
		f := o.function(o.needs[n])
		if o.many {
			return api.Program{}, api.Fault{Kind: api.ErrMany, At: f.At}
		}
		o.out.Fns = append(o.out.Fns, f)
	}
	for n, f := range o.out.Fns {
		if graph.Check(o.out, n) != -1 {
			return api.Program{}, api.Fault{Kind: api.ErrMany, At: f.At}
		}
	}
	return o.out, api.Fault{}
}
