package scope

import (
	"slices"

	"holdfast/api"
)

// Clone is a program in memory of its own, but for the bodies and the code of its functions: it has none, since each layer makes these anew.
func Clone(p api.Program) api.Program {
	return api.Program{
		Mods:   eachOf(p.Mods, clonedModule),
		Datas:  eachOf(p.Datas, clonedData),
		Traits: eachOf(p.Traits, clonedTrait),
		Impls:  eachOf(p.Impls, clonedImpl),
		Fns:    eachOf(p.Fns, clonedFn),
		Main:   p.Main,
	}
}

// eachOf is a list of what is made of each thing of a list.
func eachOf[T any](things []T, made func(T) T) []T {
	var out []T
	for _, thing := range things {
		out = append(out, made(thing))
	}
	return out
}

func clonedModule(m api.Module) api.Module {
	m.Names = slices.Clone(m.Names)
	return m
}

func clonedData(d api.DataDef) api.DataDef {
	d.Cases = eachOf(d.Cases, func(c api.Case) api.Case {
		c.Parts = eachOf(c.Parts, func(part api.Part) api.Part {
			part.Type = copied(part.Type)
			return part
		})
		return c
	})
	return d
}

func clonedTrait(t api.TraitDef) api.TraitDef {
	t.Methods = eachOf(t.Methods, func(m api.Method) api.Method {
		m.Sig = clonedSig(m.Sig)
		return m
	})
	return t
}

func clonedImpl(i api.ImplDef) api.ImplDef {
	i.Gens, i.Self, i.Fns = copiedGens(i.Gens), copied(i.Self), slices.Clone(i.Fns)
	return i
}

func clonedFn(f api.FnDef) api.FnDef {
	f.Types, f.Sig, f.Env = slices.Clone(f.Types), clonedSig(f.Sig), eachOf(f.Env, copied)
	f.Vars = eachOf(f.Vars, func(v api.Local) api.Local {
		v.Type = copied(v.Type)
		return v
	})
	f.Body, f.Code, f.Clean = api.Node{}, nil, 0
	return f
}

func clonedSig(s api.Sig) api.Sig {
	return api.Sig{Lives: s.Lives, Outs: slices.Clone(s.Outs), Gens: copiedGens(s.Gens), Ins: eachOf(s.Ins, copied), Out: copied(s.Out)}
}
