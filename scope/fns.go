package scope

import (
	"slices"

	"holdfast/api"
)

// makeTraits gives the text's traits their methods.
func (b *builder) makeTraits() {
	for i, n := range b.traits {
		trait := &b.program.Traits[api.TrFirst+i]
		for _, fn := range n.Kids {
			if slices.ContainsFunc(trait.Methods, func(m api.Method) bool { return m.Name == fn.Name }) {
				refuse(api.ErrTwice, fn.At)
			}
			trait.Methods = append(trait.Methods, b.method(trait.Mod, fn))
		}
	}
}

// method makes a function of a trait, of which Self is the one type parameter.
func (b *builder) method(mod int, n api.Node) api.Method {
	s := b.declare(mod, n.Kids[0])
	s.self = &api.Type{Kind: api.TyParam}
	vars, out := s.paramsAndResult(n)
	if len(vars) == 0 || vars[0].Name != "self" || !isOrLeadsToSelf(vars[0].Type) {
		refuse(api.ErrImpl, n.At)
	}
	return api.Method{Name: n.Name, Sig: api.Sig{Lives: s.count, Gens: make([]api.Gen, 1), Ins: typesOfVars(vars), Out: out}}
}

func isOrLeadsToSelf(t api.Type) bool {
	if t.Kind == api.TyRef || t.Kind == api.TyMut {
		t = t.Args[0]
	}
	return t.Kind == api.TyParam
}

// makeFnsAndImpls makes the text's functions and impls, which stand in one order.
func (b *builder) makeFnsAndImpls() {
	for _, o := range b.others {
		if o.node.Kind == api.Fn {
			b.program.Fns[o.fn] = b.function(o)
		} else {
			b.makeImpl(o)
		}
	}
}

func (b *builder) function(o other) api.FnDef {
	n := o.node
	s := b.declare(o.mod, n.Kids[0])
	outs, gens := s.bounds(n.Kids[0], s.writtenLife)
	fn := s.fn(n)
	fn.Pub, fn.Impl = isPub(n), -1
	fn.Sig.Outs, fn.Sig.Gens = outs, gens
	return fn
}

// bounds makes what is asked of the lifetimes and type parameters of a Gens. life answers the number of a lifetime that is a bound.
func (s *sight) bounds(gens api.Node, life func(name string, at int) int) ([]api.Out, []api.Gen) {
	var outs []api.Out
	var out []api.Gen
	for i, declared := range gens.Kids {
		gen := api.Gen{}
		for _, bound := range declared.Kids {
			switch {
			case bound.Kind != api.YLife:
				gen.Traits = append(gen.Traits, s.boundTrait(bound))
			case declared.Kind == api.GLife: // these stand ahead of all types: i counts them alone
				outs = append(outs, api.Out{Long: i + 1, Short: life(bound.Name, bound.At)})
			default:
				gen.Lives = append(gen.Lives, life(bound.Name, bound.At))
			}
		}
		if declared.Kind == api.GType {
			out = append(out, gen)
		}
	}
	return outs, out
}

func (s *sight) boundTrait(bound api.Node) int {
	item := s.found(bound.Name, bound.At)
	if item.Sort != api.SortTrait || item.N == api.TrDrop {
		refuse(api.ErrSort, bound.At)
	}
	return item.N
}

// fn makes a function, but for what is told of it elsewhere than in its parameters, its result and its block.
func (s *sight) fn(n api.Node) api.FnDef {
	vars, out := s.paramsAndResult(n)
	return api.FnDef{
		Name:  n.Name,
		Mod:   s.mod,
		At:    n.At,
		Kind:  api.FnPlain,
		Types: slices.Clone(s.types),
		Sig:   api.Sig{Lives: s.count, Ins: typesOfVars(vars), Out: out},
		Vars:  vars,
		Body:  copiedNode(n.Kids[n.N+2]),
	}
}

// paramsAndResult makes the parameters of a function, and the type of its result.
func (s *sight) paramsAndResult(n api.Node) ([]api.Local, api.Type) {
	s.unwritten = s.newLife
	var vars []api.Local
	for _, param := range n.Kids[1 : n.N+1] {
		if slices.ContainsFunc(vars, func(v api.Local) bool { return v.Name == param.Name }) {
			refuse(api.ErrTwice, param.At)
		}
		vars = append(vars, api.Local{Name: param.Name, Mut: param.M == 1, Type: s.typeOf(param.Kids[0])})
	}
	s.unwritten = oneLife(lifeOfResult(vars))
	return vars, s.typeOf(n.Kids[n.N+1])
}

// lifeOfResult is the lifetime of a function's result where none is written, or 0 if the parameters do not tell it.
func lifeOfResult(params []api.Local) int {
	if len(params) > 0 && params[0].Name == "self" {
		if self := params[0].Type; self.Kind == api.TyRef || self.Kind == api.TyMut {
			return self.Lives[0]
		}
	}
	only := 0
	for _, param := range params {
		for _, life := range livesOf(param.Type) {
			if life > 0 && only > 0 && life != only {
				return 0
			}
			only = max(only, life)
		}
	}
	return only
}

// typesOfVars are the types of variables, in memory of their own.
func typesOfVars(vars []api.Local) []api.Type {
	var types []api.Type
	for _, v := range vars {
		types = append(types, copied(v.Type))
	}
	return types
}
