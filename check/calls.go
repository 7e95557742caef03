package check

import (
	"slices"

	"holdfast/api"
	"holdfast/shapes"
)

// callee is what a path says that can be called: the kind of its node, its numbers, its signature.
type callee struct {
	kind, n, m int
	sig        api.Sig
}

func (b *body) path(n api.Node, wanted shapes.Type) (api.Node, shapes.Type) {
	if known, ok := b.seen(n.Name); ok {
		if len(n.Kids) > 0 {
			refuse(api.ErrCount, n.At)
		}
		return b.named(n.At, known)
	}
	c := b.callee(n)
	if c.kind != api.ECase {
		refuse(api.ErrSort, n.At)
	}
	return b.fill(n.At, c, n.Kids, nil, wanted)
}

func (b *body) call(n api.Node, wanted shapes.Type) (api.Node, shapes.Type) {
	called := n.Kids[0]
	if _, ok := b.seen(called.Name); called.Kind == api.EPath && !ok {
		return b.fill(n.At, b.callee(called), called.Kids, n.Kids[1:], wanted)
	}
	closure, t := b.value(called, shapes.None)
	s, ok := b.Is(api.TyFn, t)
	if !ok {
		refuse(api.ErrType, closure.At)
	}
	takes := len(s.Args) - 1
	if len(n.Kids)-1 != takes {
		refuse(api.ErrCount, n.At)
	}
	kids, _ := b.values(n.Kids[1:], s.Args[:takes])
	out := api.Node{Kind: api.EInvoke, At: n.At, N: s.N}
	return with(out, append([]api.Node{closure}, kids...)...), s.Args[takes]
}

// callee answers what a path says, if it can be called.
func (b *body) callee(n api.Node) callee {
	item, behind := b.found(n)
	alone := behind == ""
	switch {
	case item.Sort == api.SortFn && alone:
		return callee{kind: api.EFn, n: item.N, sig: b.given.Fns[item.N].Sig}
	case item.Sort == api.SortLib && alone:
		return callee{kind: api.ELib, n: item.N, sig: api.StdSig(item.N)}
	case item.Sort == api.SortTrait && item.N >= api.TrFirst && !alone:
		return b.method(item.N, behind, n.At)
	case item.Sort == api.SortData && b.Datas[item.N].Enum && !alone:
		variant := variantNamed(b.Datas[item.N], behind, n.At)
		return callee{kind: api.ECase, n: item.N, m: variant, sig: CaseSig(b.Datas[item.N], item.N, variant)}
	}
	refuse(api.ErrSort, n.At)
	return callee{}
}

// method is a function of a trait.
func (b *body) method(trait int, called string, at int) callee {
	methods := b.given.Traits[trait].Methods
	m := slices.IndexFunc(methods, func(m api.Method) bool { return m.Name == called })
	if m < 0 {
		refuse(api.ErrName, at)
	}
	return callee{kind: api.EMethod, n: trait, m: m, sig: MethodSig(trait, methods[m])}
}

// MethodSig is the signature of a trait's method, as it is called: Self must have the trait.
func MethodSig(trait int, m api.Method) api.Sig {
	sig := m.Sig
	sig.Gens = []api.Gen{{Traits: []int{trait}}}
	return sig
}

func variantNamed(data api.DataDef, called string, at int) int {
	variant := slices.IndexFunc(data.Cases, func(c api.Case) bool { return c.Name == called })
	if variant < 0 {
		refuse(api.ErrName, at)
	}
	return variant
}

// CaseSig is a variant, or a struct, as a signature that takes its parts.
func CaseSig(data api.DataDef, number, variant int) api.Sig {
	sig := api.Sig{Lives: data.Lives, Gens: make([]api.Gen, data.Gens), Out: api.Type{Kind: api.TyData, N: number}}
	for n := range data.Lives {
		sig.Out.Lives = append(sig.Out.Lives, n+1)
	}
	for n := range data.Gens {
		sig.Out.Args = append(sig.Out.Args, api.Type{Kind: api.TyParam, N: n})
	}
	for _, part := range data.Cases[variant].Parts {
		sig.Ins = append(sig.Ins, part.Type)
	}
	return sig
}

// fill looks at a call of what a path has said, with the types that are written and the values that it is given.
func (b *body) fill(at int, c callee, written, values []api.Node, wanted shapes.Type) (api.Node, shapes.Type) {
	f := b.newFilling(at, c.sig, written, wanted)
	if len(values) != len(f.ins) {
		refuse(api.ErrCount, at)
	}
	out := api.Node{Kind: c.kind, At: at, N: c.n, M: c.m}
	for i, value := range values {
		out.Kids = append(out.Kids, f.value(value, i))
	}
	return f.done(out)
}

func (b *body) makeStruct(n api.Node, wanted shapes.Type) (api.Node, shapes.Type) {
	item, behind := b.found(n)
	if behind != "" || item.Sort != api.SortData || b.Datas[item.N].Enum {
		refuse(api.ErrSort, n.At)
	}
	data := b.Datas[item.N]
	f := b.newFilling(n.At, CaseSig(data, item.N, 0), n.Kids[:n.M], wanted)
	out := api.Node{Kind: api.EMake, At: n.At, N: item.N}
	given := make([]bool, len(f.ins))
	for _, init := range n.Kids[n.M:] {
		part := partNamed(data, init)
		if given[part] {
			refuse(api.ErrTwice, init.At)
		}
		given[part] = true
		b.mustSee(data, part, init.At)
		value := f.value(init.Kids[0], part)
		out.Kids = append(out.Kids, api.Node{Kind: api.EInit, At: init.At, N: part, Kids: []api.Node{value}})
	}
	if len(out.Kids) != len(given) {
		refuse(api.ErrCount, n.At)
	}
	return f.done(out)
}
