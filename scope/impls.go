package scope

import (
	"slices"

	"holdfast/api"
)

// implFns are the functions of an impl.
func implFns(n api.Node) []api.Node {
	return n.Kids[2:]
}

// makeImpl makes an impl and its functions.
func (b *builder) makeImpl(o other) {
	n := o.node
	s := b.declare(o.mod, n.Kids[0])
	impl := api.ImplDef{Mod: o.mod, At: n.At}
	_, impl.Gens = s.bounds(n.Kids[0], func(_ string, at int) int { return noLife(at) })
	impl.Trait = s.implTrait(n)
	s.unwritten = s.newLife
	impl.Self = s.typeOf(n.Kids[1])
	impl.Lives = s.count
	if !standsOnce(impl) {
		refuse(api.ErrImpl, n.At)
	}
	if impl.Trait == api.TrDrop {
		b.makeDrop(impl, o.fn)
	}
	methods := b.program.Traits[impl.Trait].Methods
	if len(implFns(n)) != len(methods) {
		refuse(api.ErrCount, n.At)
	}
	s.self = &impl.Self
	for i, fn := range implFns(n) {
		impl.Fns = append(impl.Fns, o.fn+i)
		b.program.Fns[o.fn+i] = s.implFn(fn, impl, methods[i])
		b.program.Fns[o.fn+i].Impl = o.impl
	}
	b.program.Impls[o.impl] = impl
}

// implTrait answers the trait of an impl.
func (s *sight) implTrait(n api.Node) int {
	item := s.found(n.Name, n.At)
	if item.Sort != api.SortTrait {
		refuse(api.ErrSort, n.At)
	}
	switch item.N {
	case api.TrCopy, api.TrSend, api.TrSync:
		refuse(api.ErrImpl, n.At)
	}
	return item.N
}

// standsOnce says whether in the type of an impl each type parameter stands once, and no lifetime twice or `'static`.
func standsOnce(impl api.ImplDef) bool {
	params, lives := paramsOf(impl.Self), livesOf(impl.Self)
	return len(params) == len(impl.Gens) && !anyTwice(params) && !anyTwice(lives) && !slices.Contains(lives, -1)
}

func anyTwice(numbers []int) bool {
	sorted := slices.Sorted(slices.Values(numbers))
	return len(slices.Compact(sorted)) < len(numbers)
}

// makeDrop makes the function of an impl of Drop the one that its data type drops by, if it has none.
func (b *builder) makeDrop(impl api.ImplDef, fn int) {
	if !b.mayDrop(impl) {
		refuse(api.ErrImpl, impl.At)
	}
	if data := &b.program.Datas[impl.Self.N]; data.Drop < 0 {
		data.Drop = fn
	}
}

// mayDrop says whether the type of an impl of Drop is a data type with whatever parameters it may have.
func (b *builder) mayDrop(impl api.ImplDef) bool {
	self := impl.Self
	if self.Kind != api.TyData || self.N == 0 || b.program.Datas[self.N].Copy {
		return false
	}
	if len(self.Args) != len(impl.Gens) || len(self.Lives) != impl.Lives {
		return false
	}
	for i, arg := range self.Args {
		if arg.Kind != api.TyParam || arg.N != i || len(impl.Gens[i].Traits) > 0 {
			return false
		}
	}
	for i, life := range self.Lives {
		if life != i+1 {
			return false
		}
	}
	return true
}

// implFn makes a function of an impl, which must be as the trait's method says.
func (s *sight) implFn(n api.Node, impl api.ImplDef, method api.Method) api.FnDef {
	if n.Name != method.Name {
		refuse(api.ErrImpl, n.At)
	}
	s.count = impl.Lives
	fn := s.fn(n)
	fn.Sig.Gens = copiedGens(impl.Gens)
	if !isMethod(fn.Sig, impl, method.Sig) {
		refuse(api.ErrImpl, n.At)
	}
	return fn
}

// isMethod says whether a signature is that of a method with the impl's type in the place of Self.
func isMethod(sig api.Sig, impl api.ImplDef, method api.Sig) bool {
	if len(sig.Ins) != len(method.Ins) {
		return false
	}
	got, want := append(slices.Clone(sig.Ins), sig.Out), append(slices.Clone(method.Ins), method.Out)
	for i := range want {
		if !alike(got[i], Subst(counted(want[i], impl.Lives), []api.Type{impl.Self})) {
			return false
		}
	}
	return true
}
