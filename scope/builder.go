package scope

import (
	"strings"

	"holdfast/api"
)

// refused is what is thrown at the first fault of a program.
type refused struct {
	fault api.Fault
}

func refuse(kind api.Errno, at int) {
	panic(refused{api.Fault{Kind: kind, At: at}})
}

// builder makes the program of a tree, step by step. Its nodes are those that the program's data types, traits, functions and impls come from.
type builder struct {
	program api.Program
	std     map[string]api.Named

	datas, traits []api.Node
	others        []other
}

// other is a function or an impl of the text: its module, and the number that it, or its first function, has among the functions; of an impl its number too.
type other struct {
	node          api.Node
	mod, fn, impl int
}

func newBuilder() *builder {
	b := &builder{std: stdNames()}
	b.program.Datas = []api.DataDef{api.StdOption()}
	for n := range api.TrFirst {
		b.program.Traits = append(b.program.Traits, stdTrait(n))
	}
	return b
}

func stdTrait(n int) api.TraitDef {
	trait := api.TraitDef{Name: api.StdTrait(n), Mod: -1, Pub: true}
	if n == api.TrDrop {
		self := api.Type{Kind: api.TyMut, Lives: []int{1}, Args: []api.Type{{Kind: api.TyParam}}}
		sig := api.Sig{Lives: 1, Gens: make([]api.Gen, 1), Ins: []api.Type{self}, Out: api.Type{Kind: api.TyTuple}}
		trait.Methods = []api.Method{{Name: "drop", Sig: sig}}
	}
	return trait
}

// nameAll gives the modules and items of a tree their names and numbers.
func (b *builder) nameAll(tree api.Node) {
	for mod, n := range tree.Kids {
		if n.Name == "std" || moduleNamed(b.program.Mods, n.Name) >= 0 {
			refuse(api.ErrTwice, n.At)
		}
		b.program.Mods = append(b.program.Mods, api.Module{Name: n.Name})
		for _, item := range n.Kids {
			b.number(mod, item)
		}
		b.program.Mods[mod].Own = len(b.program.Mods[mod].Names)
	}
}

// number gives an item its number, and those that it has within it theirs.
func (b *builder) number(mod int, n api.Node) {
	p := &b.program
	switch n.Kind {
	case api.Data:
		b.name(mod, n, api.SortData, len(p.Datas))
		p.Datas = append(p.Datas, dataHead(mod, n))
		b.datas = append(b.datas, n)
	case api.Trait:
		b.name(mod, n, api.SortTrait, len(p.Traits))
		p.Traits = append(p.Traits, api.TraitDef{Name: n.Name, Mod: mod, At: n.At, Pub: isPub(n)})
		b.traits = append(b.traits, n)
	case api.Fn:
		b.name(mod, n, api.SortFn, len(p.Fns))
		b.others = append(b.others, other{node: n, mod: mod, fn: len(p.Fns)})
		p.Fns = append(p.Fns, api.FnDef{})
	case api.Impl:
		b.others = append(b.others, other{node: n, mod: mod, fn: len(p.Fns), impl: len(p.Impls)})
		p.Impls = append(p.Impls, api.ImplDef{})
		p.Fns = append(p.Fns, make([]api.FnDef, len(implFns(n)))...)
	}
}

// name makes an item's name one that its module has.
func (b *builder) name(mod int, n api.Node, sort, number int) {
	m := &b.program.Mods[mod]
	if _, ok := named(m.Names, n.Name); ok {
		refuse(api.ErrTwice, n.At)
	}
	m.Names = append(m.Names, api.Named{Name: n.Name, Sort: sort, N: number, Pub: isPub(n)})
}

func isPub(n api.Node) bool {
	return n.M&1 != 0
}

// useAll brings into the modules what they use.
func (b *builder) useAll(tree api.Node) {
	for mod, n := range tree.Kids {
		for _, item := range n.Kids {
			if item.Kind == api.Use {
				b.use(mod, item)
			}
		}
	}
}

func (b *builder) use(mod int, n api.Node) {
	from, name, _ := strings.Cut(n.Name, "::")
	item, wrong := b.lookup().itemOf(mod, from, name)
	if wrong != api.OK {
		refuse(wrong, n.At)
	}
	m := &b.program.Mods[mod]
	if _, ok := named(m.Names, name); ok {
		refuse(api.ErrTwice, n.At)
	}
	item.Pub = false
	m.Names = append(m.Names, item)
}

func (b *builder) lookup() lookup {
	return lookup{mods: b.program.Mods, std: b.std}
}

// findMain looks for the function that a program begins with.
func (b *builder) findMain() {
	if mod := moduleNamed(b.program.Mods, "main"); mod >= 0 {
		item, ok := named(ownNames(b.program.Mods[mod]), "main")
		if ok && item.Sort == api.SortFn && beginsProgram(b.program.Fns[item.N].Sig) {
			b.program.Main = item.N
			return
		}
	}
	refuse(api.ErrMain, 0)
}

func beginsProgram(s api.Sig) bool {
	return s.Lives == 0 && len(s.Gens) == 0 && len(s.Ins) == 1 && s.Ins[0].Kind == api.TyInt && s.Out.Kind == api.TyInt
}
