package check

import (
	"slices"

	"holdfast/api"
)

// expression looks at an expression, whatever type it turns out to have. Its typed node lacks its type as yet.
func (b *body) expression(n api.Node, wanted typ) (api.Node, typ) {
	switch n.Kind {
	case api.EInt:
		return n, number
	case api.EBool:
		return n, truth
	case api.ETuple:
		return b.tupleOf(n, wanted)
	case api.EPath:
		return b.path(n, wanted)
	case api.ECall:
		return b.call(n, wanted)
	case api.EField:
		return b.field(n)
	case api.EDeref:
		return b.deref(n)
	case api.ERef:
		return b.reference(n, wanted)
	case api.EUn, api.EBin, api.EAnd, api.EOr:
		return b.operation(n)
	case api.EAssign:
		return b.assign(n)
	case api.EMatch:
		return b.match(n, wanted)
	case api.EMake:
		return b.makeStruct(n, wanted)
	case api.EClosure, api.ESpawn:
		return b.closure(n)
	}
	return b.control(n, wanted)
}

// with is a node with these kids in the place of its own.
func with(n api.Node, kids ...api.Node) api.Node {
	n.Kids = kids
	return n
}

func (b *body) tupleOf(n api.Node, wanted typ) (api.Node, typ) {
	parts := slices.Repeat([]typ{none}, len(n.Kids))
	if s, ok := b.is(api.TyTuple, wanted); ok && len(s.args) == len(parts) {
		parts = s.args
	}
	kids, types := b.values(n.Kids, parts)
	return with(n, kids...), b.tuple(types)
}

func (b *body) field(n api.Node) (api.Node, typ) {
	kid, t := b.value(n.Kids[0], none)
	if n.Name == "" {
		return with(n, kid), b.tuplePart(n, kid, t)
	}
	part, of := b.structPart(n, kid, t)
	n.N = part
	return with(n, kid), of
}

func (b *body) tuplePart(n, kid api.Node, t typ) typ {
	s, ok := b.is(api.TyTuple, t)
	if !ok {
		refuse(api.ErrType, kid.At)
	}
	if n.N >= len(s.args) {
		refuse(api.ErrName, n.At)
	}
	return s.args[n.N]
}

func (b *body) structPart(n, kid api.Node, t typ) (int, typ) {
	s, ok := b.is(api.TyData, t)
	if !ok || b.datas[s.n].Enum {
		refuse(api.ErrType, kid.At)
	}
	data := b.datas[s.n]
	part := partNamed(data, n)
	b.mustSee(data, part, n.At)
	return part, b.put(b.of(data.Cases[0].Parts[part].Type), s.args)
}

// partNamed is which part of a struct has the name of a node.
func partNamed(data api.DataDef, n api.Node) int {
	part := slices.IndexFunc(data.Cases[0].Parts, func(part api.Part) bool { return part.Name == n.Name })
	if part < 0 {
		refuse(api.ErrName, n.At)
	}
	return part
}

// mustSee refuses a part of a struct that is not seen in the body's module.
func (b *body) mustSee(data api.DataDef, part, at int) {
	if !data.Cases[0].Parts[part].Pub && data.Mod != b.fn.Mod {
		refuse(api.ErrPrivate, at)
	}
}

func (b *body) deref(n api.Node) (api.Node, typ) {
	kid, t := b.value(n.Kids[0], none)
	s := b.shapes[t]
	switch {
	case s.kind == api.TyRef, s.kind == api.TyMut, s.kind == api.TyLib && s.n == api.LyBox:
		return with(n, kid), s.args[0]
	}
	refuse(api.ErrType, kid.At)
	return api.Node{}, none
}

func (b *body) reference(n api.Node, wanted typ) (api.Node, typ) {
	kind := api.TyRef
	if n.N == 1 {
		kind = api.TyMut
	}
	to := none
	if s, ok := b.is(kind, wanted); ok {
		to = s.args[0]
	}
	kid, t := b.value(n.Kids[0], to)
	return with(n, kid), b.shaped(kind, 0, t)
}

// operation looks at an expression with an operator.
func (b *body) operation(n api.Node) (api.Node, typ) {
	if n.Name == "==" || n.Name == "!=" {
		return b.equation(n)
	}
	of, gives := operands(n)
	wanted := slices.Repeat([]typ{of}, len(n.Kids))
	kids, _ := b.values(n.Kids, wanted)
	return with(n, kids...), gives
}

// operands says of what type the operands of an operator are, and of what type is what it gives.
func operands(n api.Node) (of, gives typ) {
	if n.Kind == api.EAnd || n.Kind == api.EOr {
		return truth, truth
	}
	switch n.Name {
	case "!":
		return truth, truth
	case "<", "<=", ">", ">=":
		return number, truth
	}
	return number, number
}

func (b *body) equation(n api.Node) (api.Node, typ) {
	first, t := b.value(n.Kids[0], none)
	if t != number && t != truth {
		refuse(api.ErrType, first.At)
	}
	second, _ := b.value(n.Kids[1], t)
	return with(n, first, second), truth
}

func (b *body) assign(n api.Node) (api.Node, typ) {
	place, t := b.look(n.Kids[0], none)
	if !isPlace(place) {
		refuse(api.ErrPlace, place.At)
	}
	value, _ := b.value(n.Kids[1], t)
	return with(n, place, value), empty
}

func isPlace(n api.Node) bool {
	switch n.Kind {
	case api.EVar, api.ECap, api.EDeref:
		return true
	case api.EField:
		return isPlace(n.Kids[0])
	}
	return false
}
