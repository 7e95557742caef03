package check

import (
	"slices"

	"holdfast/api"
	"holdfast/shapes"
)

// expression looks at an expression, whatever type it turns out to have. Its typed node lacks its type as yet.
func (b *body) expression(n api.Node, wanted shapes.Type) (api.Node, shapes.Type) {
	switch n.Kind {
	case api.EInt:
		return n, shapes.Int
	case api.EBool:
		return n, shapes.Bool
	case api.ETuple:
		return b.tupleOf(n, wanted)
	case api.EPath:
		return b.path(n, wanted)
	case api.ECall:
		return b.call(n, wanted)
	case api.EField:
		return b.field(n)
	case api.EDeref:
		return b.deref(n)
	case api.ERef:
		return b.reference(n, wanted)
	case api.EUn, api.EBin, api.EAnd, api.EOr:
		return b.operation(n)
	case api.EAssign:
		return b.assign(n)
	case api.EMatch:
		return b.match(n, wanted)
	case api.EMake:
		return b.makeStruct(n, wanted)
	case api.EClosure, api.ESpawn:
		return b.closure(n)
	}
	return b.control(n, wanted)
}

// with is a node with these kids in the place of its own.
func with(n api.Node, kids ...api.Node) api.Node {
	n.Kids = kids
	return n
}

func (b *body) tupleOf(n api.Node, wanted shapes.Type) (api.Node, shapes.Type) {
	parts := slices.Repeat([]shapes.Type{shapes.None}, len(n.Kids))
	if s, ok := b.Is(api.TyTuple, wanted); ok && len(s.Args) == len(parts) {
		parts = s.Args
	}
	kids, types := b.values(n.Kids, parts)
	return with(n, kids...), b.Tuple(types)
}

func (b *body) field(n api.Node) (api.Node, shapes.Type) {
	kid, t := b.value(n.Kids[0], shapes.None)
	if n.Name == "" {
		return with(n, kid), b.tuplePart(n, kid, t)
	}
	part, of := b.structPart(n, kid, t)
	n.N = part
	return with(n, kid), of
}

func (b *body) tuplePart(n, kid api.Node, t shapes.Type) shapes.Type {
	s, ok := b.Is(api.TyTuple, t)
	if !ok {
		refuse(api.ErrType, kid.At)
	}
	if n.N >= len(s.Args) {
		refuse(api.ErrName, n.At)
	}
	return s.Args[n.N]
}

func (b *body) structPart(n, kid api.Node, t shapes.Type) (int, shapes.Type) {
	s, ok := b.Is(api.TyData, t)
	if !ok || b.Datas[s.N].Enum {
		refuse(api.ErrType, kid.At)
	}
	data := b.Datas[s.N]
	part := partNamed(data, n)
	b.mustSee(data, part, n.At)
	return part, b.Put(b.Of(data.Cases[0].Parts[part].Type), s.Args)
}

// partNamed is which part of a struct has the name of a node.
func partNamed(data api.DataDef, n api.Node) int {
	part := slices.IndexFunc(data.Cases[0].Parts, func(part api.Part) bool { return part.Name == n.Name })
	if part < 0 {
		refuse(api.ErrName, n.At)
	}
	return part
}

// mustSee refuses a part of a struct that is not seen in the body's module.
func (b *body) mustSee(data api.DataDef, part, at int) {
	if !data.Cases[0].Parts[part].Pub && data.Mod != b.fn.Mod {
		refuse(api.ErrPrivate, at)
	}
}

func (b *body) deref(n api.Node) (api.Node, shapes.Type) {
	kid, t := b.value(n.Kids[0], shapes.None)
	s := b.Shape(t)
	switch {
	case s.Kind == api.TyRef, s.Kind == api.TyMut, s.Kind == api.TyLib && s.N == api.LyBox:
		return with(n, kid), s.Args[0]
	}
	refuse(api.ErrType, kid.At)
	return api.Node{}, shapes.None
}

func (b *body) reference(n api.Node, wanted shapes.Type) (api.Node, shapes.Type) {
	kind := api.TyRef
	if n.N == 1 {
		kind = api.TyMut
	}
	to := shapes.None
	if s, ok := b.Is(kind, wanted); ok {
		to = s.Args[0]
	}
	kid, t := b.value(n.Kids[0], to)
	return with(n, kid), b.Shaped(kind, 0, t)
}

// operation looks at an expression with an operator.
func (b *body) operation(n api.Node) (api.Node, shapes.Type) {
	if n.Name == "==" || n.Name == "!=" {
		return b.equation(n)
	}
	of, gives := operands(n)
	wanted := slices.Repeat([]shapes.Type{of}, len(n.Kids))
	kids, _ := b.values(n.Kids, wanted)
	return with(n, kids...), gives
}

// operands says of what type the operands of an operator are, and of what type is what it gives.
func operands(n api.Node) (of, gives shapes.Type) {
	if n.Kind == api.EAnd || n.Kind == api.EOr {
		return shapes.Bool, shapes.Bool
	}
	switch n.Name {
	case "!":
		return shapes.Bool, shapes.Bool
	case "<", "<=", ">", ">=":
		return shapes.Int, shapes.Bool
	}
	return shapes.Int, shapes.Int
}

func (b *body) equation(n api.Node) (api.Node, shapes.Type) {
	first, t := b.value(n.Kids[0], shapes.None)
	if t != shapes.Int && t != shapes.Bool {
		refuse(api.ErrType, first.At)
	}
	second, _ := b.value(n.Kids[1], t)
	return with(n, first, second), shapes.Bool
}

func (b *body) assign(n api.Node) (api.Node, shapes.Type) {
	place, t := b.look(n.Kids[0], shapes.None)
	if !isPlace(place) {
		refuse(api.ErrPlace, place.At)
	}
	value, _ := b.value(n.Kids[1], t)
	return with(n, place, value), shapes.Empty
}

func isPlace(n api.Node) bool {
	switch n.Kind {
	case api.EVar, api.ECap, api.EDeref:
		return true
	case api.EField:
		return isPlace(n.Kids[0])
	}
	return false
}
