package scope

import (
	"slices"

	"holdfast/api"
)

// dataHead is a data type without its parts.
func dataHead(mod int, n api.Node) api.DataDef {
	d := api.DataDef{Name: n.Name, Mod: mod, At: n.At, Pub: isPub(n), Copy: n.M&2 != 0, Enum: n.N == 1, Drop: -1}
	for _, gen := range n.Kids[0].Kids {
		if gen.Kind == api.GLife {
			d.Lives++
		} else {
			d.Gens++
		}
	}
	return d
}

func (b *builder) makeDatas() {
	for i, n := range b.datas {
		data := &b.program.Datas[i+1] // number 0 is std's
		s := b.declare(data.Mod, n.Kids[0])
		s.unwritten = noLife
		for _, variant := range n.Kids[1:] {
			if slices.ContainsFunc(data.Cases, func(c api.Case) bool { return c.Name == variant.Name }) {
				refuse(api.ErrTwice, variant.At)
			}
			data.Cases = append(data.Cases, api.Case{Name: variant.Name, Parts: s.parts(variant, data.Enum)})
		}
	}
}

func (s *sight) parts(variant api.Node, enum bool) []api.Part {
	var parts []api.Part
	for _, field := range variant.Kids {
		if !enum && slices.ContainsFunc(parts, func(p api.Part) bool { return p.Name == field.Name }) {
			refuse(api.ErrTwice, field.At)
		}
		parts = append(parts, api.Part{Name: field.Name, Pub: enum || isPub(field), Type: s.typeOf(field.Kids[0])})
	}
	return parts
}

// checkSizes refuses a data type that would hold a value of itself.
func (b *builder) checkSizes() {
	for n, data := range b.program.Datas {
		if b.holdsItself(n) {
			refuse(api.ErrSize, data.At)
		}
	}
}

// holdsItself goes on from a data type to those that it holds, each of them once.
func (b *builder) holdsItself(number int) bool {
	seen := make([]bool, len(b.program.Datas))
	next := b.heldBy(number)
	for len(next) > 0 {
		held := next[0]
		next = next[1:]
		if held == number {
			return true
		}
		if !seen[held] {
			seen[held] = true
			next = append(next, b.heldBy(held)...)
		}
	}
	return false
}

// heldBy are the data types that stand in the parts of a data type as values.
func (b *builder) heldBy(number int) []int {
	var held []int
	for _, c := range b.program.Datas[number].Cases {
		for _, part := range c.Parts {
			held = append(held, heldIn(part.Type)...)
		}
	}
	return held
}

// heldIn are the data types of which a value of a type holds values.
func heldIn(t api.Type) []int {
	var held []int
	switch t.Kind {
	case api.TyTuple:
	case api.TyData:
		held = append(held, t.N)
	case api.TyLib:
		if t.N != api.LyCell && t.N != api.LyRefCell && t.N != api.LyMutex {
			return nil
		}
	default:
		return nil
	}
	for _, arg := range t.Args {
		held = append(held, heldIn(arg)...)
	}
	return held
}

// checkCopies refuses a data type with `copy` that holds what cannot be copied.
func (b *builder) checkCopies() {
	for _, data := range b.program.Datas {
		if data.Copy && !b.partsCopied(data) {
			refuse(api.ErrCopy, data.At)
		}
	}
}

func (b *builder) partsCopied(data api.DataDef) bool {
	for _, c := range data.Cases {
		for _, part := range c.Parts {
			if !b.canCopy(part.Type) {
				return false
			}
		}
	}
	return true
}

func (b *builder) canCopy(t api.Type) bool {
	switch t.Kind {
	case api.TyInt, api.TyBool, api.TyParam, api.TyRef:
		return true
	case api.TyLib:
		return t.N == api.LySlice
	case api.TyTuple:
		return b.canCopyAll(t.Args)
	case api.TyData:
		return b.program.Datas[t.N].Copy && b.canCopyAll(t.Args)
	}
	return false
}

func (b *builder) canCopyAll(types []api.Type) bool {
	for _, t := range types {
		if !b.canCopy(t) {
			return false
		}
	}
	return true
}
