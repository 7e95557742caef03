package borrow

import (
	"slices"

	"holdfast/api"
	"holdfast/shapes"
	"holdfast/ways"
)

// static is the region of the static lifetime, in every function.
const static = 0

// kind is a type with regions: one for each lifetime in it, a thing's own ahead of those of its Args.
type kind struct {
	shape   shapes.Type
	regions []int
}

func (k kind) same(other kind) bool {
	return k.shape == other.shape && slices.Equal(k.regions, other.regions)
}

// kinds answers what types with regions are made of.
type kinds struct {
	*ways.Ways
	fixtures
	params int // the region of the first type parameter; those of the others follow
	known  map[shapes.Type]*outline
}

// outline is what types have in common that are the same but for their regions.
type outline struct {
	fixed  []bool // of each region whether it is at a fixed place
	params []int  // the regions of the type parameters in it
}

func (k *kinds) outline(t shapes.Type) *outline {
	if known, ok := k.known[t]; ok {
		return known
	}
	s, found := k.Shape(t), &outline{}
	if s.Kind == api.TyParam {
		found.params = []int{k.params + s.N}
	}
	for n := range k.Lives(s) {
		found.fixed = append(found.fixed, k.fixesLife(s.Kind, s.N, n))
	}
	for n, arg := range s.Args {
		inner := k.outline(arg)
		for _, fixed := range inner.fixed {
			found.fixed = append(found.fixed, fixed || k.fixesArg(s.Kind, s.N, n))
		}
		for _, param := range inner.params {
			if !slices.Contains(found.params, param) {
				found.params = append(found.params, param)
			}
		}
	}
	k.known[t] = found
	return found
}

// own are the regions of a type that do not stand in its Args.
func (k *kinds) own(of kind) []int {
	return of.regions[:k.Lives(k.Shape(of.shape))]
}

// all are all regions of a type, with those of the type parameters in it.
func (k *kinds) all(of kind) []int {
	return slices.Concat(of.regions, k.outline(of.shape).params)
}

// outer are all regions of a type, but for those of which it asks that they outlive another one of it.
func (k *kinds) outer(of kind) []int {
	s := k.Shape(of.shape)
	if s.Kind == api.TyParam {
		return k.all(of)
	}
	out := slices.Clone(k.own(of))
	if !lends(s) {
		for _, arg := range k.args(of) {
			out = append(out, k.outer(arg)...)
		}
	}
	return out
}

// lends says whether a type is of references, or of what stands for one: it asks that what is lent lasts.
func lends(s shapes.Shape) bool {
	return s.Kind == api.TyRef || s.Kind == api.TyMut || s.Kind == api.TyLib && s.N >= api.LySlice
}

// args are the Args of a type.
func (k *kinds) args(of kind) []kind {
	s := k.Shape(of.shape)
	rest := of.regions[k.Lives(s):]
	var out []kind
	for _, arg := range s.Args {
		many := len(k.outline(arg).fixed)
		out = append(out, kind{arg, rest[:many]})
		rest = rest[many:]
	}
	return out
}

// fill is a type that is told, with regions in the place of lifetimes, and types in the place of type parameters.
func (k *kinds) fill(told api.Type, lives []int, types []kind) kind {
	if told.Kind == api.TyParam {
		return types[told.N]
	}
	var regions []int
	for _, life := range told.Lives {
		regions = append(regions, regionOf(life, lives))
	}
	var args []shapes.Type
	for _, arg := range told.Args {
		filled := k.fill(arg, lives, types)
		args = append(args, filled.shape)
		regions = append(regions, filled.regions...)
	}
	return kind{k.Shaped(told.Kind, told.N, args...), regions}
}

// regionOf is the region of a lifetime, where those from 1 on are told.
func regionOf(life int, lives []int) int {
	if life == -1 {
		return static
	}
	return lives[life-1]
}

// part is the type of a part of a data type.
func (k *kinds) part(of kind, told api.Part) kind {
	return k.fill(told.Type, k.own(of), k.args(of))
}

// step is the type of what a step leads to.
func (k *kinds) step(from kind, step api.Step) kind {
	s := k.Shape(from.shape)
	switch {
	case step.Kind == api.StepDeref:
		return k.args(from)[0]
	case s.Kind == api.TyTuple:
		return k.args(from)[step.N]
	case step.Kind == api.StepCase:
		return k.part(from, k.Datas[s.N].Cases[step.N].Parts[step.M])
	}
	return k.part(from, k.Datas[s.N].Cases[0].Parts[step.N])
}

// ask says of regions what a type asks for.
func (k *kinds) ask(r *regions, of kind) {
	args := k.args(of)
	if lends(k.Shape(of.shape)) {
		for _, long := range k.outer(args[0]) {
			r.outlive(long, of.regions[0])
		}
	}
	for _, arg := range args {
		k.ask(r, arg)
	}
}
