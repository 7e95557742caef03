package lower

import (
	"slices"

	"holdfast/api"
	"holdfast/shapes"
	"holdfast/traits"
)

// Owns says whether a value of a type may own something, so that there is something to be done when it is dropped.
func Owns(p api.Program, gens []api.Gen, t api.Type) (owns bool) {
	defer func() {
		if recover() != nil { // a data type that the program has not
			owns = false
		}
	}()
	if traits.TooBig(t) { // there may be no end to it
		return true
	}
	types := shapes.New(p.Datas)
	return NewOwner(p, gens, &types).Owns(types.Of(t))
}

// Owner answers the same of types by their numbers, and keeps what it has answered: later layers ask it of the types of all locals.
type Owner struct {
	types   *shapes.Types
	program api.Program
	gens    []api.Gen
	known   map[shapes.Type]owner
}

// owner says whether a value of a type may own something.
type owner struct {
	yes bool
}

// NewOwner asks of types of a function that has these type parameters.
func NewOwner(p api.Program, gens []api.Gen, types *shapes.Types) *Owner {
	return &Owner{types: types, program: p, gens: gens, known: map[shapes.Type]owner{}}
}

// Owns says whether a value of a type may own something.
func (o *Owner) Owns(t shapes.Type) bool {
	known, ok := o.known[t]
	if !ok {
		known = owner{o.leadsToOwner(t)}
		o.known[t] = known
	}
	return known.yes
}

// leadsToOwner goes through all types that a type leads to, itself first, each of them once.
func (o *Owner) leadsToOwner(t shapes.Type) bool {
	found := []shapes.Type{t}
	for k := 0; k < len(found); k++ {
		if o.types.TooBig(found[k]) || o.ownsItself(o.types.Shape(found[k])) {
			return true
		}
		for _, lead := range o.holds(o.types.Shape(found[k])) {
			if !slices.Contains(found, lead) {
				found = append(found, lead)
			}
			if len(found) > api.MaxAsk {
				return true
			}
		}
	}
	return false
}

func (o *Owner) ownsItself(s shapes.Shape) bool {
	switch s.Kind {
	case api.TyParam:
		return !traits.Has(o.program, o.gens, api.TrCopy, api.Type{Kind: api.TyParam, N: s.N})
	case api.TyFn:
		return true
	case api.TyLib:
		return s.N != api.LySlice && s.N != api.LySliceMut
	case api.TyData:
		return o.program.Datas[s.N].Drop >= 0
	}
	return false
}

// holds are the types of what stands in a value of a type.
func (o *Owner) holds(s shapes.Shape) []shapes.Type {
	switch s.Kind {
	case api.TyTuple:
		return s.Args
	case api.TyData:
		return o.types.Parts(s)
	}
	return nil
}
