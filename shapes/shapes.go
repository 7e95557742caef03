// Package shapes: types by numbers, lifetimes aside, for layers that hold many types against one another.
package shapes

import (
	"slices"
	"strconv"

	"holdfast/api"
)

// Type is a type, lifetimes aside, by its number: two types are the same if their numbers are. So a type of which much stands in it again and again takes no more room, and no longer to be held against another, than one in which it stands once.
type Type int

// These have the numbers that New gives them.
const (
	None Type = iota - 1 // where there is no type
	Never
	Int
	Bool
	Empty // the empty tuple
)

// Shape is what a type is made of. Of its parts no more than one more than MaxParts are counted.
type Shape struct {
	Kind, N int
	Args    []Type
	parts   int
}

// Types are those that have come up.
type Types struct {
	Datas   []api.DataDef
	shapes  []Shape
	numbers map[string]Type // by their shapes' texts
}

// New begins with the types of which this package has constants.
func New(datas []api.DataDef) Types {
	t := Types{Datas: datas, numbers: map[string]Type{}}
	t.Shaped(api.TyNever, 0)
	t.Shaped(api.TyInt, 0)
	t.Shaped(api.TyBool, 0)
	t.Shaped(api.TyTuple, 0)
	return t
}

// Shaped answers the type with this kind, number and Args.
func (t *Types) Shaped(kind, n int, args ...Type) Type {
	text := []byte(strconv.Itoa(kind) + " " + strconv.Itoa(n))
	parts := 1
	for _, arg := range args {
		text = strconv.AppendInt(append(text, ' '), int64(arg), 10)
		parts = min(parts+t.shapes[arg].parts, api.MaxParts+1)
	}
	if known, ok := t.numbers[string(text)]; ok {
		return known
	}
	made := Type(len(t.shapes))
	t.numbers[string(text)] = made
	t.shapes = append(t.shapes, Shape{Kind: kind, N: n, Args: slices.Clone(args), parts: parts})
	return made
}

// Tuple is the tuple of types.
func (t *Types) Tuple(args []Type) Type {
	return t.Shaped(api.TyTuple, 0, args...)
}

// Ref is a reference to a type, or a mut one.
func (t *Types) Ref(mut bool, to Type) Type {
	if mut {
		return t.Shaped(api.TyMut, 0, to)
	}
	return t.Shaped(api.TyRef, 0, to)
}

// Of answers a type without its lifetimes.
func (t *Types) Of(told api.Type) Type {
	return t.Shaped(told.Kind, told.N, t.OfAll(told.Args)...)
}

// OfAll answers types without their lifetimes.
func (t *Types) OfAll(told []api.Type) []Type {
	var out []Type
	for _, one := range told {
		out = append(out, t.Of(one))
	}
	return out
}

// Tell answers a type with lifetimes that are 0.
func (t *Types) Tell(known Type) api.Type {
	s := t.shapes[known]
	out := api.Type{Kind: s.Kind, N: s.N}
	if lives := t.Lives(s); lives > 0 {
		out.Lives = make([]int, lives)
	}
	out.Args = t.TellAll(s.Args)
	return out
}

// TellAll answers types with lifetimes that are 0.
func (t *Types) TellAll(known []Type) []api.Type {
	var out []api.Type
	for _, one := range known {
		out = append(out, t.Tell(one))
	}
	return out
}

// Lives is how many lifetimes a type has, those of its Args aside.
func (t *Types) Lives(s Shape) int {
	switch {
	case s.Kind == api.TyRef, s.Kind == api.TyMut, s.Kind == api.TyFn, s.Kind == api.TyLib && s.N >= api.LySlice:
		return 1
	case s.Kind == api.TyData:
		return t.Datas[s.N].Lives
	}
	return 0
}

// TooBig says whether a type has more than MaxParts parts. There may be no end to telling such a one.
func (t *Types) TooBig(known Type) bool {
	return t.shapes[known].parts > api.MaxParts
}

// Shape answers what a type is made of.
func (t *Types) Shape(known Type) Shape {
	return t.shapes[known]
}

// Is answers what a type is made of, if it is of a kind.
func (t *Types) Is(kind int, known Type) (Shape, bool) {
	if known == None {
		return Shape{}, false
	}
	s := t.shapes[known]
	return s, s.Kind == kind
}

// Put puts types in the place of type parameters.
func (t *Types) Put(into Type, with []Type) Type {
	s := t.shapes[into]
	if s.Kind == api.TyParam {
		return with[s.N]
	}
	if len(s.Args) == 0 {
		return into
	}
	return t.Shaped(s.Kind, s.N, t.PutAll(s.Args, with)...)
}

// PutAll puts types in the place of the type parameters of several.
func (t *Types) PutAll(into []Type, with []Type) []Type {
	var out []Type
	for _, one := range into {
		out = append(out, t.Put(one, with))
	}
	return out
}
