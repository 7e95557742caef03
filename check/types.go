package check

import (
	"slices"
	"strconv"

	"holdfast/api"
)

// typ is a type, lifetimes aside, by its number: two types are the same if their numbers are. So a type of which much stands in it again and again takes no more room, and no longer to be held against another, than one in which it stands once.
type typ int

// These have the numbers that newTypes gives them.
const (
	none typ = iota - 1 // where no type is wanted, or known
	never
	number
	truth
	empty // the empty tuple
)

// shape is what a type is made of. Of its parts no more than one more than MaxParts are counted.
type shape struct {
	kind, n int
	args    []typ
	parts   int
}

// types are those that have come up.
type types struct {
	datas   []api.DataDef
	shapes  []shape
	numbers map[string]typ // by their shapes' texts
}

func newTypes(datas []api.DataDef) types {
	t := types{datas: datas, numbers: map[string]typ{}}
	t.shaped(api.TyNever, 0)
	t.shaped(api.TyInt, 0)
	t.shaped(api.TyBool, 0)
	t.shaped(api.TyTuple, 0)
	return t
}

// shaped answers the type with this kind, number and Args.
func (t *types) shaped(kind, n int, args ...typ) typ {
	text := []byte(strconv.Itoa(kind) + " " + strconv.Itoa(n))
	parts := 1
	for _, arg := range args {
		text = strconv.AppendInt(append(text, ' '), int64(arg), 10)
		parts = min(parts+t.shapes[arg].parts, api.MaxParts+1)
	}
	if known, ok := t.numbers[string(text)]; ok {
		return known
	}
	made := typ(len(t.shapes))
	t.numbers[string(text)] = made
	t.shapes = append(t.shapes, shape{kind: kind, n: n, args: slices.Clone(args), parts: parts})
	return made
}

func (t *types) tuple(args []typ) typ {
	return t.shaped(api.TyTuple, 0, args...)
}

// ref is a reference to a type, or a mut one.
func (t *types) ref(mut bool, to typ) typ {
	if mut {
		return t.shaped(api.TyMut, 0, to)
	}
	return t.shaped(api.TyRef, 0, to)
}

// of answers a type without its lifetimes.
func (t *types) of(told api.Type) typ {
	return t.shaped(told.Kind, told.N, t.ofAll(told.Args)...)
}

func (t *types) ofAll(told []api.Type) []typ {
	var out []typ
	for _, one := range told {
		out = append(out, t.of(one))
	}
	return out
}

// tell answers a type with lifetimes that are 0.
func (t *types) tell(known typ) api.Type {
	s := t.shapes[known]
	out := api.Type{Kind: s.kind, N: s.n}
	if lives := t.livesOf(s); lives > 0 {
		out.Lives = make([]int, lives)
	}
	out.Args = t.tellAll(s.args)
	return out
}

func (t *types) tellAll(known []typ) []api.Type {
	var out []api.Type
	for _, one := range known {
		out = append(out, t.tell(one))
	}
	return out
}

// livesOf is how many lifetimes a type has, those of its Args aside.
func (t *types) livesOf(s shape) int {
	switch {
	case s.kind == api.TyRef, s.kind == api.TyMut, s.kind == api.TyFn, s.kind == api.TyLib && s.n >= api.LySlice:
		return 1
	case s.kind == api.TyData:
		return t.datas[s.n].Lives
	}
	return 0
}

func (t *types) tooBig(known typ) bool {
	return t.shapes[known].parts > api.MaxParts
}

// is answers what a type is made of, if it is of a kind.
func (t *types) is(kind int, known typ) (shape, bool) {
	if known == none {
		return shape{}, false
	}
	s := t.shapes[known]
	return s, s.kind == kind
}

// put puts types in the place of type parameters.
func (t *types) put(into typ, with []typ) typ {
	s := t.shapes[into]
	if s.kind == api.TyParam {
		return with[s.n]
	}
	if len(s.args) == 0 {
		return into
	}
	var args []typ
	for _, arg := range s.args {
		args = append(args, t.put(arg, with))
	}
	return t.shaped(s.kind, s.n, args...)
}
