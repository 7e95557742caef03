package cover

import (
	"holdfast/api"
	"holdfast/scope"
)

// value is a value that is written out: what it is (a number, a bool, a variant), and its parts.
type value struct {
	n    int
	kids []value
}

// tooMany is a number of values that the slow way does not go through.
const tooMany = 4000

// oracle writes out all values of a type, of int those numbers that some pattern may have, and one that none has.
type oracle struct {
	program api.Program
	numbers []int
}

// all answers the values of a type, or that they are too many.
func (o oracle) all(t api.Type) ([]value, bool) {
	switch {
	case sizeOf(t) > api.MaxParts:
	case t.Kind == api.TyInt:
		var out []value
		for _, n := range o.numbers {
			out = append(out, value{n: n})
		}
		return out, true
	case t.Kind == api.TyBool:
		return []value{{n: 0}, {n: 1}}, true
	case t.Kind == api.TyTuple:
		return o.filled(0, t.Args)
	case t.Kind == api.TyData && o.program.Datas[t.N].Enum:
		return o.variants(t)
	}
	return []value{{}}, true
}

func sizeOf(t api.Type) int {
	size := 1
	for _, arg := range t.Args {
		size += sizeOf(arg)
	}
	return size
}

func (o oracle) variants(t api.Type) ([]value, bool) {
	var out []value
	for m, c := range o.program.Datas[t.N].Cases {
		var types []api.Type
		for _, part := range c.Parts {
			types = append(types, scope.Subst(part.Type, t.Args))
		}
		more, ok := o.filled(m, types)
		out = append(out, more...)
		if !ok || len(out) > tooMany {
			return nil, false
		}
	}
	return out, true
}

// filled answers a value for each way to fill its parts.
func (o oracle) filled(n int, types []api.Type) ([]value, bool) {
	out := []value{{n: n}}
	for _, t := range types {
		kids, ok := o.all(t)
		if !ok || len(out)*len(kids) > tooMany {
			return nil, false
		}
		var longer []value
		for _, v := range out {
			for _, kid := range kids {
				longer = append(longer, value{n, append(append([]value{}, v.kids...), kid)})
			}
		}
		out = longer
	}
	return out, true
}

// takes says whether a pattern takes a value.
func takes(p api.Pat, v value) bool {
	switch p.Kind {
	case api.PAny:
		return true
	case api.PInt, api.PBool:
		return p.N == v.n
	case api.PCase:
		if p.M != v.n {
			return false
		}
	}
	for i, kid := range p.Kids {
		if !takes(kid, v.kids[i]) {
			return false
		}
	}
	return true
}

// slowArms answers what Arms must: each value is handed to the first pattern that takes it.
func slowArms(values []value, pats []api.Pat) ([]int, bool) {
	busy := make([]bool, len(pats))
	all := true
	for _, v := range values {
		first := 0
		for first < len(pats) && !takes(pats[first], v) {
			first++
		}
		if first < len(pats) {
			busy[first] = true
		} else {
			all = false
		}
	}
	var idle []int
	for i := range pats {
		if !busy[i] {
			idle = append(idle, i)
		}
	}
	return idle, all
}

func slowMeet(values []value, a, b api.Pat) bool {
	for _, v := range values {
		if takes(a, v) && takes(b, v) {
			return true
		}
	}
	return false
}
