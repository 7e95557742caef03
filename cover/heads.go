package cover

import (
	"iter"

	"holdfast/api"
	"holdfast/scope"
)

// head is what is seen of a value without a look at its parts: the kind of the patterns that look at it, and which number, bool or variant it is.
type head struct {
	kind, n int
}

// headOf is the head of the values that a pattern takes. (PAny takes others too.)
func headOf(p api.Pat) head {
	switch p.Kind {
	case api.PTuple:
		return head{kind: p.Kind}
	case api.PCase:
		return head{p.Kind, p.M}
	}
	return head{p.Kind, p.N}
}

// heads goes through the heads of all values of a type. Those of int have no end: whoever goes through them stops where one will do.
func (v values) heads(t api.Type) iter.Seq[head] {
	return func(yield func(head) bool) {
		switch v.form(t, nil) {
		case api.TyInt:
			for n := 0; yield(head{api.PInt, n}); n++ {
			}
		case api.TyBool:
			_ = yield(head{api.PBool, 0}) && yield(head{api.PBool, 1})
		case api.TyTuple:
			if v.some(t, nil) {
				yield(head{kind: api.PTuple})
			}
		case api.TyData:
			for m := range v.cases(t.N, v.fillings(t.Args, nil)) {
				if !yield(head{api.PCase, m}) {
					return
				}
			}
		default:
			yield(head{kind: api.PAny}) // no pattern has it
		}
	}
}

// part is the type of a part of the values of a type that have a head.
func (v values) part(t api.Type, h head, i int) api.Type {
	switch v.form(t, nil) {
	case api.TyTuple:
		if i < len(t.Args) {
			return t.Args[i]
		}
	case api.TyData:
		cases := v.program.Datas[t.N].Cases
		if h.n >= 0 && h.n < len(cases) && i < len(cases[h.n].Parts) {
			return scope.Subst(cases[h.n].Parts[i].Type, t.Args)
		}
	}
	return api.Type{Kind: shut}
}

// meet says whether there is a value that both patterns take.
func (v values) meet(t api.Type, a, b api.Pat) bool {
	if a.Kind == api.PAny {
		a, b = b, a
	}
	if a.Kind == api.PAny {
		return v.some(t, nil)
	}
	h := headOf(a)
	if b.Kind != api.PAny && headOf(b) != h {
		return false
	}
	for i, kid := range a.Kids {
		if !v.meet(v.part(t, h, i), kid, kidOf(b, i)) {
			return false
		}
	}
	return true
}

// kidOf is what a pattern asks of a part: PAny nothing of any.
func kidOf(p api.Pat, i int) api.Pat {
	if i < len(p.Kids) {
		return p.Kids[i]
	}
	return api.Pat{Kind: api.PAny}
}
