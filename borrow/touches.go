package borrow

import (
	"holdfast/api"
	"holdfast/shapes"
	"holdfast/ways"
)

// How deep an instruction touches what stands at a place.
const (
	shallow  = iota // what stands there itself
	dropping        // what is dropped with it
	deep            // all that it leads to
)

// touch is a place that an instruction touches.
type touch struct {
	place api.Place
	write bool
	depth int
}

// touches are the places that an instruction touches.
func (l *lender) touches(n int) []touch {
	i := l.Code[n]
	var out []touch
	for _, arg := range i.Args {
		if isPlace(arg) {
			out = append(out, touch{arg.Place, arg.Kind == api.OpMove, deep})
		}
	}
	switch i.Op {
	case api.IRef:
		out = append(out, touch{i.From, false, deep})
	case api.IMut:
		out = append(out, touch{i.From, true, deep})
	case api.ITag:
		out = append(out, touch{i.From, false, shallow})
	case api.IPut:
		if l.OwnsAt(i.To) && (!ways.IsDirect(i.To) || l.mayBeThere(n, l.pathsFrom(i.To))) {
			out = append(out, touch{i.To, true, dropping})
		}
	case api.IEnd:
		local := api.Place{Local: i.N}
		if l.OwnsAt(local) && l.mayBeThere(n, l.pathsFrom(local)) {
			out = append(out, touch{local, true, dropping})
		}
		out = append(out, touch{local, true, shallow})
	case api.IRet:
		out = append(out, touch{api.Place{}, true, deep})
	}
	if ways.Gives(i) {
		out = append(out, touch{i.To, true, shallow})
	}
	return out
}

// clashes says whether a touch may not be while a loan is out.
func (l *lender) clashes(t touch, with api.Loan) bool {
	if !t.write && !with.Mut || t.place.Local != with.Place.Local {
		return false
	}
	passed := 0
	for from, step := range l.Walk(with.Place) {
		switch {
		case passed < len(t.place.Steps):
			if step != t.place.Steps[passed] {
				return false
			}
		case t.depth == dropping && l.HasDrop(from):
			return true
		case ways.IsDeref(step) && stops(t.depth, from):
			return false
		}
		passed++
	}
	return true
}

// stops says whether a touch does not reach what a value leads to.
func stops(depth int, from shapes.Shape) bool {
	return depth == shallow || depth == dropping && (from.Kind == api.TyRef || from.Kind == api.TyMut)
}
