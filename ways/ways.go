// Package ways: where the code of a function goes on, and of which types its places are, for layers that follow it.
package ways

import (
	"iter"
	"slices"

	"holdfast/api"
	"holdfast/lower"
	"holdfast/shapes"
)

// Ways is a function with code, with what following it hangs on.
type Ways struct {
	api.FnDef
	shapes.Types
	Owner  *lower.Owner
	Locals []shapes.Type // the types of its locals
	Panics []bool        // of each instruction, whether it may panic
}

// Of answers the ways of a function.
func Of(p api.Program, n int) *Ways {
	w := &Ways{FnDef: p.Fns[n], Types: shapes.New(p.Datas)}
	w.Owner = lower.NewOwner(p, w.Sig.Gens, &w.Types)
	for _, v := range w.Vars {
		w.Locals = append(w.Locals, w.Types.Of(v.Type))
	}
	for n, i := range w.Code {
		w.Panics = append(w.Panics, n < w.Clean && w.mayPanic(i))
	}
	return w
}

// Gives says whether an instruction has a To.
func Gives(i api.Instr) bool {
	return i.Op <= api.IPut
}

// mayPanic says whether an instruction that stands ahead of Clean may panic.
func (w *Ways) mayPanic(i api.Instr) bool {
	switch i.Op {
	case api.IBin:
		return i.N >= api.OAdd && i.N <= api.ORem
	case api.IUn:
		return i.N == api.ONeg
	case api.ICall, api.IMethod, api.IInvoke, api.IPanic:
		return true
	case api.ILib:
		return api.StdPanics(i.N)
	case api.IPut:
		return w.OwnsAt(i.To)
	case api.IEnd:
		return w.Owner.Owns(w.Locals[i.N])
	}
	return false
}

// OwnsAt says whether what stands at a place may own something.
func (w *Ways) OwnsAt(place api.Place) bool {
	return w.Owner.Owns(w.Place(w.Locals, place))
}

// Behind are the instructions at which the code goes on behind one, if there is no panic.
func (w *Ways) Behind(n int) []int {
	i := w.Code[n]
	switch i.Op {
	case api.IJump:
		return []int{i.N}
	case api.IIf:
		return []int{n + 1, i.N}
	case api.IRet, api.IPanic, api.IResume:
		return nil
	}
	return []int{n + 1}
}

// Walk goes along the steps of a place, each with the type of the value that it leads on from.
func (w *Ways) Walk(place api.Place) iter.Seq2[shapes.Shape, api.Step] {
	return func(yield func(shapes.Shape, api.Step) bool) {
		from := w.Locals[place.Local]
		for _, step := range place.Steps {
			if !yield(w.Shape(from), step) {
				return
			}
			from = w.Step(from, step)
		}
	}
}

// HasDrop says whether a type is a data type with a Drop.
func (w *Ways) HasDrop(s shapes.Shape) bool {
	return s.Kind == api.TyData && w.Datas[s.N].Drop >= 0
}

// IsDeref says whether a step leads out of the value in which it begins.
func IsDeref(step api.Step) bool {
	return step.Kind == api.StepDeref
}

// IsDirect says whether all of a place's steps stay in its local.
func IsDirect(place api.Place) bool {
	return !slices.ContainsFunc(place.Steps, IsDeref)
}

// Begins says whether a place begins with another one.
func Begins(place, with api.Place) bool {
	many := len(with.Steps)
	return place.Local == with.Local && len(place.Steps) >= many && slices.Equal(place.Steps[:many], with.Steps)
}
