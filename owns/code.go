package owns

import (
	"iter"

	"holdfast/api"
	"holdfast/lower"
	"holdfast/shapes"
)

// code is the code of a function, with what the answers hang on.
type code struct {
	api.FnDef
	shapes.Types
	locals []shapes.Type
	paths  *paths
	owner  *lower.Owner
	panics []bool // of each instruction, whether it may panic
}

func newCode(p api.Program, n int) *code {
	c := &code{FnDef: p.Fns[n], Types: shapes.New(p.Datas)}
	c.owner = lower.NewOwner(p, c.Sig.Gens, &c.Types)
	for _, v := range c.Vars {
		c.locals = append(c.locals, c.Of(v.Type))
	}
	c.paths = pathsOf(c.FnDef)
	for n, i := range c.Code {
		c.panics = append(c.panics, n < c.Clean && c.mayPanic(i))
	}
	return c
}

// gives says whether an instruction has a To.
func gives(i api.Instr) bool {
	return i.Op <= api.IPut
}

// mayPanic says whether an instruction that stands ahead of Clean may panic.
func (c *code) mayPanic(i api.Instr) bool {
	switch i.Op {
	case api.IBin:
		return i.N >= api.OAdd && i.N <= api.ORem
	case api.IUn:
		return i.N == api.ONeg
	case api.ICall, api.IMethod, api.IInvoke, api.IPanic:
		return true
	case api.ILib:
		return api.StdPanics(i.N)
	case api.IPut:
		return c.owner.Owns(c.Place(c.locals, i.To))
	case api.IEnd:
		return c.owner.Owns(c.locals[i.N])
	}
	return false
}

// behind are the instructions at which the code goes on behind one, if there is no panic.
func (c *code) behind(n int) []int {
	i := c.Code[n]
	switch i.Op {
	case api.IJump:
		return []int{i.N}
	case api.IIf:
		return []int{n + 1, i.N}
	case api.IRet, api.IPanic, api.IResume:
		return nil
	}
	return []int{n + 1}
}

// walk goes along the steps of a place, each with the type of the value that it leads on from.
func (c *code) walk(place api.Place) iter.Seq2[shapes.Shape, api.Step] {
	return func(yield func(shapes.Shape, api.Step) bool) {
		from := c.locals[place.Local]
		for _, step := range place.Steps {
			if !yield(c.Shape(from), step) {
				return
			}
			from = c.Step(from, step)
		}
	}
}
