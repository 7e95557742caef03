package owns

import (
	"slices"

	"holdfast/api"
	"holdfast/ways"
)

// refusal is what is thrown at the first fault of a program.
type refusal struct {
	fault api.Fault
}

// judge looks at an instruction, with what is there ahead of it and, once operands are moved, no more.
type judge struct {
	*code
	now state
	at  int // of the instruction
}

// look looks at the instructions ahead of Clean.
func (c *code) look() {
	ahead := c.there()
	for n, i := range c.Code[:c.Clean] {
		j := judge{c, ahead[n], i.At}
		for _, arg := range i.Args {
			j.operand(arg)
		}
		j.source(i)
		if ways.Gives(i) {
			j.target(i.To)
		}
	}
}

// refuseIf throws a fault, if there is one.
func (j judge) refuseIf(wrong bool, kind api.Errno) {
	if wrong {
		panic(refusal{api.Fault{Kind: kind, At: j.at}})
	}
}

// operand looks at what is taken from a place.
func (j judge) operand(o api.Oper) {
	if o.Kind != api.OpCopy && o.Kind != api.OpMove {
		return
	}
	j.refuseIf(j.hasHole(o.Place), api.ErrHole)
	if o.Kind == api.OpMove {
		j.refuseIf(!j.mayMove(o.Place), api.ErrMove)
		j.now.lose(j.paths.of(o.Place))
	}
}

// source looks at what an instruction needs beside its operands.
func (j judge) source(i api.Instr) {
	switch i.Op {
	case api.IRef, api.IMut, api.ITag:
		j.refuseIf(j.hasHole(i.From), api.ErrHole)
		j.refuseIf(i.Op == api.IMut && !j.mayChange(i.From), api.ErrMut)
	case api.IRet:
		j.refuseIf(j.hasHole(api.Place{}), api.ErrHole)
	}
}

// target looks at the place to which something is given.
func (j judge) target(to api.Place) {
	if ways.IsDirect(to) {
		found, _ := j.paths.along(to)
		j.refuseIf(slices.ContainsFunc(found[:len(to.Steps)], j.now.hole.Has), api.ErrHole)
	} else {
		j.refuseIf(j.hasHole(to), api.ErrHole)
	}
	if len(to.Steps) == 0 {
		again := !j.Vars[to.Local].Mut && slices.ContainsFunc(j.paths.under(to.Local), j.now.init.Has)
		j.refuseIf(again, api.ErrAgain)
	} else {
		j.refuseIf(!j.mayChange(to), api.ErrMut)
	}
}

// hasHole says whether not all of a place is there.
func (j judge) hasHole(place api.Place) bool {
	return slices.ContainsFunc(j.paths.around(place), j.now.hole.Has)
}

// mayMove says whether what stands at a place may be moved away: nobody misses it there.
func (j judge) mayMove(place api.Place) bool {
	for from, step := range j.Walk(place) {
		if ways.IsDeref(step) || j.HasDrop(from) {
			return false
		}
	}
	return true
}

// mayChange says whether what stands at a place may be changed: by its owner, or by a mut reference that leads there.
func (j judge) mayChange(place api.Place) bool {
	may := j.Vars[place.Local].Mut
	for from, step := range j.Walk(place) {
		switch {
		case ways.IsDeref(step) && from.Kind == api.TyRef:
			return false
		case ways.IsDeref(step) && from.Kind == api.TyMut:
			may = true
		}
	}
	return may
}
