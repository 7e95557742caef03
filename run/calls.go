package run

import "holdfast/api"

// call is a call of a function. At is the instruction that is next, or that is not done yet, while a function is called or something is dropped for it.
type call struct {
	fn     *api.FnDef
	at     int
	locals []*thing
	drops
	// It was called to drop something, not by an instruction.
	isDrop bool
}

// newCall is a call of a function with operands.
func (w *world) newCall(fn int, opers ...value) *call {
	c := &call{fn: &w.program.Fns[fn]}
	for n, v := range opers {
		c.local(n + 1).holds = v
	}
	return c
}

// local is the thing of a local. It is made when it is first asked for: of many calls most locals never come up.
func (c *call) local(n int) *thing {
	if n >= len(c.fn.Vars) {
		// No program that Mono answers has such a place.
		panic(n)
	}
	for len(c.locals) <= n {
		c.locals = append(c.locals, nil)
	}
	if c.locals[n] == nil {
		c.locals[n] = newThing(hole{})
	}
	return c.locals[n]
}

// lead goes along a place and answers its spot, or what is wrong on the way. What is gone through by a StepDeref is handed to pass.
func (c *call) lead(p api.Place, pass func(spot)) (spot, int) {
	s := whole(c.local(p.Local))
	for _, step := range p.Steps {
		v, what := s.look()
		if what != api.NotWrong {
			return s, what
		}
		if s, what = s.on(v, step, pass); what != api.NotWrong {
			return s, what
		}
	}
	return s, api.NotWrong
}

// on goes a step on from a spot where a value stands.
func (s spot) on(v value, step api.Step, pass func(spot)) (spot, int) {
	switch v := v.(type) {
	case hole:
		return s, api.WrongHole
	case tuple:
		if step.Kind == api.StepField && step.N < len(v.parts) {
			return s.part(step.N), api.NotWrong
		}
	case data:
		if step.Kind == api.StepField && step.N < len(v.parts) {
			return s.part(step.N), api.NotWrong
		}
		if step.Kind == api.StepCase && step.N == v.variant && step.M < len(v.parts) {
			return s.part(step.M), api.NotWrong
		}
	case refer:
		if step.Kind == api.StepDeref {
			pass(s)
			return v.spot, api.NotWrong
		}
	case owner:
		if step.Kind == api.StepDeref && v.kind == api.LyBox {
			pass(s)
			return whole(v.leads), api.NotWrong
		}
	}
	return s, api.WrongForm
}

// spotOf is the spot of a place of the call that goes on.
func (t *thread) spotOf(p api.Place) spot {
	s, what := t.top().lead(p, func(s spot) { t.touch(s, false, plain) })
	if what != api.NotWrong {
		wrong(what)
	}
	return s
}

// peek answers what an operand is, without a touch; nothing, if it cannot be told.
func (t *thread) peek(o api.Oper) value {
	s, what := t.top().lead(o.Place, func(spot) {})
	if what != api.NotWrong {
		return nil
	}
	v, _ := s.look()
	return v
}

// peekAt answers what an operand, a reference, leads to, likewise.
func (t *thread) peekAt(o api.Oper) value {
	switch r := t.peek(o).(type) {
	case refer:
		v, _ := r.look()
		return v
	}
	return nil
}

// take takes what stands at a spot, and leaves a hole.
func (t *thread) take(s spot) value {
	v := s.allThere()
	t.touch(s, true, plain)
	s.put(hole{})
	return v
}

func (t *thread) oper(o api.Oper) value {
	switch o.Kind {
	case api.OpMove:
		return t.take(t.spotOf(o.Place))
	case api.OpCopy:
		s := t.spotOf(o.Place)
		v := s.allThere()
		t.touch(s, false, plain)
		return v
	}
	return number(o.N)
}

func (t *thread) opers(all []api.Oper) []value {
	out := make([]value, 0, len(all))
	for _, o := range all {
		out = append(out, t.oper(o))
	}
	return out
}

// give gives a value at a place, and answers what stood there.
func (t *thread) give(p api.Place, v value) value {
	s := t.spotOf(p)
	old := s.stands()
	t.touch(s, true, plain)
	s.put(v)
	return old
}
