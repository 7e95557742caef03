package lower

import (
	"slices"

	"holdfast/api"
)

// runner is a call of a function, of which the code is gone through.
type runner struct {
	*world
	f      api.FnDef
	locals []*cell
}

// run calls a function by its code, and says whether it has returned.
func (w *world) run(fn int, args []any) (any, bool) {
	r := &runner{world: w, f: w.p.Fns[fn]}
	for range r.f.Vars {
		r.locals = append(r.locals, &cell{})
	}
	for i, arg := range args {
		r.locals[1+i].v = arg
	}
	at := 0
	for {
		if i := r.f.Code[at]; i.Op == api.IRet {
			return r.taken(r.locals[0], true), true
		}
		next, ok := r.step(at)
		if !ok {
			return nil, false
		}
		at = next
	}
}

// step does an instruction, and answers where to go on, or that there was a panic.
func (r *runner) step(at int) (next int, ok bool) {
	i := r.f.Code[at]
	switch i.Op {
	case api.IPanic:
		return 0, false
	case api.IEnd:
		r.end(r.f.Vars[i.N].Name, r.locals[i.N])
		r.locals[i.N] = &cell{}
		return at + 1, true
	case api.IJump:
		return i.N, true
	case api.IIf:
		if !r.operand(i.Args[0]).(bool) {
			return i.N, true
		}
		return at + 1, true
	}
	v, ok := r.value(i)
	if ok {
		r.place(i.To).v = v
	}
	return at + 1, ok
}

// value is what an instruction gives, if it does not panic.
func (r *runner) value(i api.Instr) (any, bool) {
	var args []any
	for _, arg := range i.Args {
		args = append(args, r.operand(arg))
	}
	switch i.Op {
	case api.IUse, api.IPut:
		return args[0], true
	case api.IUn:
		return reckon(i.N, args[0], nil), true
	case api.IBin:
		if (i.N == api.ODiv || i.N == api.ORem) && args[1] == 0 {
			return nil, false
		}
		return reckon(i.N, args[0], args[1]), true
	case api.IRef, api.IMut:
		return leads{r.place(i.From)}, true
	case api.ITuple, api.IMake:
		return manyOf(i.M, args...), true
	case api.ITag:
		return r.taken(r.place(i.From), false).(many).tag, true
	case api.ICall:
		return r.run(i.N, args)
	case api.ILib:
		return r.lib(i.N, args), true
	case api.IMethod:
		return r.run(r.method(i.N, i.M, i.Types[0]), args)
	case api.IClos:
		return shut{i.N, &cell{manyOf(0, args...)}}, true
	case api.ISpawn:
		v, ok := r.run(i.N, []any{manyOf(0, args...)})
		return ended{v, ok}, true
	case api.IInvoke:
		return r.invoke(i.N, args)
	}
	panic(stop{"an instruction that is none"})
}

func (r *runner) invoke(kind int, args []any) (any, bool) {
	if kind == api.FnOnce {
		closure := args[0].(shut)
		return r.run(closure.fn, append([]any{closure.env.v}, args[1:]...))
	}
	closure := args[0].(leads).to.v.(shut)
	return r.run(closure.fn, append([]any{leads{closure.env}}, args[1:]...))
}

func (r *runner) operand(o api.Oper) any {
	switch o.Kind {
	case api.OpInt:
		return o.N
	case api.OpBool:
		return o.N == 1
	}
	return r.taken(r.place(o.Place), o.Kind == api.OpMove)
}

// taken is what stands in a cell. What is moved stands there no more.
func (r *runner) taken(c *cell, moved bool) any {
	if c.v == nil {
		panic(stop{"what is not there is taken"})
	}
	v := fresh(c.v)
	if moved {
		c.v = nil
	}
	return v
}

func (r *runner) place(p api.Place) *cell {
	c := r.locals[p.Local]
	for _, step := range p.Steps {
		if c.v == nil {
			panic(stop{"a step into what is not there"})
		}
		switch step.Kind {
		case api.StepDeref:
			c = c.v.(leads).to
		case api.StepField:
			c = c.v.(many).parts[step.N]
		default:
			whole := c.v.(many)
			if whole.tag != step.N {
				panic(stop{"a step into another variant"})
			}
			c = whole.parts[step.M]
		}
	}
	return c
}

// left are the locals that may have something ahead of each instruction, if it has been made and neither moved nor ended. Of what nothing leads to there are none.
func left(f api.FnDef) [][]int {
	ahead := make([][]int, f.Clean)
	var first []int
	for n := range f.Sig.Ins {
		first = append(first, n+1)
	}
	type way struct {
		at    int
		there []int
	}
	reached := make([]bool, f.Clean)
	open := []way{{0, first}}
	for len(open) > 0 {
		w := open[len(open)-1]
		open = open[:len(open)-1]
		there := slices.Clone(ahead[w.at])
		for _, n := range w.there {
			if !slices.Contains(there, n) {
				there = append(there, n)
			}
		}
		if reached[w.at] && len(there) == len(ahead[w.at]) {
			continue
		}
		reached[w.at] = true
		ahead[w.at] = there
		i := f.Code[w.at]
		there = slices.Clone(there)
		for _, arg := range i.Args {
			if arg.Kind == api.OpMove && len(arg.Place.Steps) == 0 {
				there = slices.DeleteFunc(there, func(n int) bool { return n == arg.Place.Local })
			}
		}
		if i.Op == api.IEnd {
			there = slices.DeleteFunc(there, func(n int) bool { return n == i.N })
		}
		if i.Op <= api.IPut && len(i.To.Steps) == 0 && !slices.Contains(there, i.To.Local) {
			there = append(there, i.To.Local)
		}
		switch i.Op {
		case api.IRet, api.IPanic:
		case api.IJump:
			open = append(open, way{i.N, there})
		case api.IIf:
			open = append(open, way{i.N, there}, way{w.at + 1, there})
		default:
			open = append(open, way{w.at + 1, there})
		}
	}
	for n := range ahead {
		if !reached[n] {
			ahead[n] = []int{-1}
		}
	}
	return ahead
}
