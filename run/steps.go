package run

import (
	"holdfast/api"
	"holdfast/scope"
)

// instruct does an instruction of the call that goes on.
func (t *thread) instruct(c *call, in *api.Instr) {
	switch in.Op {
	case api.IPut:
		c.dropThen(t.give(in.To, t.oper(in.Args[0])))
	case api.IEnd:
		old := t.ended(c.local(in.N))
		c.locals[in.N] = nil
		c.dropThen(old)
	case api.IJump:
		c.at = in.N
	case api.IIf:
		c.at++
		if asked[number](t.oper(in.Args[0])) == 0 {
			c.at = in.N
		}
	case api.IRet:
		t.giveBack()
	case api.IPanic:
		t.beginPanic()
	case api.IResume:
		t.resume()
	case api.ICall:
		t.calls = append(t.calls, t.newCall(in.N, t.opers(in.Args)...))
	case api.IInvoke:
		t.invoke(in.N, t.opers(in.Args))
	default:
		v, ok := t.reckon(in)
		if !ok {
			t.beginPanic()
			return
		}
		t.give(in.To, v)
		c.at++
	}
}

// giveBack lets a call return what its local 0 holds.
func (t *thread) giveBack() {
	v := t.take(whole(t.top().local(0)))
	c := t.leaveCall()
	for _, x := range c.locals {
		if x != nil {
			t.end(x)
		}
	}
	switch {
	case c.isDrop:
	case len(t.calls) == 0:
		t.gave = v
	default:
		back := t.top()
		t.give(back.fn.Code[back.at].To, v)
		back.at++
	}
}

// invoke calls a closure, which is the first operand, or is led to by it.
func (t *thread) invoke(kind int, opers []value) {
	var f closure
	if kind == api.FnOnce {
		f = asked[closure](opers[0])
		opers[0] = t.take(whole(f.leads))
		t.end(f.leads)
	} else {
		f = asked[closure](t.itsOwner(opers[0]))
		opers[0] = refer{spot{at: f.leads, by: t.newTag(nil, kind == api.FnMut, false)}}
	}
	t.calls = append(t.calls, t.newCall(f.fn, opers...))
}

// reckon answers what an instruction gives, or that there is a panic.
func (t *thread) reckon(in *api.Instr) (value, bool) {
	switch in.Op {
	case api.IUse:
		return t.oper(in.Args[0]), true
	case api.IBin:
		opers := t.opers(in.Args)
		return binary(in.N, int(asked[number](opers[0])), int(asked[number](opers[1])))
	case api.IUn:
		return unary(in.N, int(asked[number](t.oper(in.Args[0]))))
	case api.IRef, api.IMut:
		s := t.spotOf(in.From)
		s.allThere()
		return refer{spot{s.at, s.path, t.newTag(s.by, in.Op == api.IMut, false)}}, true
	case api.ITag:
		s := t.spotOf(in.From)
		v := asked[data](s.seen())
		t.touch(s.head(), false, plain)
		return number(v.variant), true
	case api.ITuple:
		return tupleOf(t.opers(in.Args)...), true
	case api.IMake:
		return data{together(t.opers(in.Args)...), in.M, t.dropOf(in)}, true
	case api.IClos:
		return closure{in.N, t.onHeap(tupleOf(t.opers(in.Args)...))}, true
	case api.ISpawn:
		return t.spawn(in.N, tupleOf(t.opers(in.Args)...)), true
	case api.ILib:
		return t.lib(in.N, t.opers(in.Args))
	}
	panic(in.Op)
}

// dropOf is the function that is the Drop of what an IMake makes, or -1.
func (w *world) dropOf(in *api.Instr) int {
	if w.program.Datas[in.N].Drop < 0 {
		return -1
	}
	for _, d := range w.program.Drops {
		if d.Data == in.N && sameAll(d.Types, in.Types) {
			return d.Fn
		}
	}
	return -1
}

func sameAll(a, b []api.Type) bool {
	for n := range a {
		if !scope.Same(a[n], b[n]) {
			return false
		}
	}
	return true
}
