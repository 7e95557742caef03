package run

import (
	"math/big"
	"slices"

	"holdfast/api"
	"holdfast/scope"
)

// instruction does one instruction of the oracle.
func (o *oracle) instruction(f *frame, in api.Instr) {
	switch in.Op {
	case api.IPut:
		o.dropThen(o.give(in.To, o.operand(in.Args[0])))
		return
	case api.IEnd:
		old := o.ends(f.vars[in.N])
		f.vars[in.N] = &obj{val: val{kind: "hole"}}
		o.dropThen(old)
		return
	case api.IJump:
		f.pc = in.N
		return
	case api.IIf:
		if o.operand(in.Args[0]).n == 0 {
			f.pc = in.N
			return
		}
	case api.IRet:
		o.returns(f)
		return
	case api.IPanic:
		o.fail()
		return
	case api.IResume:
		o.resumes(f)
		return
	case api.ICall:
		o.current.push(o.called(in.N, o.operands(in)...))
		return
	case api.IInvoke:
		o.invokes(in)
		return
	default:
		v := o.value(in)
		if v == nil {
			o.fail()
			return
		}
		o.give(in.To, *v)
	}
	f.pc++
}

func (o *oracle) pop() {
	o.current.stack = o.current.stack[:len(o.current.stack)-1]
}

func (o *oracle) returns(f *frame) {
	v := o.taken(where{obj: f.vars[0]})
	for _, x := range f.vars {
		x.dead = true
	}
	o.pop()
	if f.forDrop {
		return
	}
	if len(o.current.stack) == 0 {
		o.current.gave, o.current.state = &v, "ended"
		return
	}
	back := o.frame()
	o.give(o.p.Fns[back.fn].Code[back.pc].To, v)
	back.pc++
}

func (o *oracle) resumes(f *frame) {
	o.pop()
	if f.forDrop {
		o.frame().failed = true
		return
	}
	if len(o.current.stack) == 0 {
		o.current.state = "ended"
		return
	}
	back := o.frame()
	back.pc = o.p.Fns[back.fn].Clean
}

func (o *oracle) invokes(in api.Instr) {
	ops := o.operands(in)
	f := ops[0]
	if in.N == api.FnOnce {
		ops[0] = o.taken(where{obj: f.spot.obj})
		f.spot.obj.dead = true
	} else {
		f = *o.seesSome(ops[0].spot)
		o.touch(ops[0].spot, false, "plain")
		ops[0] = val{kind: "ref", spot: where{obj: f.spot.obj, tag: o.label(nil, in.N == api.FnMut, false)}}
	}
	o.current.push(o.called(f.n, ops...))
}

// value is what an instruction gives; nil says that it panics.
func (o *oracle) value(in api.Instr) *val {
	var v val
	switch in.Op {
	case api.IUse:
		v = o.operand(in.Args[0])
	case api.IBin:
		ops := o.operands(in)
		return reckoned(in.N, ops[0].n, ops[1].n)
	case api.IUn:
		n := o.operand(in.Args[0]).n
		if in.N == api.ONeg {
			return reckoned(api.OSub, 0, n)
		}
		v = num(1 - n)
	case api.IRef, api.IMut:
		w := o.place(in.From)
		o.seesAll(w)
		w.tag = o.label(w.tag, in.Op == api.IMut, false)
		v = val{kind: "ref", spot: w}
	case api.ITag:
		w := o.place(in.From)
		d := o.seesSome(w)
		if d.kind != "data" {
			o.bad(api.WrongForm)
		}
		w.path += top
		o.touch(w, false, "plain")
		v = num(d.n)
	case api.ITuple:
		v = group(o.operands(in)...)
	case api.IMake:
		v = val{kind: "data", n: in.M, drop: -1, parts: o.operands(in)}
		for _, d := range o.p.Drops {
			if d.Data == in.N && slices.EqualFunc(d.Types, in.Types, scope.Same) {
				v.drop = d.Fn
			}
		}
	case api.IClos:
		v = val{kind: "clos", n: in.N, spot: where{obj: o.onHeap(group(o.operands(in)...))}}
	case api.ISpawn:
		v = o.spawns(in.N, group(o.operands(in)...))
	case api.ILib:
		return o.std(in.N, o.operands(in))
	}
	return &v
}

func (o *oracle) spawns(fn int, with val) val {
	if len(o.all) >= api.MaxThreads {
		panic(stop{api.Full, 0})
	}
	x := o.onHeap(val{kind: "hole"})
	x.had = true
	s := &strand{n: len(o.all), state: "new", handle: x, clock: o.current.clock}
	s.push(o.called(fn, with))
	o.all = append(o.all, s)
	o.current.clock[o.current.n]++
	s.clock[s.n]++
	return val{kind: "handle", spot: where{obj: x}}
}

// reckoned reckons with numbers of any size, and looks whether what comes out has 64 bits.
func reckoned(op, a, b int) *val {
	x, y, z := big.NewInt(int64(a)), big.NewInt(int64(b)), new(big.Int)
	holds := map[int]bool{api.OEq: a == b, api.ONe: a != b, api.OLt: a < b, api.OLe: a <= b, api.OGt: a > b, api.OGe: a >= b}
	if holds, ok := holds[op]; ok {
		v := num(0)
		if holds {
			v = num(1)
		}
		return &v
	}
	switch op {
	case api.OAdd:
		z.Add(x, y)
	case api.OSub:
		z.Sub(x, y)
	case api.OMul:
		z.Mul(x, y)
	default:
		if b == 0 {
			return nil
		}
		rest := new(big.Int)
		if z.QuoRem(x, y, rest); z.IsInt64() && op == api.ORem {
			z = rest
		}
	}
	if !z.IsInt64() {
		return nil
	}
	v := num(int(z.Int64()))
	return &v
}

func (o *oracle) itsOwner(ref val) *val {
	v := o.seesSome(ref.spot)
	o.touch(ref.spot, false, "plain")
	return v
}

// points is a reference to a part of a thing.
func (o *oracle) points(x *obj, path string, from *label, mut bool) *val {
	return &val{kind: "ref", spot: where{x, path, o.label(from, mut, false)}}
}

// std is what a function of std gives; nil says that it panics.
func (o *oracle) std(n int, ops []val) *val {
	give := func(v val) *val { return &v }
	own := func(kind string, x *obj) *val { return &val{kind: kind, spot: where{obj: x}} }
	switch n {
	case api.LBoxed:
		return own("box", o.onHeap(ops[0]))
	case api.LUnbox:
		v := o.taken(where{obj: ops[0].spot.obj})
		ops[0].spot.obj.dead = true
		return &v
	case api.LReplace:
		v := o.seesAll(ops[0].spot)
		o.touch(ops[0].spot, true, "plain")
		old := *v
		*v = ops[1]
		return &old
	case api.LOut:
		o.out.Outs = append(o.out.Outs, ops[0].n)
		return give(group())
	case api.LVec:
		return own("vec", o.onHeap(group()))
	case api.LPush, api.LPop:
		x := o.itsOwner(ops[0]).spot.obj
		o.touch(where{obj: x}, true, "plain")
		if n == api.LPush {
			x.val.parts = append(x.val.parts, ops[1])
			return give(group())
		}
		last := len(x.val.parts) - 1
		if last < 0 {
			return give(optional())
		}
		v := *o.seesAll(where{obj: x, path: at(last)})
		x.val.parts = x.val.parts[:last]
		return give(optional(v))
	case api.LLen, api.LAt, api.LAtMut, api.LView, api.LViewMut:
		return o.ofVec(n, ops)
	case api.LSLen, api.LSAt, api.LCut:
		return o.ofSlice(n, ops[0], ops)
	case api.LMLen, api.LMAt:
		return o.ofSlice(n, *o.itsOwner(ops[0]), ops)
	case api.LCutMut:
		return o.ofSlice(n, ops[0], ops)
	case api.LRc, api.LArc:
		x := o.onHeap(group(ops[0]))
		x.owners = 1
		return own(map[int]string{api.LRc: "rc", api.LArc: "arc"}[n], x)
	case api.LRcGet, api.LArcGet:
		return o.points(o.itsOwner(ops[0]).spot.obj, at(0), nil, false)
	case api.LRcClone:
		x := o.itsOwner(ops[0]).spot.obj
		o.touch(where{obj: x, path: top}, true, "inner")
		x.owners++
		return own("rc", x)
	case api.LRcCount:
		x := o.itsOwner(ops[0]).spot.obj
		o.touch(where{obj: x, path: top}, false, "inner")
		return give(num(x.owners))
	case api.LArcClone:
		x := o.itsOwner(ops[0]).spot.obj
		o.meets(&x.clock)
		x.owners++
		return own("arc", x)
	case api.LCell, api.LRefCell, api.LMutex:
		kind := map[int]int{api.LCell: api.LyCell, api.LRefCell: api.LyRefCell, api.LMutex: api.LyMutex}[n]
		return give(val{kind: "cell", n: kind, parts: ops, clock: &clock{}})
	}
	if n == api.LGet || n == api.LSet || n == api.LBorrow || n == api.LBorrowMut || n == api.LLock {
		return o.ofCell(n, ops)
	}
	if n == api.LRefGet || n == api.LMutGet || n == api.LLockGet {
		g := o.itsOwner(ops[0])
		return o.points(g.spot.obj, g.spot.path+at(0), g.spot.tag, n != api.LRefGet)
	}
	return o.ofThreads(n, ops)
}

func (o *oracle) ofVec(n int, ops []val) *val {
	x := o.itsOwner(ops[0]).spot.obj
	o.touch(where{obj: x, path: top}, false, "plain")
	length := len(x.val.parts)
	switch n {
	case api.LLen:
		v := num(length)
		return &v
	case api.LAt, api.LAtMut:
		if !(0 <= ops[1].n && ops[1].n < length) {
			return nil
		}
		return o.points(x, at(ops[1].n), nil, n == api.LAtMut)
	}
	if !(0 <= ops[1].n && ops[1].n <= ops[2].n && ops[2].n <= length) {
		return nil
	}
	return &val{kind: "slice", spot: where{obj: x, tag: o.label(nil, n == api.LViewMut, false)}, from: ops[1].n, k: ops[2].n - ops[1].n}
}

func (o *oracle) ofSlice(n int, s val, ops []val) *val {
	switch n {
	case api.LSLen, api.LMLen:
		v := num(s.k)
		return &v
	case api.LSAt, api.LMAt:
		if !(0 <= ops[1].n && ops[1].n < s.k) {
			return nil
		}
		return o.points(s.spot.obj, at(s.from+ops[1].n), s.spot.tag, n == api.LMAt)
	}
	if !(0 <= ops[1].n && ops[1].n <= s.k) {
		return nil
	}
	a, b := s, s
	a.k = ops[1].n
	b.from, b.k = s.from+ops[1].n, s.k-ops[1].n
	a.spot.tag = o.label(s.spot.tag, n == api.LCutMut, false)
	b.spot.tag = o.label(s.spot.tag, n == api.LCutMut, false)
	v := group(a, b)
	return &v
}

// ofCell has what is done with a cell. Whether there is one is asked last: the chapter names the touch, but not that.
func (o *oracle) ofCell(n int, ops []val) *val {
	c := o.seesSome(ops[0].spot)
	head, content := ops[0].spot, ops[0].spot
	head.path += top
	content.path += at(0)
	switch n {
	case api.LGet:
		o.touch(content, false, "inner")
	case api.LSet:
		o.touch(content, true, "inner")
	case api.LBorrow, api.LBorrowMut:
		o.touch(head, true, "inner")
	case api.LLock:
		o.touch(head, true, "atomic")
	}
	if c.kind != "cell" {
		o.bad(api.WrongForm)
	}
	return o.doneWithCell(n, c, ops)
}

func (o *oracle) doneWithCell(n int, c *val, ops []val) *val {
	guard := func(kind int, mut bool) *val {
		w := ops[0].spot
		w.tag = o.label(w.tag, mut, true)
		return &val{kind: "guard", n: kind, spot: w}
	}
	switch n {
	case api.LGet:
		v := c.parts[0].copied()
		return &v
	case api.LSet:
		c.parts[0] = ops[1]
		v := group()
		return &v
	case api.LBorrow:
		if c.has == -1 {
			return nil
		}
		c.has++
		return guard(api.LyRef, false)
	case api.LBorrowMut:
		if c.has != 0 {
			return nil
		}
		c.has = -1
		return guard(api.LyRefMut, true)
	}
	o.meets(c.clock)
	c.has = 1
	return guard(api.LyLock, true)
}

func (o *oracle) ofThreads(n int, ops []val) *val {
	give := func(v val) *val { return &v }
	if n == api.LChan {
		x := o.onHeap(val{kind: "hole"})
		x.senders, x.receiver = 1, true
		return give(group(val{kind: "sender", spot: where{obj: x}}, val{kind: "receiver", spot: where{obj: x}}))
	}
	if n == api.LJoin {
		x := ops[0].spot.obj
		o.meets(&x.clock)
		x.dead = true
		if x.what == nil {
			return give(optional())
		}
		return give(optional(*x.what))
	}
	x := o.itsOwner(ops[0]).spot.obj
	o.meets(&x.clock)
	switch n {
	case api.LSenderClone:
		x.senders++
		return &val{kind: "sender", spot: where{obj: x}}
	case api.LSend:
		if !x.receiver {
			return give(optional(ops[1]))
		}
		x.waiting = append(x.waiting, ops[1])
		return give(optional())
	}
	if len(x.waiting) == 0 {
		return give(optional())
	}
	v := x.waiting[0]
	x.waiting = x.waiting[1:]
	return give(optional(v))
}
