package emit

import "holdfast/api"

// libVec has the functions of Vec.
func (f *function) libVec(in *api.Instr) {
	to := f.spotOf(in.To, f.to)
	if in.N == api.LVec {
		f.leaveNumber(to.plus(vecWords), 0)
		f.leaveNumber(to.plus(vecRoom), 0)
		f.leaveNumber(to.plus(vecCount), 0)
		f.gain(in.To)
		return
	}
	vec := f.taken(in.Args[0], f.a)
	switch in.N {
	case api.LPush:
		f.push(in, vec)
	case api.LPop:
		f.pop(in, vec, to)
	case api.LLen:
		f.load(f.b, vec, vecCount)
		f.leave(to, f.b)
	case api.LAt, api.LAtMut:
		f.load(f.c, vec, vecCount)
		f.load(f.d, vec, vecWords)
		f.element(in, f.taken(in.Args[1], f.b))
	case api.LView, api.LViewMut:
		f.view(in, vec, to)
	}
}

// element gives the address of an element: c is how many there are, d where the first one stands.
func (f *function) element(in *api.Instr, n int) {
	f.isOne(n)
	f.must(api.OLt, n, f.c)
	f.elementAt(f.c, n, f.content(in))
	f.give(in.To, f.c)
}

// isOne begins a panic if a number is below 0.
func (f *function) isOne(n int) {
	f.set(f.number, 0)
	f.must(api.OGe, n, f.number)
}

// elementAt is where an element stands, if the first one stands at d.
func (f *function) elementAt(to, n, words int) {
	f.set(f.number, words)
	f.op(api.OMul, f.number, n, f.number)
	f.op(api.OAdd, to, f.d, f.number)
}

func (f *function) push(in *api.Instr, vec int) {
	words, room := f.content(in), f.newLabel()
	f.load(f.b, vec, vecCount)
	if words > 0 {
		f.load(f.c, vec, vecRoom)
		f.op(api.OGe, f.c, f.b, f.c)
		f.unless(f.c, room)
		f.move(f.top, vec)
		f.set(f.top+1, words)
		f.call(f.grows, f.top, never)
		f.place(room)
	}
	f.load(f.d, vec, vecWords)
	f.elementAt(f.d, f.b, words)
	f.take(in.Args[1], spot{f.d, 0})
	f.plus(f.b, f.b, 1)
	f.store(vec, vecCount, f.b)
}

func (f *function) pop(in *api.Instr, vec int, to spot) {
	none, done := f.newLabel(), f.newLabel()
	f.load(f.b, vec, vecCount)
	f.unless(f.b, none)
	f.plus(f.b, f.b, -1)
	f.store(vec, vecCount, f.b)
	f.load(f.d, vec, vecWords)
	f.elementAt(f.d, f.b, f.content(in))
	f.leaveNumber(to, isSome)
	f.copy(to.plus(someWords), spot{f.d, 0}, f.content(in))
	f.jump(done)
	f.place(none)
	f.leaveNumber(to, isNone)
	f.place(done)
	f.gain(in.To)
}

func (f *function) view(in *api.Instr, vec int, to spot) {
	first, behind := f.taken(in.Args[1], f.b), f.taken(in.Args[2], f.c)
	f.isOne(first)
	f.must(api.OLe, first, behind)
	f.load(f.d, vec, vecCount)
	f.must(api.OLe, behind, f.d)
	f.load(f.d, vec, vecWords)
	f.elementAt(f.d, first, f.content(in))
	f.leave(to.plus(sliceWords), f.d)
	f.op(api.OSub, f.d, behind, first)
	f.leave(to.plus(sliceCount), f.d)
}

// libSlice has the functions of Slice and SliceMut: c is how many elements there are, d where the first one stands.
func (f *function) libSlice(in *api.Instr) {
	of := spot{0, 0}
	if in.N == api.LMLen || in.N == api.LMAt {
		of.by = f.taken(in.Args[0], f.a)
	} else {
		of = f.spotOf(in.Args[0].Place, f.a)
	}
	f.fetch(f.c, of.plus(sliceCount))
	f.fetch(f.d, of.plus(sliceWords))
	switch in.N {
	case api.LSLen, api.LMLen:
		f.give(in.To, f.c)
	case api.LSAt, api.LMAt:
		f.element(in, f.taken(in.Args[1], f.b))
	case api.LCut, api.LCutMut:
		f.cut(in, f.taken(in.Args[1], f.b))
	}
}

func (f *function) cut(in *api.Instr, n int) {
	f.isOne(n)
	f.must(api.OLe, n, f.c)
	to := f.spotOf(in.To, f.to)
	f.leave(to.plus(sliceWords), f.d)
	f.leave(to.plus(sliceCount), n)
	rest := to.plus(sliceCount + 1)
	f.op(api.OSub, f.c, f.c, n)
	f.leave(rest.plus(sliceCount), f.c)
	f.elementAt(f.d, n, f.content(in))
	f.leave(rest.plus(sliceWords), f.d)
}
