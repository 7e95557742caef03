package emit

import "holdfast/api"

// libThreads has the functions of channels and handles.
func (f *function) libThreads(in *api.Instr) {
	to := f.spotOf(in.To, f.to)
	switch in.N {
	case api.LChan:
		f.channel(to)
	case api.LSend:
		f.send(in, to)
	case api.LRecv:
		f.receive(in, to)
	case api.LSenderClone:
		f.sync()
		f.load(f.a, f.taken(in.Args[0], f.a), 0)
		f.change(f.b, spot{f.a, chanSenders}, 1)
		f.leave(to, f.a)
	case api.LJoin:
		f.join(in, to)
	}
	f.gain(in.To)
}

// channel writes chan. What waits last is asked for only if something waits first.
func (f *function) channel(to spot) {
	f.block(f.a, chanSize)
	f.leaveNumber(spot{f.a, chanReady}, 0)
	f.leaveNumber(spot{f.a, chanSenders}, 1)
	f.leaveNumber(spot{f.a, chanOpen}, 1)
	f.leaveNumber(spot{f.a, chanFirst}, 0)
	f.leave(to, f.a)
	f.leave(to.plus(1), f.a)
}

func (f *function) send(in *api.Instr, to spot) {
	closed, first, linked, done := f.newLabel(), f.newLabel(), f.newLabel(), f.newLabel()
	f.sync()
	f.load(f.a, f.taken(in.Args[0], f.a), 0)
	f.load(f.b, f.a, chanOpen)
	f.unless(f.b, closed)
	f.block(f.b, waitWords+f.content(in))
	f.leaveNumber(spot{f.b, waitNext}, 0)
	f.take(in.Args[1], spot{f.b, waitWords})
	f.load(f.c, f.a, chanLast)
	f.store(f.a, chanLast, f.b)
	f.load(f.d, f.a, chanFirst)
	f.unless(f.d, first)
	f.store(f.c, waitNext, f.b)
	f.jump(linked)
	f.place(first)
	f.store(f.a, chanFirst, f.b)
	f.place(linked)
	f.change(f.b, spot{f.a, chanReady}, 1)
	f.leaveNumber(to, isNone)
	f.jump(done)
	f.place(closed)
	f.leaveNumber(to, isSome)
	f.take(in.Args[1], to.plus(someWords))
	f.place(done)
}

func (f *function) receive(in *api.Instr, to spot) {
	none, done := f.newLabel(), f.newLabel()
	f.load(f.a, f.taken(in.Args[0], f.a), 0)
	f.wait(f.a, chanReady)
	f.load(f.b, f.a, chanFirst)
	f.unless(f.b, none)
	f.load(f.c, f.b, waitNext)
	f.store(f.a, chanFirst, f.c)
	f.change(f.c, spot{f.a, chanReady}, -1)
	f.leaveNumber(to, isSome)
	f.copy(to.plus(someWords), spot{f.b, waitWords}, f.content(in))
	f.release(f.b)
	f.jump(done)
	f.place(none)
	f.leaveNumber(to, isNone)
	f.place(done)
}

func (f *function) join(in *api.Instr, to spot) {
	none, done := f.newLabel(), f.newLabel()
	handle := f.taken(in.Args[0], f.a)
	f.wait(handle, handleLeft)
	f.load(f.b, handle, handleGave)
	f.unless(f.b, none)
	f.leaveNumber(to, isSome)
	f.copy(to.plus(someWords), spot{handle, handleWords}, f.content(in))
	f.jump(done)
	f.place(none)
	f.leaveNumber(to, isNone)
	f.place(done)
	f.release(handle)
}
