package emit

import "holdfast/api"

// A Vec is the address of its elements (0 if there is no room for any yet), for how many there is room, and how many there are. A Slice or SliceMut is the address of its first element, and how many there are.
const (
	vecWords = iota
	vecRoom
	vecCount
)

const (
	sliceWords = iota
	sliceCount
)

// An Rc or Arc is the address of a block: how many owners there are, then the content.
const (
	shareCount = iota
	shareWords
)

// A RefCell begins with how many Refs have it, or withMut; a Mutex with 1 while it is not locked: the machine waits for what is not 0. The content comes behind that. A guard is the address of its cell.
const (
	cellState = iota
	cellWords
)

const withMut = -1

// A Sender or Receiver is the address of a block: how many values wait, and one more if there is no sender any more; how many senders there are; whether there is a receiver; what waits first, and last.
const (
	chanReady = iota
	chanSenders
	chanOpen
	chanFirst
	chanLast
	chanSize
)

// What waits is a block: the next one that waits, or 0, then the value.
const (
	waitNext = iota
	waitWords
)

// The variants of Option, and where what Some has stands in it.
const (
	isNone = iota
	isSome
	someWords = 1
)

// lib writes the call of a function of std.
func (f *function) lib(in *api.Instr) {
	switch in.N {
	case api.LVec, api.LPush, api.LPop, api.LLen, api.LAt, api.LAtMut, api.LView, api.LViewMut:
		f.libVec(in)
	case api.LSLen, api.LSAt, api.LCut, api.LMLen, api.LMAt, api.LCutMut:
		f.libSlice(in)
	case api.LRc, api.LRcClone, api.LRcGet, api.LRcCount, api.LArc, api.LArcClone, api.LArcGet:
		f.libShared(in)
	case api.LCell, api.LGet, api.LSet, api.LRefCell, api.LMutex:
		f.libCell(in)
	case api.LBorrow, api.LBorrowMut, api.LRefGet, api.LMutGet, api.LLock, api.LLockGet:
		f.libGuard(in)
	case api.LChan, api.LSend, api.LRecv, api.LSenderClone, api.LJoin:
		f.libThreads(in)
	default:
		f.libOwned(in)
	}
}

// content is how many words a value of the type weighs that a function of std is asked for.
func (f *function) content(in *api.Instr) int {
	return f.weight(f.Of(in.Types[0]))
}

// must begins a panic, unless a holds of two slots.
func (f *function) must(op, a, b int) {
	f.op(op, f.number, a, b)
	f.unless(f.number, f.fails)
}

// libOwned has boxed, unbox, replace and out.
func (f *function) libOwned(in *api.Instr) {
	switch in.N {
	case api.LBoxed:
		f.block(f.a, f.content(in))
		f.take(in.Args[0], spot{f.a, 0})
		f.give(in.To, f.a)
	case api.LUnbox:
		box := f.taken(in.Args[0], f.a)
		f.copy(f.spotOf(in.To, f.to), spot{box, 0}, f.content(in))
		f.release(box)
		f.gain(in.To)
	case api.LReplace:
		at := f.taken(in.Args[0], f.a)
		f.copy(f.spotOf(in.To, f.to), spot{at, 0}, f.content(in))
		f.take(in.Args[1], spot{at, 0})
		f.gain(in.To)
	case api.LOut:
		f.put(api.Ins{Op: api.MOut, A: f.taken(in.Args[0], f.a)})
	default:
		panic(in.N)
	}
}

// libShared has the functions of Rc and Arc.
func (f *function) libShared(in *api.Instr) {
	if in.N == api.LRc || in.N == api.LArc {
		f.block(f.a, shareWords+f.content(in))
		f.leaveNumber(spot{f.a, shareCount}, 1)
		f.take(in.Args[0], spot{f.a, shareWords})
		f.give(in.To, f.a)
		return
	}
	if in.N == api.LArcClone {
		f.sync()
	}
	f.load(f.a, f.taken(in.Args[0], f.a), 0)
	switch in.N {
	case api.LRcClone, api.LArcClone:
		f.change(f.b, spot{f.a, shareCount}, 1)
	case api.LRcCount:
		f.load(f.a, f.a, shareCount)
	case api.LRcGet, api.LArcGet:
		f.plus(f.a, f.a, shareWords)
	}
	f.give(in.To, f.a)
}

// libCell has the functions of cells that need no guard.
func (f *function) libCell(in *api.Instr) {
	to := f.spotOf(in.To, f.to)
	switch in.N {
	case api.LCell:
		f.take(in.Args[0], to)
	case api.LRefCell:
		f.leaveNumber(to.plus(cellState), 0)
		f.take(in.Args[0], to.plus(cellWords))
	case api.LMutex:
		f.leaveNumber(to.plus(cellState), 1)
		f.take(in.Args[0], to.plus(cellWords))
	case api.LGet:
		f.copy(to, spot{f.taken(in.Args[0], f.a), 0}, f.content(in))
	case api.LSet:
		f.take(in.Args[1], spot{f.taken(in.Args[0], f.a), 0})
	}
	f.gain(in.To)
}

// libGuard has the functions of guards, those that ask for one among them.
func (f *function) libGuard(in *api.Instr) {
	cell := f.taken(in.Args[0], f.a)
	state := spot{cell, cellState}
	switch in.N {
	case api.LBorrow:
		f.fetch(f.b, state)
		f.set(f.c, withMut)
		f.must(api.ONe, f.b, f.c)
		f.change(f.b, state, 1)
	case api.LBorrowMut:
		f.fetch(f.b, state)
		f.set(f.c, 0)
		f.must(api.OEq, f.b, f.c)
		f.leaveNumber(state, withMut)
	case api.LLock:
		f.wait(cell, cellState)
		f.leaveNumber(state, 0)
	default:
		f.load(f.a, cell, 0)
		f.plus(f.a, f.a, cellWords)
		cell = f.a
	}
	f.give(in.To, cell)
}
