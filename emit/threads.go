package emit

import (
	"holdfast/api"
	"holdfast/shapes"
)

// A handle is the address of a block: whether the thread has left, whether somebody has the handle, whether the thread gave something; then what it gave, and ahead of that what it has captured.
const (
	handleLeft = iota
	handleHeld
	handleGave
	handleWords
)

func (f *function) spawn(in *api.Instr) {
	parts := f.captured(in.N, handleWords)
	l := f.layouts[in.N]
	f.sync()
	f.block(f.a, max(f.words(parts, handleWords), handleWords+f.weight(l.kinds[0])))
	f.leaveNumber(spot{f.a, handleLeft}, 0)
	f.leaveNumber(spot{f.a, handleHeld}, 1)
	f.leaveNumber(spot{f.a, handleGave}, 0)
	f.takeAll(in.Args, spot{f.a, 0}, parts)
	f.putAt(api.Ins{Op: api.MSpawn, B: f.a}, partA, f.threads[in.N])
	f.give(in.To, f.a)
}

// beginMain writes how the program begins and ends: slot 0 is what main is given.
func (m *maker) beginMain() {
	const frame = 1
	failed := m.newLabel()
	m.move(frame+m.layouts[m.program.Main].slots[1], 0)
	m.call(m.entries[m.program.Main], frame, failed)
	m.sync()
	m.stop(frame, 1)
	m.place(failed)
	m.sync()
	m.stop(0, 2)
}

// beginThread writes how a thread begins and ends that runs a function: slot 0 is its handle.
func (m *maker) beginThread(fn int) {
	const handle, held, frame = 0, 1, 4
	l := m.layouts[fn]
	h := hand{maker: m, word: 2, number: 3, top: frame + l.given}
	failed, left, alone, empty := h.newLabel(), h.newLabel(), h.newLabel(), h.newLabel()
	h.place(h.threads[fn])
	h.sync()
	h.copy(slot(frame+l.slots[1]), spot{handle, handleWords}, h.weight(l.kinds[1]))
	h.call(h.entries[fn], frame, failed)
	h.sync()
	h.load(held, handle, handleHeld)
	h.unless(held, alone)
	h.copy(spot{handle, handleWords}, slot(frame), h.weight(l.kinds[0]))
	h.leaveNumber(spot{handle, handleGave}, 1)
	h.place(left)
	h.leaveNumber(spot{handle, handleLeft}, 1)
	h.stop(0, 0)
	h.place(failed)
	h.sync()
	h.load(held, handle, handleHeld)
	h.unless(held, empty)
	h.jump(left)
	h.place(alone)
	h.release(handle)
	h.dropGiven(l.kinds[0], frame)
	h.stop(0, 0)
	h.place(empty)
	h.release(handle)
	h.stop(0, 0)
}

// dropGiven drops what a thread has given, from a slot on, if nobody asks for it. A panic then is its end.
func (h *hand) dropGiven(kind shapes.Type, at int) {
	if h.dropped(kind) {
		over := h.newLabel()
		h.adr(h.top, at)
		h.call(h.dropper(kind), h.top, over)
		h.place(over)
	}
}
